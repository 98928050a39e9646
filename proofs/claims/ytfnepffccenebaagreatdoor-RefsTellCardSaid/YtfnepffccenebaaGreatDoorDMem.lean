/-
  Words and blocks: the digest.
-/
import Derived.Test.YtfnepffccenebaaGreatDoorDPure
import Derived.Test.YtfnepffccenebaaGreatDoorProg
import Derived.WalkKit
import Derived.OneCell
import Derived.Laws.BitsAllLaws
import Derived.Laws.Bits64b
import Derived.Laws.Shifts
import Derived.Deep.QuietTactic
import Derived.Below
import Derived.Laws.OwnMore
import Derived.Deep.Draws
import Derived.Laws.Rows
import Derived.Deep.WholeRow
import Derived.Laws.CopyRow
import Derived.StillTailTactics
import Derived.BigQuiet
import Derived.IntWalk
namespace Go.Proofs.YtfnepffccenebaaGreatDoor
open Go Go.RowKit
theorem w32_nat (n : Nat) : IntKind.u32.wrap (n : Int) = ((n % 4294967296 : Nat) : Int) := by rw [IntKind.wrap_u32']; omega
theorem ofInt32 (x : UInt32) : BitVec.ofInt 32 (x.toNat : Int) = x.toBitVec := by
  rw [BitVec.ofInt_natCast]; exact BitVec.eq_of_toNat_eq (by simp)
theorem u32_back (b : BitVec 32) : IntKind.u32.wrap (b.toNat : Int) = (b.toNat : Int) := by
  have := b.isLt
  rw [w32_nat, Nat.mod_eq_of_lt (by omega)]
theorem and32 (x y : UInt32) : bits .and .u32 (x.toNat : Int) (y.toNat : Int) = ((x &&& y).toNat : Int) := by
  show IntKind.u32.wrap ((BitVec.ofInt 32 (x.toNat : Int) &&& BitVec.ofInt 32 (y.toNat : Int)).toNat : Int) = _
  rw [u32_back, ofInt32, ofInt32]; rfl
theorem xor32 (x y : UInt32) : bits .xor .u32 (x.toNat : Int) (y.toNat : Int) = ((x ^^^ y).toNat : Int) := by
  show IntKind.u32.wrap ((BitVec.ofInt 32 (x.toNat : Int) ^^^ BitVec.ofInt 32 (y.toNat : Int)).toNat : Int) = _
  rw [u32_back, ofInt32, ofInt32]; rfl
theorem not32 (x : UInt32) : bits .xor .u32 4294967295 (x.toNat : Int) = ((~~~x).toNat : Int) := by
  show IntKind.u32.wrap ((BitVec.ofInt 32 4294967295 ^^^ BitVec.ofInt 32 (x.toNat : Int)).toNat : Int) = _
  rw [u32_back, ofInt32]
  have : BitVec.ofInt 32 4294967295 ^^^ x.toBitVec = ~~~x.toBitVec := by
    rw [show BitVec.ofInt 32 4294967295 = BitVec.allOnes 32 by decide, BitVec.allOnes_xor]
  rw [this]; rfl
theorem add32 (x y : UInt32) : IntKind.u32.wrap ((x.toNat : Int) + (y.toNat : Int)) = ((x + y).toNat : Int) := by
  rw [← Int.natCast_add, w32_nat, UInt32.toNat_add]
theorem shr32 (x : UInt32) (n : Nat) (h : n < 32) : (x.toNat : Int) / ((2 ^ n : Nat) : Int) = ((x >>> UInt32.ofNat n).toNat : Int) := by
  rw [← Int.natCast_ediv, UInt32.toNat_shiftRight, UInt32.toNat_ofNat', Nat.mod_eq_of_lt (a := n) (by omega), Nat.mod_eq_of_lt h, Nat.shiftRight_eq_div_pow]
theorem shl32 (x : UInt32) (n : Nat) (h : n < 32) : IntKind.u32.wrap ((x.toNat : Int) * ((2 ^ n : Nat) : Int)) = ((x <<< UInt32.ofNat n).toNat : Int) := by
  rw [← Int.natCast_mul, w32_nat, UInt32.toNat_shiftLeft, UInt32.toNat_ofNat', Nat.mod_eq_of_lt (a := n) (by omega), Nat.mod_eq_of_lt h, Nat.shiftLeft_eq]
theorem shrP (x : UInt32) (n : Nat) (h : n < 32) : (x.toNat : Int) / 2 ^ n = ((x >>> UInt32.ofNat n).toNat : Int) := by
  rw [← shr32 x n h]; simp
theorem shlP (x : UInt32) (n : Nat) (h : n < 32) : (x.toNat : Int) * 2 ^ n % 4294967296 = ((x <<< UInt32.ofNat n).toNat : Int) := by
  rw [← shl32 x n h, IntKind.wrap_u32']; simp
theorem ret_u32 {a b : Int} (h : a = b) : Ending.returned (.int .u32 a) = .returned (.int .u32 b) := by rw [h]
theorem not32' (x : UInt32) : bits .xor .u32 (if IntKind.u32.signed = true then -1 else IntKind.u32.max) (x.toNat : Int) = ((~~~x).toNat : Int) := not32 x
theorem add32m (x y : UInt32) : ((x.toNat : Int) + (y.toNat : Int)) % 4294967296 = ((x + y).toNat : Int) := by rw [← add32, IntKind.wrap_u32']
end Go.Proofs.YtfnepffccenebaaGreatDoor
namespace Go.Proofs.YtfnepffccenebaaGreatDoor
open Go Go.RowKit
def wv (x : UInt32) : Value := .int .u32 (x.toNat : Int)
def bv (x : UInt8) : Value := .int .u8 (x.toNat : Int)
/-- n words as cells. -/
def u32s (n : Nat) (f : Nat → UInt32) : Array Value := ((List.range n).map fun i => wv (f i)).toArray
/-- n bytes as cells. -/
def u8s (n : Nat) (f : Nat → UInt8) : Array Value := ((List.range n).map fun i => bv (f i)).toArray
theorem u32s_size (n : Nat) (f : Nat → UInt32) : (u32s n f).size = n := by simp [u32s]
theorem u8s_size (n : Nat) (f : Nat → UInt8) : (u8s n f).size = n := by simp [u8s]
theorem u32s_get (n : Nat) (f : Nat → UInt32) (i : Nat) (h : i < n) : (u32s n f)[i]? = some (wv (f i)) := by simp [u32s, h]
theorem u8s_get (n : Nat) (f : Nat → UInt8) (i : Nat) (h : i < n) : (u8s n f)[i]? = some (bv (f i)) := by simp [u8s, h]
def upd {β : Type} (f : Nat → β) (k : Nat) (x : β) (i : Nat) : β := if i = k then x else f i
theorem upd_same {β : Type} (f : Nat → β) (k : Nat) (x : β) : upd f k x k = x := if_pos rfl
theorem upd_other {β : Type} (f : Nat → β) (k : Nat) (x : β) (i : Nat) (h : i ≠ k) : upd f k x i = f i := if_neg h
theorem u32s_set (n : Nat) (f : Nat → UInt32) (k : Nat) (x : UInt32) : (u32s n f).setIfInBounds k (wv x) = u32s n (upd f k x) := by
  apply Array.ext_getElem?
  intro i
  rw [Array.getElem?_setIfInBounds]
  by_cases h : k = i
  · subst h
    rw [if_pos rfl, u32s_size]
    by_cases hk : k < n
    · rw [if_pos hk, u32s_get _ _ _ hk, upd_same]
    · rw [if_neg hk, Array.getElem?_eq_none (by rw [u32s_size]; omega)]
  · rw [if_neg h]
    by_cases hi : i < n
    · rw [u32s_get _ _ _ hi, u32s_get _ _ _ hi, upd_other _ _ _ _ (Ne.symm h)]
    · rw [Array.getElem?_eq_none (by rw [u32s_size]; omega), Array.getElem?_eq_none (by rw [u32s_size]; omega)]
theorem u8s_set (n : Nat) (f : Nat → UInt8) (k : Nat) (x : UInt8) : (u8s n f).setIfInBounds k (bv x) = u8s n (upd f k x) := by
  apply Array.ext_getElem?
  intro i
  rw [Array.getElem?_setIfInBounds]
  by_cases h : k = i
  · subst h
    rw [if_pos rfl, u8s_size]
    by_cases hk : k < n
    · rw [if_pos hk, u8s_get _ _ _ hk, upd_same]
    · rw [if_neg hk, Array.getElem?_eq_none (by rw [u8s_size]; omega)]
  · rw [if_neg h]
    by_cases hi : i < n
    · rw [u8s_get _ _ _ hi, u8s_get _ _ _ hi, upd_other _ _ _ _ (Ne.symm h)]
    · rw [Array.getElem?_eq_none (by rw [u8s_size]; omega), Array.getElem?_eq_none (by rw [u8s_size]; omega)]
theorem u32s_congr {n : Nat} {f g : Nat → UInt32} (h : ∀ i, i < n → f i = g i) : u32s n f = u32s n g := by
  unfold u32s
  congr 1
  exact List.map_congr_left fun i hi => by rw [h i (by simpa using hi)]
theorem u8s_congr {n : Nat} {f g : Nat → UInt8} (h : ∀ i, i < n → f i = g i) : u8s n f = u8s n g := by
  unfold u8s
  congr 1
  exact List.map_congr_left fun i hi => by rw [h i (by simpa using hi)]
theorem u32s_one (n : Nat) (f : Nat → UInt32) : (u32s n f).all (·.oneCell') = true := by
  rw [Array.all_eq_true_iff_forall_mem]
  intro v hv
  simp only [u32s, List.mem_toArray, List.mem_map] at hv
  obtain ⟨i, _, rfl⟩ := hv
  rfl
theorem u8s_one (n : Nat) (f : Nat → UInt8) : (u8s n f).all (·.oneCell') = true := by
  rw [Array.all_eq_true_iff_forall_mem]
  intro v hv
  simp only [u8s, List.mem_toArray, List.mem_map] at hv
  obtain ⟨i, _, rfl⟩ := hv
  rfl
/-- Block g is just these cells. -/
def Blk (w : World) (g : Nat) (t : TypeId) (cs : Array Value) : Prop := w.heap[g]? = some (.cells cs t (0, 0))
section
variable {w w' : World} {g : Nat} {t : TypeId} {cs : Array Value}
theorem Blk.lt (h : Blk w g t cs) : g < w.heap.size := by
  rcases Nat.lt_or_ge g w.heap.size with hlt | hge
  · exact hlt
  · unfold Blk at h; rw [Array.getElem?_eq_none hge] at h; cases h
theorem Blk.cell (h : Blk w g t cs) (i : Nat) : w.cell? ⟨g, i, none⟩ = cs[i]? := cell_of_row w g i cs t (0, 0) h
theorem Blk.frozen (h : Blk w g t cs) (i : Nat) : w.frozen? ⟨g, i, none⟩ = false := by
  unfold Blk at h
  simp [World.frozen?, h]
theorem Blk.new (w : World) (t : TypeId) (cs : Array Value) : Blk (w.alloc (.cells cs t)) w.heap.size t cs := heap_alloc_new w _
theorem Blk.drewN (h : Blk w g t cs) (n : Nat) : Blk (w.drewN n) g t cs := h
theorem Blk.alloc (h : Blk w g t cs) (o : Obj) : Blk (w.alloc o) g t cs := (Below.heap_alloc w o g h.lt).trans h
theorem Blk.set_ (h : Blk w g t cs) (i : Nat) (u : Value) : Blk (w.setCell ⟨g, i, none⟩ u) g t (cs.setIfInBounds i u) := by
  unfold Blk at h ⊢
  simp [World.setCell, Array.getElem?_modify, h]
theorem Blk.far (h : Blk w g t cs) {p : Addr} (hp : g ≠ p.block) (u : Value) : Blk (w.setCell p u) g t cs := (Below.heap_setCell w p u g hp).trans h
theorem Blk.below {B : Nat} (h : Blk w g t cs) (hb : Below B w w') (hg : g < B) : Blk w' g t cs := (hb.block g hg).trans h
theorem Blk.word {n : Nat} {f : Nat → UInt32} (h : Blk w g t (u32s n f)) (i : Nat) (hi : i < n) : w.cell? ⟨g, i, none⟩ = some (.int .u32 ((f i).toNat : Int)) := (h.cell i).trans (u32s_get n f i hi)
theorem Blk.byte {n : Nat} {f : Nat → UInt8} (h : Blk w g t (u8s n f)) (i : Nat) (hi : i < n) : w.cell? ⟨g, i, none⟩ = some (.int .u8 ((f i).toNat : Int)) := (h.cell i).trans (u8s_get n f i hi)
theorem Blk.setW {n : Nat} {f : Nat → UInt32} (h : Blk w g t (u32s n f)) (i : Nat) (x : UInt32) : Blk (w.setCell ⟨g, i, none⟩ (.int .u32 (x.toNat : Int))) g t (u32s n (upd f i x)) := by
  have := h.set_ i (wv x); rwa [u32s_set] at this
theorem Blk.setB {n : Nat} {f : Nat → UInt8} (h : Blk w g t (u8s n f)) (i : Nat) (x : UInt8) : Blk (w.setCell ⟨g, i, none⟩ (.int .u8 (x.toNat : Int))) g t (u8s n (upd f i x)) := by
  have := h.set_ i (bv x); rwa [u8s_set] at this
end
end Go.Proofs.YtfnepffccenebaaGreatDoor
namespace Go.Proofs.YtfnepffccenebaaGreatDoor
open Go Go.RowKit
theorem addV_get (v u : V) (k : Nat) (h : k < 8) : (addV v u).get k = v.get k + u.get k := by
  match k, h with
  | 0, _ => rfl
  | 1, _ => rfl
  | 2, _ => rfl
  | 3, _ => rfl
  | 4, _ => rfl
  | 5, _ => rfl
  | 6, _ => rfl
  | 7, _ => rfl
end Go.Proofs.YtfnepffccenebaaGreatDoor
