/-
  The plain side of layer 2.
  Words and blocks: the digest.
  The plain side of layer 4: trees, commits and tags as lists of bytes, there and back.
-/
import Derived.Lib.Hide
import Derived.Test.YtialgldmogigfaaGreatDoorProg
import Derived.WalkKit
import Derived.OneCell
import Derived.Laws.BitsAllLaws
import Derived.Laws.Bits64b
import Derived.Laws.Shifts
import Derived.Deep.QuietTactic
import Derived.Below
import Derived.Laws.OwnMore
import Derived.Deep.Draws
import Derived.Laws.Rows
import Derived.Deep.WholeRow
import Derived.Laws.CopyRow
import Derived.StillTailTactics
import Derived.BigQuiet
import Derived.IntWalk
import GoSem.ClaimWide

namespace Go.Proofs.YtialgldmogigfaaGreatDoor
/-- Turned to the right by n. -/
def rotr (x n : UInt32) : UInt32 := x >>> n ||| x <<< (32 - n)
structure V where
  a : UInt32
  b : UInt32
  c : UInt32
  d : UInt32
  e : UInt32
  f : UInt32
  g : UInt32
  h : UInt32
deriving DecidableEq
def bs0 (x : UInt32) : UInt32 := rotr x 2 ^^^ rotr x 13 ^^^ rotr x 22
def bs1 (x : UInt32) : UInt32 := rotr x 6 ^^^ rotr x 11 ^^^ rotr x 25
def ss0 (x : UInt32) : UInt32 := rotr x 7 ^^^ rotr x 18 ^^^ x >>> 3
def ss1 (x : UInt32) : UInt32 := rotr x 17 ^^^ rotr x 19 ^^^ x >>> 10
def chs (e f g : UInt32) : UInt32 := (e &&& f) ^^^ (~~~e &&& g)
def maj (a b c : UInt32) : UInt32 := (a &&& b) ^^^ (a &&& c) ^^^ (b &&& c)
def rndX (k w : UInt32) (v : V) : UInt32 := v.h + bs1 v.e + chs v.e v.f v.g + k + w
def rndY (v : V) : UInt32 := bs0 v.a + maj v.a v.b v.c
def rnd (k w : UInt32) (v : V) : V := ⟨rndX k w v + rndY v, v.a, v.b, v.c, v.d + rndX k w v, v.e, v.f, v.g⟩
def rnds (kf wf : Nat → UInt32) (v : V) : Nat → V
  | 0 => v
  | t + 1 => rnd (kf t) (wf t) (rnds kf wf v t)
def addV (v u : V) : V := ⟨v.a + u.a, v.b + u.b, v.c + u.c, v.d + u.d, v.e + u.e, v.f + u.f, v.g + u.g, v.h + u.h⟩
/-- Word t of the 64, m being the first sixteen. -/
def sched (m : Nat → UInt32) (t : Nat) : UInt32 :=
  if _h : t < 16 then m t else ss1 (sched m (t - 2)) + sched m (t - 7) + ss0 (sched m (t - 15)) + sched m (t - 16)
termination_by t
theorem sched_lo (m : Nat → UInt32) (t : Nat) (h : t < 16) : sched m t = m t := by rw [sched, dif_pos h]
theorem sched_hi (m : Nat → UInt32) (t : Nat) (h : ¬ t < 16) : sched m t = ss1 (sched m (t - 2)) + sched m (t - 7) + ss0 (sched m (t - 15)) + sched m (t - 16) := by rw [sched, dif_neg h]
/-- Word t of the bytes m. -/
def word (m : Nat → UInt8) (t : Nat) : UInt32 := (m (4 * t)).toUInt32 <<< 24 ||| (m (4 * t + 1)).toUInt32 <<< 16 ||| (m (4 * t + 2)).toUInt32 <<< 8 ||| (m (4 * t + 3)).toUInt32
/-- The eight words behind the block m. -/
def mixV (kf : Nat → UInt32) (v : V) (m : Nat → UInt8) : V := addV v (rnds kf (sched (word m)) v 64)
/-- The eight words behind n blocks of m. -/
def takeV (kf : Nat → UInt32) (v : V) (m : Nat → UInt8) : Nat → V
  | 0 => v
  | n + 1 => mixV kf (takeV kf v m n) (fun j => m (64 * n + j))
theorem word_congr {m m' : Nat → UInt8} {t : Nat} (h : ∀ j, j < 4 → m (4 * t + j) = m' (4 * t + j)) : word m t = word m' t := by
  unfold word
  rw [h 1 (by omega), h 2 (by omega), h 3 (by omega)]
  have := h 0 (by omega)
  simp only [Nat.add_zero] at this
  rw [this]
theorem sched_congr {m m' : Nat → UInt32} (h : ∀ t, t < 16 → m t = m' t) (t : Nat) : sched m t = sched m' t := by
  induction t using Nat.strongRecOn with
  | _ t ih =>
    by_cases h16 : t < 16
    · rw [sched_lo _ _ h16, sched_lo _ _ h16, h t h16]
    · rw [sched_hi _ _ h16, sched_hi _ _ h16, ih (t - 2) (by omega), ih (t - 7) (by omega), ih (t - 15) (by omega), ih (t - 16) (by omega)]
theorem rnds_congr {k k' w w' : Nat → UInt32} (v : V) (n : Nat) (h : ∀ t, t < n → k t = k' t ∧ w t = w' t) : rnds k w v n = rnds k' w' v n := by
  induction n with
  | zero => rfl
  | succ n ih => rw [rnds, rnds, ih fun t ht => h t (by omega), (h n (by omega)).1, (h n (by omega)).2]
theorem mixV_congr {k k' : Nat → UInt32} (v : V) {m m' : Nat → UInt8} (hk : ∀ t, t < 64 → k t = k' t) (h : ∀ j, j < 64 → m j = m' j) : mixV k v m = mixV k' v m' := by
  unfold mixV
  rw [rnds_congr v 64 (k' := k') (w' := sched (word m')) fun t ht => ⟨hk t ht, sched_congr (fun t ht => word_congr fun j hj => h _ (by omega)) t⟩]
theorem takeV_congr {k k' : Nat → UInt32} (v : V) {m m' : Nat → UInt8} (n : Nat) (hk : ∀ t, t < 64 → k t = k' t) (h : ∀ j, j < 64 * n → m j = m' j) : takeV k v m n = takeV k' v m' n := by
  induction n with
  | zero => rfl
  | succ n ih => rw [takeV, takeV, ih fun j hj => h j (by omega), mixV_congr _ hk fun j hj => h _ (by omega)]
/-- The length of the padded text. -/
def tot (n : Nat) : Nat := (n + 8) / 64 * 64 + 64
/-- The padded text. -/
def padded (l : List UInt8) (j : Nat) : UInt8 :=
  if j < l.length then l.getD j 0 else if j = l.length then 128 else if j < tot l.length - 8 then 0 else UInt8.ofNat (8 * l.length / 2 ^ (8 * (tot l.length - 1 - j)))
/-- The first bits of the cube roots' fractions. -/
def KL : List UInt32 := [
  0x428a2f98, 0x71374491, 0xb5c0fbcf, 0xe9b5dba5, 0x3956c25b, 0x59f111f1, 0x923f82a4, 0xab1c5ed5,
  0xd807aa98, 0x12835b01, 0x243185be, 0x550c7dc3, 0x72be5d74, 0x80deb1fe, 0x9bdc06a7, 0xc19bf174,
  0xe49b69c1, 0xefbe4786, 0x0fc19dc6, 0x240ca1cc, 0x2de92c6f, 0x4a7484aa, 0x5cb0a9dc, 0x76f988da,
  0x983e5152, 0xa831c66d, 0xb00327c8, 0xbf597fc7, 0xc6e00bf3, 0xd5a79147, 0x06ca6351, 0x14292967,
  0x27b70a85, 0x2e1b2138, 0x4d2c6dfc, 0x53380d13, 0x650a7354, 0x766a0abb, 0x81c2c92e, 0x92722c85,
  0xa2bfe8a1, 0xa81a664b, 0xc24b8b70, 0xc76c51a3, 0xd192e819, 0xd6990624, 0xf40e3585, 0x106aa070,
  0x19a4c116, 0x1e376c08, 0x2748774c, 0x34b0bcb5, 0x391c0cb3, 0x4ed8aa4a, 0x5b9cca4f, 0x682e6ff3,
  0x748f82ee, 0x78a5636f, 0x84c87814, 0x8cc70208, 0x90befffa, 0xa4506ceb, 0xbef9a3f7, 0xc67178f2]
def HL : List UInt32 := [0x6a09e667, 0xbb67ae85, 0x3c6ef372, 0xa54ff53a, 0x510e527f, 0x9b05688c, 0x1f83d9ab, 0x5be0cd19]
def KF (t : Nat) : UInt32 := KL.getD t 0
def H0 : V := ⟨0x6a09e667, 0xbb67ae85, 0x3c6ef372, 0xa54ff53a, 0x510e527f, 0x9b05688c, 0x1f83d9ab, 0x5be0cd19⟩
/-- The eight words of a text's sum. -/
def sumV (l : List UInt8) : V := takeV KF H0 (padded l) (tot l.length / 64)
def V.get (v : V) : Nat → UInt32
  | 0 => v.a
  | 1 => v.b
  | 2 => v.c
  | 3 => v.d
  | 4 => v.e
  | 5 => v.f
  | 6 => v.g
  | _ => v.h
/-- Byte i of the sum of eight words. -/
def byteV (v : V) (i : Nat) : UInt8 := (v.get (i / 4) >>> UInt32.ofNat (24 - i % 4 * 8)).toUInt8
/-- A text's sum. -/
def sumL (l : List UInt8) : List UInt8 := (List.range 32).map (byteV (sumV l))
theorem sumL_length (l : List UInt8) : (sumL l).length = 32 := by simp [sumL]
/-- A digit of sixteen. -/
def hexD (n : UInt8) : UInt8 := if n < 10 then 48 + n else 87 + n
/-- A text's name. -/
def nameL (l : List UInt8) : List UInt8 := (sumL l).flatMap fun c => [hexD (c / 16), hexD (c % 16)]
theorem flat2_length (f g : UInt8 → UInt8) (l : List UInt8) : (l.flatMap fun c => [f c, g c]).length = 2 * l.length := by
  induction l with
  | nil => rfl
  | cons c l ih => simp only [List.flatMap_cons, List.length_append, ih, List.length_cons, List.length_nil]; omega
theorem nameL_length (l : List UInt8) : (nameL l).length = 64 := by unfold nameL; rw [flat2_length, sumL_length]
/-- A digit. -/
def isD (c : UInt8) : Bool := (48 ≤ c && c ≤ 57) || (97 ≤ c && c ≤ 102)
/-- May the text be a name? -/
def namedB (l : List UInt8) : Bool := l.length == 64 && l.all isD
end Go.Proofs.YtialgldmogigfaaGreatDoor


namespace Go.Proofs.YtialgldmogigfaaGreatDoor
open Go Go.RowKit
theorem w32_nat (n : Nat) : IntKind.u32.wrap (n : Int) = ((n % 4294967296 : Nat) : Int) := by rw [IntKind.wrap_u32']; omega
theorem ofInt32 (x : UInt32) : BitVec.ofInt 32 (x.toNat : Int) = x.toBitVec := by
  rw [BitVec.ofInt_natCast]; exact BitVec.eq_of_toNat_eq (by simp)
theorem u32_back (b : BitVec 32) : IntKind.u32.wrap (b.toNat : Int) = (b.toNat : Int) := by
  have := b.isLt
  rw [w32_nat, Nat.mod_eq_of_lt (by omega)]
theorem and32 (x y : UInt32) : bits .and .u32 (x.toNat : Int) (y.toNat : Int) = ((x &&& y).toNat : Int) := by
  show IntKind.u32.wrap ((BitVec.ofInt 32 (x.toNat : Int) &&& BitVec.ofInt 32 (y.toNat : Int)).toNat : Int) = _
  rw [u32_back, ofInt32, ofInt32]; rfl
theorem xor32 (x y : UInt32) : bits .xor .u32 (x.toNat : Int) (y.toNat : Int) = ((x ^^^ y).toNat : Int) := by
  show IntKind.u32.wrap ((BitVec.ofInt 32 (x.toNat : Int) ^^^ BitVec.ofInt 32 (y.toNat : Int)).toNat : Int) = _
  rw [u32_back, ofInt32, ofInt32]; rfl
theorem not32 (x : UInt32) : bits .xor .u32 4294967295 (x.toNat : Int) = ((~~~x).toNat : Int) := by
  show IntKind.u32.wrap ((BitVec.ofInt 32 4294967295 ^^^ BitVec.ofInt 32 (x.toNat : Int)).toNat : Int) = _
  rw [u32_back, ofInt32]
  have : BitVec.ofInt 32 4294967295 ^^^ x.toBitVec = ~~~x.toBitVec := by
    rw [show BitVec.ofInt 32 4294967295 = BitVec.allOnes 32 by decide, BitVec.allOnes_xor]
  rw [this]; rfl
theorem add32 (x y : UInt32) : IntKind.u32.wrap ((x.toNat : Int) + (y.toNat : Int)) = ((x + y).toNat : Int) := by
  rw [← Int.natCast_add, w32_nat, UInt32.toNat_add]
theorem shr32 (x : UInt32) (n : Nat) (h : n < 32) : (x.toNat : Int) / ((2 ^ n : Nat) : Int) = ((x >>> UInt32.ofNat n).toNat : Int) := by
  rw [← Int.natCast_ediv, UInt32.toNat_shiftRight, UInt32.toNat_ofNat', Nat.mod_eq_of_lt (a := n) (by omega), Nat.mod_eq_of_lt h, Nat.shiftRight_eq_div_pow]
theorem shl32 (x : UInt32) (n : Nat) (h : n < 32) : IntKind.u32.wrap ((x.toNat : Int) * ((2 ^ n : Nat) : Int)) = ((x <<< UInt32.ofNat n).toNat : Int) := by
  rw [← Int.natCast_mul, w32_nat, UInt32.toNat_shiftLeft, UInt32.toNat_ofNat', Nat.mod_eq_of_lt (a := n) (by omega), Nat.mod_eq_of_lt h, Nat.shiftLeft_eq]
theorem shrP (x : UInt32) (n : Nat) (h : n < 32) : (x.toNat : Int) / 2 ^ n = ((x >>> UInt32.ofNat n).toNat : Int) := by
  rw [← shr32 x n h]; simp
theorem shlP (x : UInt32) (n : Nat) (h : n < 32) : (x.toNat : Int) * 2 ^ n % 4294967296 = ((x <<< UInt32.ofNat n).toNat : Int) := by
  rw [← shl32 x n h, IntKind.wrap_u32']; simp
theorem ret_u32 {a b : Int} (h : a = b) : Ending.returned (.int .u32 a) = .returned (.int .u32 b) := by rw [h]
theorem not32' (x : UInt32) : bits .xor .u32 (if IntKind.u32.signed = true then -1 else IntKind.u32.max) (x.toNat : Int) = ((~~~x).toNat : Int) := not32 x
theorem add32m (x y : UInt32) : ((x.toNat : Int) + (y.toNat : Int)) % 4294967296 = ((x + y).toNat : Int) := by rw [← add32, IntKind.wrap_u32']
end Go.Proofs.YtialgldmogigfaaGreatDoor
namespace Go.Proofs.YtialgldmogigfaaGreatDoor
open Go Go.RowKit
def wv (x : UInt32) : Value := .int .u32 (x.toNat : Int)
def bv (x : UInt8) : Value := .int .u8 (x.toNat : Int)
/-- n words as cells. -/
def u32s (n : Nat) (f : Nat → UInt32) : Array Value := ((List.range n).map fun i => wv (f i)).toArray
/-- n bytes as cells. -/
def u8s (n : Nat) (f : Nat → UInt8) : Array Value := ((List.range n).map fun i => bv (f i)).toArray
theorem u32s_size (n : Nat) (f : Nat → UInt32) : (u32s n f).size = n := by simp [u32s]
theorem u8s_size (n : Nat) (f : Nat → UInt8) : (u8s n f).size = n := by simp [u8s]
theorem u32s_get (n : Nat) (f : Nat → UInt32) (i : Nat) (h : i < n) : (u32s n f)[i]? = some (wv (f i)) := by simp [u32s, h]
theorem u8s_get (n : Nat) (f : Nat → UInt8) (i : Nat) (h : i < n) : (u8s n f)[i]? = some (bv (f i)) := by simp [u8s, h]
def upd {β : Type} (f : Nat → β) (k : Nat) (x : β) (i : Nat) : β := if i = k then x else f i
theorem upd_same {β : Type} (f : Nat → β) (k : Nat) (x : β) : upd f k x k = x := if_pos rfl
theorem upd_other {β : Type} (f : Nat → β) (k : Nat) (x : β) (i : Nat) (h : i ≠ k) : upd f k x i = f i := if_neg h
theorem u32s_set (n : Nat) (f : Nat → UInt32) (k : Nat) (x : UInt32) : (u32s n f).setIfInBounds k (wv x) = u32s n (upd f k x) := by
  apply Array.ext_getElem?
  intro i
  rw [Array.getElem?_setIfInBounds]
  by_cases h : k = i
  · subst h
    rw [if_pos rfl, u32s_size]
    by_cases hk : k < n
    · rw [if_pos hk, u32s_get _ _ _ hk, upd_same]
    · rw [if_neg hk, Array.getElem?_eq_none (by rw [u32s_size]; omega)]
  · rw [if_neg h]
    by_cases hi : i < n
    · rw [u32s_get _ _ _ hi, u32s_get _ _ _ hi, upd_other _ _ _ _ (Ne.symm h)]
    · rw [Array.getElem?_eq_none (by rw [u32s_size]; omega), Array.getElem?_eq_none (by rw [u32s_size]; omega)]
theorem u8s_set (n : Nat) (f : Nat → UInt8) (k : Nat) (x : UInt8) : (u8s n f).setIfInBounds k (bv x) = u8s n (upd f k x) := by
  apply Array.ext_getElem?
  intro i
  rw [Array.getElem?_setIfInBounds]
  by_cases h : k = i
  · subst h
    rw [if_pos rfl, u8s_size]
    by_cases hk : k < n
    · rw [if_pos hk, u8s_get _ _ _ hk, upd_same]
    · rw [if_neg hk, Array.getElem?_eq_none (by rw [u8s_size]; omega)]
  · rw [if_neg h]
    by_cases hi : i < n
    · rw [u8s_get _ _ _ hi, u8s_get _ _ _ hi, upd_other _ _ _ _ (Ne.symm h)]
    · rw [Array.getElem?_eq_none (by rw [u8s_size]; omega), Array.getElem?_eq_none (by rw [u8s_size]; omega)]
theorem u32s_congr {n : Nat} {f g : Nat → UInt32} (h : ∀ i, i < n → f i = g i) : u32s n f = u32s n g := by
  unfold u32s
  congr 1
  exact List.map_congr_left fun i hi => by rw [h i (by simpa using hi)]
theorem u8s_congr {n : Nat} {f g : Nat → UInt8} (h : ∀ i, i < n → f i = g i) : u8s n f = u8s n g := by
  unfold u8s
  congr 1
  exact List.map_congr_left fun i hi => by rw [h i (by simpa using hi)]
theorem u32s_one (n : Nat) (f : Nat → UInt32) : (u32s n f).all (·.oneCell') = true := by
  rw [Array.all_eq_true_iff_forall_mem]
  intro v hv
  simp only [u32s, List.mem_toArray, List.mem_map] at hv
  obtain ⟨i, _, rfl⟩ := hv
  rfl
theorem u8s_one (n : Nat) (f : Nat → UInt8) : (u8s n f).all (·.oneCell') = true := by
  rw [Array.all_eq_true_iff_forall_mem]
  intro v hv
  simp only [u8s, List.mem_toArray, List.mem_map] at hv
  obtain ⟨i, _, rfl⟩ := hv
  rfl
/-- Block g is just these cells. -/
def Blk (w : World) (g : Nat) (t : TypeId) (cs : Array Value) : Prop := w.heap[g]? = some (.cells cs t (0, 0))
section
variable {w w' : World} {g : Nat} {t : TypeId} {cs : Array Value}
theorem Blk.lt (h : Blk w g t cs) : g < w.heap.size := by
  rcases Nat.lt_or_ge g w.heap.size with hlt | hge
  · exact hlt
  · unfold Blk at h; rw [Array.getElem?_eq_none hge] at h; cases h
theorem Blk.cell (h : Blk w g t cs) (i : Nat) : w.cell? ⟨g, i, none⟩ = cs[i]? := cell_of_row w g i cs t (0, 0) h
theorem Blk.frozen (h : Blk w g t cs) (i : Nat) : w.frozen? ⟨g, i, none⟩ = false := by
  unfold Blk at h
  simp [World.frozen?, h]
theorem Blk.new (w : World) (t : TypeId) (cs : Array Value) : Blk (w.alloc (.cells cs t)) w.heap.size t cs := heap_alloc_new w _
theorem Blk.drewN (h : Blk w g t cs) (n : Nat) : Blk (w.drewN n) g t cs := h
theorem Blk.alloc (h : Blk w g t cs) (o : Obj) : Blk (w.alloc o) g t cs := (Below.heap_alloc w o g h.lt).trans h
theorem Blk.set_ (h : Blk w g t cs) (i : Nat) (u : Value) : Blk (w.setCell ⟨g, i, none⟩ u) g t (cs.setIfInBounds i u) := by
  unfold Blk at h ⊢
  simp [World.setCell, Array.getElem?_modify, h]
theorem Blk.far (h : Blk w g t cs) {p : Addr} (hp : g ≠ p.block) (u : Value) : Blk (w.setCell p u) g t cs := (Below.heap_setCell w p u g hp).trans h
theorem Blk.below {B : Nat} (h : Blk w g t cs) (hb : Below B w w') (hg : g < B) : Blk w' g t cs := (hb.block g hg).trans h
theorem Blk.word {n : Nat} {f : Nat → UInt32} (h : Blk w g t (u32s n f)) (i : Nat) (hi : i < n) : w.cell? ⟨g, i, none⟩ = some (.int .u32 ((f i).toNat : Int)) := (h.cell i).trans (u32s_get n f i hi)
theorem Blk.byte {n : Nat} {f : Nat → UInt8} (h : Blk w g t (u8s n f)) (i : Nat) (hi : i < n) : w.cell? ⟨g, i, none⟩ = some (.int .u8 ((f i).toNat : Int)) := (h.cell i).trans (u8s_get n f i hi)
theorem Blk.setW {n : Nat} {f : Nat → UInt32} (h : Blk w g t (u32s n f)) (i : Nat) (x : UInt32) : Blk (w.setCell ⟨g, i, none⟩ (.int .u32 (x.toNat : Int))) g t (u32s n (upd f i x)) := by
  have := h.set_ i (wv x); rwa [u32s_set] at this
theorem Blk.setB {n : Nat} {f : Nat → UInt8} (h : Blk w g t (u8s n f)) (i : Nat) (x : UInt8) : Blk (w.setCell ⟨g, i, none⟩ (.int .u8 (x.toNat : Int))) g t (u8s n (upd f i x)) := by
  have := h.set_ i (bv x); rwa [u8s_set] at this
end
theorem grown_alloc {w w1 : World} {g : Option Nat} (h : w.grownBy w1 g) (o : Obj) : w.grownBy (w1.alloc o) g :=
  ⟨h.os, h.tape, h.output, by have := h.size; simp; omega, fun k hk hkg => (Below.heap_alloc w1 o k (Nat.lt_of_lt_of_le hk h.size)).trans (h.block k hk hkg)⟩
theorem grown_refl (w : World) (g : Option Nat) : w.grownBy w g := ⟨rfl, rfl, rfl, Nat.le_refl _, fun _ _ _ => rfl⟩
theorem grown_trans {w w1 w2 : World} {g : Option Nat} (h : w.grownBy w1 g) (h' : w1.grownBy w2 g) : w.grownBy w2 g :=
  ⟨h'.os.trans h.os, h'.tape.trans h.tape, h'.output.trans h.output, Nat.le_trans h.size h'.size, fun k hk hkg => (h'.block k (Nat.lt_of_lt_of_le hk h.size) hkg).trans (h.block k hk hkg)⟩
theorem grown_below {w w1 w2 : World} {g : Option Nat} (h : w.grownBy w1 g) (h' : Below w1.heap.size w1 w2) : w.grownBy w2 g :=
  ⟨h'.os.trans h.os, h'.tape.trans h.tape, h'.output.trans h.output, Nat.le_trans h.size h'.size, fun k hk hkg => (h'.block k (Nat.lt_of_lt_of_le hk h.size)).trans (h.block k hk hkg)⟩
end Go.Proofs.YtialgldmogigfaaGreatDoor
namespace Go.Proofs.YtialgldmogigfaaGreatDoor
open Go Go.RowKit
theorem addV_get (v u : V) (k : Nat) (h : k < 8) : (addV v u).get k = v.get k + u.get k := by
  match k, h with
  | 0, _ => rfl
  | 1, _ => rfl
  | 2, _ => rfl
  | 3, _ => rfl
  | 4, _ => rfl
  | 5, _ => rfl
  | 6, _ => rfl
  | 7, _ => rfl
end Go.Proofs.YtialgldmogigfaaGreatDoor


namespace Go.Proofs.YtialgldmogigfaaGreatDoor
open Go
def partC (c : UInt8) : Bool := decide (33 ≤ c.toNat) && decide (c.toNat ≤ 126) && !(c == 47)
/-- The name of an item, of a tag. -/
def partB (s : List UInt8) : Bool := s.all partC && (decide (1 ≤ s.length) && decide (s.length ≤ 70)) && !(s == [46]) && !(s == [46, 46])
def whoC (c : UInt8) : Bool := decide (32 ≤ c.toNat) && decide (c.toNat ≤ 126)
def whoB (s : List UInt8) : Bool := s.all whoC && decide (s.length ≤ 100)
def cutAt (c : UInt8) : List UInt8 → Option (List UInt8 × List UInt8)
  | [] => none
  | x :: s => if x = c then some ([], s) else (cutAt c s).map fun p => (x :: p.1, p.2)
theorem cutAt_some {c : UInt8} : ∀ {s a r : List UInt8}, cutAt c s = some (a, r) → s = a ++ c :: r ∧ c ∉ a
  | [], _, _, h => by cases h
  | x :: s, a, r, h => by
    rw [cutAt] at h
    by_cases hx : x = c
    · rw [if_pos hx] at h
      simp only [Option.some.injEq, Prod.mk.injEq] at h
      obtain ⟨rfl, rfl⟩ := h
      exact ⟨by rw [hx]; rfl, by simp⟩
    · rw [if_neg hx] at h
      obtain ⟨⟨a', r'⟩, h1, h2⟩ := Option.map_eq_some_iff.1 h
      simp only [Prod.mk.injEq] at h2
      obtain ⟨rfl, rfl⟩ := h2
      obtain ⟨e1, e2⟩ := cutAt_some h1
      exact ⟨by rw [e1]; rfl, by simp only [List.mem_cons, not_or]; exact ⟨fun e => hx e.symm, e2⟩⟩
theorem cutAt_mk {c : UInt8} : ∀ {a r : List UInt8}, c ∉ a → cutAt c (a ++ c :: r) = some (a, r)
  | [], r, _ => by rw [List.nil_append, cutAt, if_pos rfl]
  | x :: a, r, h => by
    simp only [List.mem_cons, not_or] at h
    rw [List.cons_append, cutAt, if_neg (fun e => h.1 e.symm), cutAt_mk h.2]; rfl
theorem cutAt_none {c : UInt8} : ∀ {s : List UInt8}, cutAt c s = none ↔ c ∉ s
  | [] => by simp [cutAt]
  | x :: s => by
    rw [cutAt]
    by_cases hx : x = c
    · rw [if_pos hx]; simp [hx]
    · rw [if_neg hx, Option.map_eq_none_iff, cutAt_none]; simp [Ne.symm hx]
/-- A line that begins with a word: what stands behind that, and what is behind the line. -/
def lineP (pre s : List UInt8) : Option (List UInt8 × List UInt8) := if pre.isPrefixOf s then cutAt 10 (s.drop pre.length) else none
theorem pre_iff {pre s : List UInt8} : pre.isPrefixOf s = true ↔ ∃ r, s = pre ++ r := by
  rw [List.isPrefixOf_iff_prefix]
  exact ⟨fun ⟨r, h⟩ => ⟨r, h.symm⟩, fun ⟨r, h⟩ => ⟨r, h.symm⟩⟩
theorem lineP_some {pre s a r : List UInt8} (h : lineP pre s = some (a, r)) : s = pre ++ (a ++ 10 :: r) ∧ 10 ∉ a := by
  unfold lineP at h
  by_cases hp : pre.isPrefixOf s = true
  · rw [if_pos hp] at h
    obtain ⟨q, rfl⟩ := pre_iff.1 hp
    rw [List.drop_left] at h
    obtain ⟨e, e2⟩ := cutAt_some h
    exact ⟨by rw [e], e2⟩
  · rw [if_neg hp] at h; cases h
theorem lineP_mk {pre a r : List UInt8} (h : 10 ∉ a) : lineP pre (pre ++ (a ++ 10 :: r)) = some (a, r) := by
  unfold lineP
  rw [if_pos (pre_iff.2 ⟨_, rfl⟩), List.drop_left, cutAt_mk h]
/-- As many lines of a word as there are, n at most. -/
def linesP (pre : List UInt8) : Nat → List UInt8 → Option (List (List UInt8) × List UInt8)
  | 0, s => some ([], s)
  | n + 1, s => if pre.isPrefixOf s then (match cutAt 10 (s.drop pre.length) with | none => none | some (a, r) => (linesP pre n r).map fun p => (a :: p.1, p.2)) else some ([], s)
theorem linesP_some {pre : List UInt8} : ∀ {n : Nat} {s : List UInt8} {l : List (List UInt8)} {r : List UInt8}, linesP pre n s = some (l, r) → s = (l.flatMap fun a => pre ++ (a ++ [10])) ++ r
  | 0, s, l, r, h => by
    simp only [linesP, Option.some.injEq, Prod.mk.injEq] at h
    obtain ⟨rfl, rfl⟩ := h; rfl
  | n + 1, s, l, r, h => by
    rw [linesP] at h
    by_cases hp : pre.isPrefixOf s = true
    · rw [if_pos hp] at h
      obtain ⟨q, rfl⟩ := pre_iff.1 hp
      rw [List.drop_left] at h
      cases hc : cutAt 10 q with
      | none => rw [hc] at h; cases h
      | some p =>
        obtain ⟨a, q'⟩ := p
        rw [hc] at h
        obtain ⟨⟨l', r'⟩, h1, h2⟩ := Option.map_eq_some_iff.1 h
        simp only [Prod.mk.injEq] at h2
        obtain ⟨rfl, rfl⟩ := h2
        obtain ⟨e1, _⟩ := cutAt_some hc
        have e2 := linesP_some h1
        rw [e1, e2]
        simp [List.flatMap_cons, List.append_assoc]
    · rw [if_neg hp] at h
      simp only [Option.some.injEq, Prod.mk.injEq] at h
      obtain ⟨rfl, rfl⟩ := h; rfl
theorem linesP_mk {pre : List UInt8} : ∀ {n : Nat} {l : List (List UInt8)} {r : List UInt8}, l.length ≤ n → (∀ a ∈ l, 10 ∉ a) → pre.isPrefixOf r = false → linesP pre n ((l.flatMap fun a => pre ++ (a ++ [10])) ++ r) = some (l, r)
  | 0, [], r, _, _, _ => rfl
  | 0, _ :: _, _, h, _, _ => by simp at h
  | n + 1, [], r, _, _, h => by
    rw [linesP, List.flatMap_nil, List.nil_append, h]; rfl
  | n + 1, a :: l, r, hl, ha, h => by
    have e : ((a :: l).flatMap fun a => pre ++ (a ++ [10])) ++ r = pre ++ (a ++ 10 :: ((l.flatMap fun a => pre ++ (a ++ [10])) ++ r)) := by simp [List.flatMap_cons, List.append_assoc]
    rw [e, linesP, if_pos (pre_iff.2 ⟨_, rfl⟩), List.drop_left, cutAt_mk (ha a (by simp))]
    show (linesP pre n _).map _ = _
    rw [linesP_mk (by simpa using hl) (fun b hb => ha b (by simp [hb])) h]; rfl
structure Itm where
  mode : Int
  name : List UInt8
  id : List UInt8
deriving DecidableEq
def noItm : Itm := ⟨0, [], []⟩
def itemB (x : Itm) : Bool := decide (1 ≤ x.mode) && decide (x.mode ≤ 3) && partB x.name && namedB x.id
/-- By which items rise. -/
def keyL (x : Itm) : List UInt8 := if x.mode = 3 then x.name ++ [47] else x.name
def goodI (l : List Itm) (i : Nat) : Bool := itemB (l.getD i noItm) && (i == 0 || bytesBefore (keyL (l.getD (i - 1) noItm)) (keyL (l.getD i noItm)))
def rightT (l : List Itm) : Bool := decide (l.length ≤ 256) && (List.range l.length).all (goodI l) && decide ((l.map Itm.name).Nodup)
def putI (x : Itm) : List UInt8 := UInt8.ofNat (48 + x.mode.toNat) :: 32 :: (x.name ++ 0 :: x.id)
def putT (l : List Itm) : List UInt8 := l.flatMap putI
def getI : List UInt8 → Option (Itm × List UInt8)
  | m :: b :: s => if b = 32 then (match cutAt 0 s with | some (a, r) => if 64 ≤ r.length then some (⟨(m.toNat : Int) - 48, a, r.take 64⟩, r.drop 64) else none | none => none) else none
  | _ => none
def getIs : Nat → List UInt8 → Option (List Itm × List UInt8)
  | 0, s => some ([], s)
  | _ + 1, [] => some ([], [])
  | f + 1, c :: s => match getI (c :: s) with | none => none | some (x, r) => (getIs f r).map fun p => (x :: p.1, p.2)
def getT (s : List UInt8) : Option (List Itm) := match getIs 257 s with | none => none | some (l, _) => if rightT l then some l else none
theorem named_len64 {s : List UInt8} (h : namedB s = true) : s.length = 64 := by
  unfold namedB at h
  simp only [Bool.and_eq_true, beq_iff_eq] at h
  exact h.1
theorem named_not {s : List UInt8} (h : namedB s = true) {c : UInt8} (hc : isD c = false) : c ∉ s := by
  unfold namedB at h
  simp only [Bool.and_eq_true, List.all_eq_true] at h
  intro hm
  have := h.2 c hm
  rw [hc] at this; cases this
theorem part_no {s : List UInt8} (h : partB s = true) {c : UInt8} (hc : partC c = false) : c ∉ s := by
  unfold partB at h
  simp only [Bool.and_eq_true, List.all_eq_true] at h
  intro hm
  have := h.1.1.1 c hm
  rw [hc] at this; cases this
theorem itemB_parts {x : Itm} (h : itemB x = true) : 1 ≤ x.mode ∧ x.mode ≤ 3 ∧ partB x.name = true ∧ namedB x.id = true := by
  unfold itemB at h
  simp only [Bool.and_eq_true, decide_eq_true_eq] at h
  exact ⟨h.1.1.1, h.1.1.2, h.1.2, h.2⟩
theorem getI_put {x : Itm} (h : itemB x = true) (r : List UInt8) : getI (putI x ++ r) = some (x, r) := by
  obtain ⟨h1, h2, h3, h4⟩ := itemB_parts h
  unfold putI
  rw [List.cons_append, List.cons_append, List.append_assoc, List.cons_append, getI, if_pos rfl, cutAt_mk (part_no h3 (by decide))]
  have hl := named_len64 h4
  show (if 64 ≤ (x.id ++ r).length then _ else _) = _
  rw [if_pos (by rw [List.length_append]; omega), ← hl, List.take_left, List.drop_left, UInt8.toNat_ofNat']
  have e : (((48 + x.mode.toNat) % 2 ^ 8 : Nat) : Int) - 48 = x.mode := by omega
  rw [e]
theorem getI_some {s r : List UInt8} {x : Itm} (h : getI s = some (x, r)) (hx : itemB x = true) : s = putI x ++ r := by
  match s, h with
  | m :: b :: s, h =>
    rw [getI] at h
    by_cases hb : b = 32
    · rw [if_pos hb] at h
      cases hc : cutAt 0 s with
      | none => rw [hc] at h; cases h
      | some p =>
        obtain ⟨a, q⟩ := p
        rw [hc] at h
        simp only at h
        by_cases hq : 64 ≤ q.length
        · rw [if_pos hq] at h
          simp only [Option.some.injEq, Prod.mk.injEq] at h
          obtain ⟨rfl, rfl⟩ := h
          obtain ⟨e, _⟩ := cutAt_some hc
          obtain ⟨h1, h2, _, _⟩ := itemB_parts hx
          simp only at h1 h2
          unfold putI
          have hm : UInt8.ofNat (48 + ((m.toNat : Int) - 48).toNat) = m := UInt8.toNat_inj.1 (by rw [UInt8.toNat_ofNat']; have := m.toNat_lt; omega)
          rw [hm, hb, e]
          simp
        · rw [if_neg hq] at h; cases h
    · rw [if_neg hb] at h; cases h
  | [], h => cases h
  | [_], h => cases h
theorem putI_ne (x : Itm) (r : List UInt8) : ∃ c s, putI x ++ r = c :: s := ⟨_, _, rfl⟩
theorem getIs_put : ∀ {f : Nat} {l : List Itm}, l.length < f → (∀ x ∈ l, itemB x = true) → getIs f (putT l) = some (l, [])
  | 0, _, h, _ => by omega
  | f + 1, [], _, _ => rfl
  | f + 1, x :: l, h, hx => by
    have e : putT (x :: l) = putI x ++ putT l := rfl
    obtain ⟨c, s, hc⟩ := putI_ne x (putT l)
    rw [e, hc, getIs, ← hc, getI_put (hx x (by simp))]
    show (getIs f (putT l)).map _ = _
    rw [getIs_put (by simpa using h) (fun y hy => hx y (by simp [hy]))]; rfl
theorem getIs_some : ∀ {f : Nat} {s r : List UInt8} {l : List Itm}, getIs f s = some (l, r) → (∀ x ∈ l, itemB x = true) → s = putT l ++ r ∧ l.length ≤ f ∧ (l.length < f → r = [])
  | 0, s, r, l, h, _ => by
    simp only [getIs, Option.some.injEq, Prod.mk.injEq] at h
    obtain ⟨rfl, rfl⟩ := h
    exact ⟨rfl, Nat.le_refl _, fun h => by simp at h⟩
  | f + 1, [], r, l, h, _ => by
    simp only [getIs, Option.some.injEq, Prod.mk.injEq] at h
    obtain ⟨rfl, rfl⟩ := h
    exact ⟨rfl, Nat.zero_le _, fun _ => rfl⟩
  | f + 1, c :: s, r, l, h, hx => by
    rw [getIs] at h
    cases hg : getI (c :: s) with
    | none => rw [hg] at h; cases h
    | some p =>
      obtain ⟨x, q⟩ := p
      rw [hg] at h
      obtain ⟨⟨l', r'⟩, h1, h2⟩ := Option.map_eq_some_iff.1 h
      simp only [Prod.mk.injEq] at h2
      obtain ⟨rfl, rfl⟩ := h2
      obtain ⟨e1, e2, e3⟩ := getIs_some h1 (fun y hy => hx y (by simp [hy]))
      refine ⟨?_, by simpa using e2, fun hl => e3 (by simpa using hl)⟩
      rw [getI_some hg (hx x (by simp)), e1]
      simp [putT, List.append_assoc]
theorem rightT_parts {l : List Itm} : rightT l = true ↔ l.length ≤ 256 ∧ (∀ i, i < l.length → goodI l i = true) ∧ (l.map Itm.name).Nodup := by
  unfold rightT
  simp only [Bool.and_eq_true, decide_eq_true_eq, List.all_eq_true, List.mem_range]
  exact ⟨fun h => ⟨h.1.1, h.1.2, h.2⟩, fun h => ⟨⟨h.1, h.2.1⟩, h.2.2⟩⟩
theorem rightT_items {l : List Itm} (h : rightT l = true) : ∀ x ∈ l, itemB x = true := by
  obtain ⟨_, h2, _⟩ := rightT_parts.1 h
  intro x hx
  obtain ⟨i, hi, rfl⟩ := List.mem_iff_getElem.1 hx
  have := h2 i hi
  unfold goodI at this
  simp only [Bool.and_eq_true] at this
  have h3 := this.1
  rwa [List.getD_eq_getElem?_getD, List.getElem?_eq_getElem hi] at h3
/-- There and back. -/
theorem getT_iff {s : List UInt8} {l : List Itm} : getT s = some l ↔ rightT l = true ∧ putT l = s := by
  unfold getT
  constructor
  · intro h
    cases hg : getIs 257 s with
    | none => rw [hg] at h; cases h
    | some p =>
      obtain ⟨l', r⟩ := p
      rw [hg] at h
      simp only at h
      by_cases hr : rightT l' = true
      · rw [if_pos hr] at h
        cases h
        obtain ⟨e1, _, e3⟩ := getIs_some hg (rightT_items hr)
        have hl := (rightT_parts.1 hr).1
        rw [e3 (by omega), List.append_nil] at e1
        exact ⟨hr, e1.symm⟩
      · rw [if_neg hr] at h; cases h
  · rintro ⟨hr, rfl⟩
    rw [getIs_put (by have := (rightT_parts.1 hr).1; omega) (rightT_items hr)]
    show (if rightT l = true then _ else _) = _
    rw [if_pos hr]
structure Chg where
  tree : List UInt8
  parents : List (List UInt8)
  who : List UInt8
  text : List UInt8
deriving DecidableEq
def wTree : List UInt8 := [116, 114, 101, 101, 32]
def wParent : List UInt8 := [112, 97, 114, 101, 110, 116, 32]
def wWho : List UInt8 := [119, 104, 111, 32]
def rightC (c : Chg) : Bool := namedB c.tree && (decide (c.parents.length ≤ 8) && c.parents.all namedB && decide c.parents.Nodup) && whoB c.who
def parL (l : List (List UInt8)) : List UInt8 := l.flatMap fun a => wParent ++ (a ++ [10])
def putC (c : Chg) : List UInt8 := wTree ++ (c.tree ++ 10 :: (parL c.parents ++ (wWho ++ (c.who ++ 10 :: (10 :: c.text)))))
def tailP : List UInt8 → Option (List UInt8)
  | c :: s => if c = 10 then some s else none
  | [] => none
def rawC (s : List UInt8) : Option Chg :=
  match lineP wTree s with
  | none => none
  | some (t, r) => match linesP wParent 8 r with
    | none => none
    | some (ps, r) => match lineP wWho r with
      | none => none
      | some (w, r) => (tailP r).map fun x => ⟨t, ps, w, x⟩
def getC (s : List UInt8) : Option Chg := match rawC s with | none => none | some c => if rightC c then some c else none
theorem tailP_some {s x : List UInt8} (h : tailP s = some x) : s = 10 :: x := by
  match s, h with
  | c :: s, h =>
    rw [tailP] at h
    by_cases hc : c = 10
    · rw [if_pos hc] at h; cases h; rw [hc]
    · rw [if_neg hc] at h; cases h
  | [], h => cases h
theorem rawC_some {s : List UInt8} {c : Chg} (h : rawC s = some c) : s = putC c := by
  unfold rawC at h
  cases h1 : lineP wTree s with
  | none => rw [h1] at h; cases h
  | some p =>
    obtain ⟨t, r1⟩ := p
    rw [h1] at h; simp only at h
    cases h2 : linesP wParent 8 r1 with
    | none => rw [h2] at h; cases h
    | some p =>
      obtain ⟨ps, r2⟩ := p
      rw [h2] at h; simp only at h
      cases h3 : lineP wWho r2 with
      | none => rw [h3] at h; cases h
      | some p =>
        obtain ⟨w, r3⟩ := p
        rw [h3] at h; simp only at h
        obtain ⟨x, h4, rfl⟩ := Option.map_eq_some_iff.1 h
        have e1 := (lineP_some h1).1
        have e2 := linesP_some h2
        have e3 := (lineP_some h3).1
        have e4 := tailP_some h4
        rw [e1, e2, e3, e4]; rfl
theorem who_no {s : List UInt8} (h : whoB s = true) {c : UInt8} (hc : whoC c = false) : c ∉ s := by
  unfold whoB at h
  simp only [Bool.and_eq_true, List.all_eq_true] at h
  intro hm
  have := h.1 c hm
  rw [hc] at this; cases this
theorem rightC_parts {c : Chg} : rightC c = true ↔ namedB c.tree = true ∧ c.parents.length ≤ 8 ∧ (∀ p ∈ c.parents, namedB p = true) ∧ c.parents.Nodup ∧ whoB c.who = true := by
  unfold rightC
  simp only [Bool.and_eq_true, decide_eq_true_eq, List.all_eq_true]
  exact ⟨fun h => ⟨h.1.1, h.1.2.1.1, h.1.2.1.2, h.1.2.2, h.2⟩, fun h => ⟨⟨h.1, ⟨h.2.1, h.2.2.1⟩, h.2.2.2.1⟩, h.2.2.2.2⟩⟩
theorem rawC_put {c : Chg} (h : rightC c = true) : rawC (putC c) = some c := by
  obtain ⟨h1, h2, h3, _, h5⟩ := rightC_parts.1 h
  unfold rawC putC
  rw [lineP_mk (named_not h1 (by decide))]
  simp only
  unfold parL
  rw [linesP_mk h2 (fun a ha => named_not (h3 a ha) (by decide)) (by rfl)]
  simp only
  rw [lineP_mk (who_no h5 (by decide))]
  rfl
theorem getC_iff {s : List UInt8} {c : Chg} : getC s = some c ↔ rightC c = true ∧ putC c = s := by
  unfold getC
  constructor
  · intro h
    cases hg : rawC s with
    | none => rw [hg] at h; cases h
    | some c' =>
      rw [hg] at h; simp only at h
      by_cases hr : rightC c' = true
      · rw [if_pos hr] at h; cases h
        exact ⟨hr, (rawC_some hg).symm⟩
      · rw [if_neg hr] at h; cases h
  · rintro ⟨hr, rfl⟩
    rw [rawC_put hr]
    show (if rightC c = true then _ else _) = _
    rw [if_pos hr]
structure Lbl where
  id : List UInt8
  kind : Int
  name : List UInt8
  text : List UInt8
deriving DecidableEq
/-- The word of a kind. -/
def kindW (k : Int) : List UInt8 := if k = 1 then [98, 108, 111, 98] else if k = 2 then [116, 114, 101, 101] else if k = 3 then [99, 111, 109, 109, 105, 116] else if k = 4 then [116, 97, 103] else []
def kindOfW (w : List UInt8) : Int := if w = [98, 108, 111, 98] then 1 else if w = [116, 114, 101, 101] then 2 else if w = [99, 111, 109, 109, 105, 116] then 3 else if w = [116, 97, 103] then 4 else 0
def wObject : List UInt8 := [111, 98, 106, 101, 99, 116, 32]
def wKind : List UInt8 := [107, 105, 110, 100, 32]
def wName : List UInt8 := [110, 97, 109, 101, 32]
def rightL (l : Lbl) : Bool := namedB l.id && (decide (1 ≤ l.kind) && decide (l.kind ≤ 4)) && partB l.name
def putL4 (l : Lbl) : List UInt8 := wObject ++ (l.id ++ 10 :: (wKind ++ (kindW l.kind ++ 10 :: (wName ++ (l.name ++ 10 :: (10 :: l.text))))))
def rawL (s : List UInt8) : Option Lbl :=
  match lineP wObject s with
  | none => none
  | some (i, r) => match lineP wKind r with
    | none => none
    | some (k, r) => match lineP wName r with
      | none => none
      | some (n, r) => (tailP r).map fun x => ⟨i, kindOfW k, n, x⟩
def getL4 (s : List UInt8) : Option Lbl := match rawL s with | none => none | some l => if rightL l then some l else none
theorem kind_cases {k : Int} (h1 : 1 ≤ k) (h2 : k ≤ 4) : k = 1 ∨ k = 2 ∨ k = 3 ∨ k = 4 := by omega
theorem kindOf_word {k : Int} (h1 : 1 ≤ k) (h2 : k ≤ 4) : kindOfW (kindW k) = k := by
  rcases kind_cases h1 h2 with rfl | rfl | rfl | rfl <;> rfl
theorem word_kindOf {w : List UInt8} (h : 1 ≤ kindOfW w) : kindW (kindOfW w) = w := by
  unfold kindOfW at h ⊢
  by_cases h1 : w = [98, 108, 111, 98]
  · rw [if_pos h1, h1]; rfl
  rw [if_neg h1] at h ⊢
  by_cases h2 : w = [116, 114, 101, 101]
  · rw [if_pos h2, h2]; rfl
  rw [if_neg h2] at h ⊢
  by_cases h3 : w = [99, 111, 109, 109, 105, 116]
  · rw [if_pos h3, h3]; rfl
  rw [if_neg h3] at h ⊢
  by_cases h4 : w = [116, 97, 103]
  · rw [if_pos h4, h4]; rfl
  rw [if_neg h4] at h
  omega
theorem word_ne_nil {k : Int} : kindW k = [] ↔ ¬ (1 ≤ k ∧ k ≤ 4) := by
  constructor
  · rintro h ⟨h1, h2⟩
    rcases kind_cases h1 h2 with rfl | rfl | rfl | rfl <;> cases h
  · intro h
    unfold kindW
    rw [if_neg (by omega), if_neg (by omega), if_neg (by omega), if_neg (by omega)]
theorem word_no {k : Int} : (10 : UInt8) ∉ kindW k := by
  by_cases h : 1 ≤ k ∧ k ≤ 4
  · rcases kind_cases h.1 h.2 with rfl | rfl | rfl | rfl <;> decide
  · rw [word_ne_nil.2 h]; simp
theorem rightL_parts {l : Lbl} : rightL l = true ↔ namedB l.id = true ∧ (1 ≤ l.kind ∧ l.kind ≤ 4) ∧ partB l.name = true := by
  unfold rightL
  simp only [Bool.and_eq_true, decide_eq_true_eq]
  exact ⟨fun h => ⟨h.1.1, h.1.2, h.2⟩, fun h => ⟨⟨h.1, h.2.1⟩, h.2.2⟩⟩
theorem rawL_some {s : List UInt8} {l : Lbl} (h : rawL s = some l) (hk : 1 ≤ l.kind) : s = putL4 l := by
  unfold rawL at h
  cases h1 : lineP wObject s with
  | none => rw [h1] at h; cases h
  | some p =>
    obtain ⟨i, r1⟩ := p
    rw [h1] at h; simp only at h
    cases h2 : lineP wKind r1 with
    | none => rw [h2] at h; cases h
    | some p =>
      obtain ⟨k, r2⟩ := p
      rw [h2] at h; simp only at h
      cases h3 : lineP wName r2 with
      | none => rw [h3] at h; cases h
      | some p =>
        obtain ⟨n, r3⟩ := p
        rw [h3] at h; simp only at h
        obtain ⟨x, h4, rfl⟩ := Option.map_eq_some_iff.1 h
        have e1 := (lineP_some h1).1
        have e2 := (lineP_some h2).1
        have e3 := (lineP_some h3).1
        have e4 := tailP_some h4
        unfold putL4
        rw [word_kindOf hk, e1, e2, e3, e4]
theorem rawL_put {l : Lbl} (h : rightL l = true) : rawL (putL4 l) = some l := by
  obtain ⟨h1, h2, h3⟩ := rightL_parts.1 h
  unfold rawL putL4
  rw [lineP_mk (named_not h1 (by decide))]
  simp only
  rw [lineP_mk word_no]
  simp only
  rw [lineP_mk (part_no h3 (by decide))]
  show some (Lbl.mk l.id (kindOfW (kindW l.kind)) l.name l.text) = _
  rw [kindOf_word h2.1 h2.2]
theorem getL4_iff {s : List UInt8} {l : Lbl} : getL4 s = some l ↔ rightL l = true ∧ putL4 l = s := by
  unfold getL4
  constructor
  · intro h
    cases hg : rawL s with
    | none => rw [hg] at h; cases h
    | some c' =>
      rw [hg] at h; simp only at h
      by_cases hr : rightL c' = true
      · rw [if_pos hr] at h; cases h
        exact ⟨hr, (rawL_some hg (rightL_parts.1 hr).2.1.1).symm⟩
      · rw [if_neg hr] at h; cases h
  · rintro ⟨hr, rfl⟩
    rw [rawL_put hr]
    show (if rightL l = true then _ else _) = _
    rw [if_pos hr]
def wantI (x : Itm) : List UInt8 × Int := (x.id, if x.mode = 3 then 2 else 1)
def wantC (c : Chg) : List (List UInt8 × Int) := (c.tree, 2) :: c.parents.map fun p => (p, 3)
def wantL (l : Lbl) : List (List UInt8 × Int) := [(l.id, l.kind)]
/-- What an object's bytes name, if it may be one. -/
def wantsO (k : Int) (d : List UInt8) : Option (List (List UInt8 × Int)) :=
  if 65536 < d.length then none
  else if k = 1 then some []
  else if k = 2 then (getT d).map fun l => l.map wantI
  else if k = 3 then (getC d).map wantC
  else if k = 4 then (getL4 d).map wantL
  else none
end Go.Proofs.YtialgldmogigfaaGreatDoor
