/-
  Words and blocks: the digest.
-/
import Derived.Test.YtgjddkeogboojaaGreatDoorProg
import Derived.WalkKit
import Derived.OneCell
import Derived.Laws.BitsAllLaws
import Derived.Laws.Bits64b
import Derived.Laws.Shifts
import Derived.Deep.QuietTactic
import Derived.Below
import Derived.Laws.OwnMore
import Derived.Deep.Draws
import Derived.Laws.Rows
import Derived.Deep.WholeRow
import Derived.Laws.CopyRow
import Derived.StillTailTactics
import Derived.BigQuiet
import Derived.IntWalk
import Derived.Test.YtgjddkeogboojaaGreatDoorY01
set_option maxHeartbeats 16000000
set_option maxRecDepth 100000
namespace Go.Proofs.YtgjddkeogboojaaGreatDoor
open Go Go.RowKit
theorem z5z (n : Nat) : IntKind.u32.wrap (n : Int) = ((n % 4294967296 : Nat) : Int) := by rw [IntKind.wrap_u32']; omega
theorem z60 (x : UInt32) : BitVec.ofInt 32 (x.toNat : Int) = x.toBitVec := by
 rw [BitVec.ofInt_natCast]; exact BitVec.eq_of_toNat_eq (by simp)
theorem z88 (b : BitVec 32) : IntKind.u32.wrap (b.toNat : Int) = (b.toNat : Int) := by
 have := b.isLt;rw [z5z, Nat.mod_eq_of_lt (by omega)]
theorem za4 (x y : UInt32) : bits .and .u32 (x.toNat : Int) (y.toNat : Int) = ((x &&& y).toNat : Int) := by
 show IntKind.u32.wrap ((BitVec.ofInt 32 (x.toNat : Int) &&& BitVec.ofInt 32 (y.toNat : Int)).toNat : Int) = _;rw [z88, z60, z60]; rfl
theorem or32 (x y : UInt32) : bits .or .u32 (x.toNat : Int) (y.toNat : Int) = ((x ||| y).toNat : Int) := by
 show IntKind.u32.wrap ((BitVec.ofInt 32 (x.toNat : Int) ||| BitVec.ofInt 32 (y.toNat : Int)).toNat : Int) = _;rw [z88, z60, z60]; rfl
theorem z5s (x y : UInt32) : bits .xor .u32 (x.toNat : Int) (y.toNat : Int) = ((x ^^^ y).toNat : Int) := by
 show IntKind.u32.wrap ((BitVec.ofInt 32 (x.toNat : Int) ^^^ BitVec.ofInt 32 (y.toNat : Int)).toNat : Int) = _;rw [z88, z60, z60]; rfl
theorem not32 (x : UInt32) : bits .xor .u32 4294967295 (x.toNat : Int) = ((~~~x).toNat : Int) := by
 show IntKind.u32.wrap ((BitVec.ofInt 32 4294967295 ^^^ BitVec.ofInt 32 (x.toNat : Int)).toNat : Int) = _;rw [z88, z60]
 have : BitVec.ofInt 32 4294967295 ^^^ x.toBitVec = ~~~x.toBitVec := by
  rw [show BitVec.ofInt 32 4294967295 = BitVec.allOnes 32 by decide, BitVec.allOnes_xor]
 rw [this]; rfl
theorem z4x (x y : UInt32) : IntKind.u32.wrap ((x.toNat : Int) + (y.toNat : Int)) = ((x + y).toNat : Int) := by
 rw [← Int.natCast_add, z5z, UInt32.toNat_add]
theorem zka (x : UInt32) (n : Nat) (h : n < 32) : (x.toNat : Int) / ((2 ^ n : Nat) : Int) = ((x >>> UInt32.ofNat n).toNat : Int) := by
 rw [← Int.natCast_ediv, UInt32.toNat_shiftRight, UInt32.toNat_ofNat', Nat.mod_eq_of_lt (a := n) (by omega), Nat.mod_eq_of_lt h, Nat.shiftRight_eq_div_pow]
theorem shl32 (x : UInt32) (n : Nat) (h : n < 32) : IntKind.u32.wrap ((x.toNat : Int) * ((2 ^ n : Nat) : Int)) = ((x <<< UInt32.ofNat n).toNat : Int) := by
 rw [← Int.natCast_mul, z5z, UInt32.toNat_shiftLeft, UInt32.toNat_ofNat', Nat.mod_eq_of_lt (a := n) (by omega), Nat.mod_eq_of_lt h, Nat.shiftLeft_eq]
theorem shrP (x : UInt32) (n : Nat) (h : n < 32) : (x.toNat : Int) / 2 ^ n = ((x >>> UInt32.ofNat n).toNat : Int) := by
 rw [← zka x n h]; simp
theorem shlP (x : UInt32) (n : Nat) (h : n < 32) : (x.toNat : Int) * 2 ^ n % 4294967296 = ((x <<< UInt32.ofNat n).toNat : Int) := by
 rw [← shl32 x n h, IntKind.wrap_u32']; simp
theorem zes {a b : Int} (h : a = b) : Ending.returned (.int .u32 a) = .returned (.int .u32 b) := by rw [h]
theorem rotl_any (x : UInt32) (k : Int) (l r : Nat) (he : bits .and .u64 (IntKind.u64.wrap k) 31 = (l : Int)) (hl : l < 32) (hr : r < 32) (hlr : l + r = 32) (w : World) :
 Calls Tryz.prog 122 #[.int .u32 (x.toNat : Int), .int .i64 k] w fun e w' => e = .returned (.int .u32 ((rotr x (UInt32.ofNat r)).toNat : Int)) ∧ w = w' := by
 have e1 : IntKind.u64.wrap (32 - (l : Int)) = (r : Int) := by rw [IntKind.wrap_u64]; omega
 have hz : bits .or .u32 ((x.toNat : Int) * 2 ^ l % 4294967296) ((x.toNat : Int) / 2 ^ r) = ((rotr x (UInt32.ofNat r)).toNat : Int) := by
  unfold rotr;rw [shlP x l hl, shrP x r hr, or32, UInt32.or_comm, show 32 - UInt32.ofNat r = UInt32.ofNat l by rw [← UInt32.toNat_inj, UInt32.toNat_sub]; simp; omega]
 have HZ := zh hz; clear hz
 go_enter Tryz.func122, Tryz.ntmps122
 go_wp2
 go_ret
 exact ⟨zes HZ.out, rfl⟩
theorem z89 (x : UInt32) (n : Nat) (h1 : 1 ≤ n) (h2 : n < 32) (w : World) :
 Calls Tryz.prog 110 #[.int .u32 (x.toNat : Int), .int .i64 (n : Int)] w fun e w' => e = .returned (.int .u32 ((rotr x (UInt32.ofNat n)).toNat : Int)) ∧ w = w' := by
 have he : bits .and .u64 (IntKind.u64.wrap (-(n : Int))) 31 = ((32 - n : Nat) : Int) := by
  rw [IntKind.wrap_u64, show (-(n : Int)) % 18446744073709551616 = ((18446744073709551616 - n : Nat) : Int) by omega];have := bits_and_u64_nat (18446744073709551616 - n) 31 (by omega) (by omega);rw [show ((31 : Nat) : Int) = 31 from rfl] at this;rw [this, show 31 = 2 ^ 5 - 1 from rfl, Nat.and_two_pow_sub_one_eq_mod];omega
 have hc := rotl_any x (-(n : Int)) (32 - n) n he (by omega) h2 (by omega);have HC := zh hc; clear hc he
 go_enter Tryz.func110, Tryz.ntmps110
 go_wp2_with fail
 refine (HC.out _).mono ?_;rintro e w' ⟨rfl, rfl⟩
 go_wp2
 go_ret
 exact ⟨rfl, rfl⟩
theorem z2e (x : UInt32) (n : Nat) (h1 : 1 ≤ n) (h2 : n < 32) (w : World) :
 Calls Tryz.prog 110 #[.int .u32 (x.toNat : Int), .int .i64 (n : Int)] w fun e w' => e = .returned (.int .u32 ((rotr x (UInt32.ofNat n)).toNat : Int)) ∧ w' = w :=
 (z89 x n h1 h2 w).mono fun _ _ h => ⟨h.1, h.2.symm⟩
theorem ss1_bits (x : UInt32) : bits .xor .u32 (bits .xor .u32 ((rotr x 17).toNat : Int) ((rotr x 19).toNat : Int)) ((x.toNat : Int) / 1024) = ((ss1 x).toNat : Int) := by
 have h := zka x 10 (by omega);rw [show ((2 ^ 10 : Nat) : Int) = 1024 from rfl] at h;rw [h, z5s, z5s]; rfl
theorem ss0_bits (x : UInt32) : bits .xor .u32 (bits .xor .u32 ((rotr x 7).toNat : Int) ((rotr x 18).toNat : Int)) ((x.toNat : Int) / 8) = ((ss0 x).toNat : Int) := by
 have h := zka x 3 (by omega);rw [show ((2 ^ 3 : Nat) : Int) = 8 from rfl] at h;rw [h, z5s, z5s]; rfl
theorem not32' (x : UInt32) : bits .xor .u32 (if IntKind.u32.signed = true then -1 else IntKind.u32.max) (x.toNat : Int) = ((~~~x).toNat : Int) := not32 x
theorem z2y (x y : UInt32) : ((x.toNat : Int) + (y.toNat : Int)) % 4294967296 = ((x + y).toNat : Int) := by rw [← z4x, IntKind.wrap_u32']
theorem turnL_2 (x r : UInt32) (hr : r = rotr x 2) (w : World) : Calls Tryz.prog 110 #[.int .u32 (x.toNat : Int), .int .i64 2] w fun e w' => e = .returned (.int .u32 (r.toNat : Int)) ∧ w = w' := hr ▸ z89 x 2 (by omega) (by omega) w
theorem turnL_13 (x r : UInt32) (hr : r = rotr x 13) (w : World) : Calls Tryz.prog 110 #[.int .u32 (x.toNat : Int), .int .i64 13] w fun e w' => e = .returned (.int .u32 (r.toNat : Int)) ∧ w = w' := hr ▸ z89 x 13 (by omega) (by omega) w
theorem turnL_22 (x r : UInt32) (hr : r = rotr x 22) (w : World) : Calls Tryz.prog 110 #[.int .u32 (x.toNat : Int), .int .i64 22] w fun e w' => e = .returned (.int .u32 (r.toNat : Int)) ∧ w = w' := hr ▸ z89 x 22 (by omega) (by omega) w
theorem turnQ_6 (x r : UInt32) (hr : r = rotr x 6) (w : World) (m : Nat) : Calls Tryz.prog 110 #[.int .u32 (x.toNat : Int), .int .i64 6] (w.drewN m) fun e w'' => e = .returned (.int .u32 (r.toNat : Int)) ∧ ∃ m, w'' = w.drewN m := hr ▸ Calls.quiet_of_same (z2e x 6 (by omega) (by omega) _)
theorem turnQ_11 (x r : UInt32) (hr : r = rotr x 11) (w : World) (m : Nat) : Calls Tryz.prog 110 #[.int .u32 (x.toNat : Int), .int .i64 11] (w.drewN m) fun e w'' => e = .returned (.int .u32 (r.toNat : Int)) ∧ ∃ m, w'' = w.drewN m := hr ▸ Calls.quiet_of_same (z2e x 11 (by omega) (by omega) _)
theorem turnQ_25 (x r : UInt32) (hr : r = rotr x 25) (w : World) (m : Nat) : Calls Tryz.prog 110 #[.int .u32 (x.toNat : Int), .int .i64 25] (w.drewN m) fun e w'' => e = .returned (.int .u32 (r.toNat : Int)) ∧ ∃ m, w'' = w.drewN m := hr ▸ Calls.quiet_of_same (z2e x 25 (by omega) (by omega) _)
def wv (x : UInt32) : Value := .int .u32 (x.toNat : Int)
def bv (x : UInt8) : Value := .int .u8 (x.toNat : Int)
def u32s (n : Nat) (f : Nat → UInt32) : Array Value := ((List.range n).map fun i => wv (f i)).toArray
def u8s (n : Nat) (f : Nat → UInt8) : Array Value := ((List.range n).map fun i => bv (f i)).toArray
theorem z0d (n : Nat) (f : Nat → UInt32) : (u32s n f).size = n := by simp [u32s]
theorem z0a (n : Nat) (f : Nat → UInt8) : (u8s n f).size = n := by simp [u8s]
theorem z8a (n : Nat) (f : Nat → UInt32) (i : Nat) (h : i < n) : (u32s n f)[i]? = some (wv (f i)) := by simp [u32s, h]
theorem z47 (n : Nat) (f : Nat → UInt8) (i : Nat) (h : i < n) : (u8s n f)[i]? = some (bv (f i)) := by simp [u8s, h]
def upd {β : Type} (f : Nat → β) (k : Nat) (x : β) (i : Nat) : β := if i = k then x else f i
theorem z0q {β : Type} (f : Nat → β) (k : Nat) (x : β) : upd f k x k = x := if_pos rfl
theorem z09 {β : Type} (f : Nat → β) (k : Nat) (x : β) (i : Nat) (h : i ≠ k) : upd f k x i = f i := if_neg h
theorem u32s_set (n : Nat) (f : Nat → UInt32) (k : Nat) (x : UInt32) : (u32s n f).setIfInBounds k (wv x) = u32s n (upd f k x) := by
 apply Array.ext_getElem?;intro i;rw [Array.getElem?_setIfInBounds];by_cases h : k = i
 · subst h;rw [if_pos rfl, z0d];by_cases hk : k < n
   · rw [if_pos hk, z8a _ _ _ hk, z0q]
   · rw [if_neg hk, Array.getElem?_eq_none (by rw [z0d]; omega)]
 · rw [if_neg h];by_cases hi : i < n
   · rw [z8a _ _ _ hi, z8a _ _ _ hi, z09 _ _ _ _ (Ne.symm h)]
   · rw [Array.getElem?_eq_none (by rw [z0d]; omega), Array.getElem?_eq_none (by rw [z0d]; omega)]
theorem u8s_set (n : Nat) (f : Nat → UInt8) (k : Nat) (x : UInt8) : (u8s n f).setIfInBounds k (bv x) = u8s n (upd f k x) := by
 apply Array.ext_getElem?;intro i;rw [Array.getElem?_setIfInBounds];by_cases h : k = i
 · subst h;rw [if_pos rfl, z0a];by_cases hk : k < n
   · rw [if_pos hk, z47 _ _ _ hk, z0q]
   · rw [if_neg hk, Array.getElem?_eq_none (by rw [z0a]; omega)]
 · rw [if_neg h];by_cases hi : i < n
   · rw [z47 _ _ _ hi, z47 _ _ _ hi, z09 _ _ _ _ (Ne.symm h)]
   · rw [Array.getElem?_eq_none (by rw [z0a]; omega), Array.getElem?_eq_none (by rw [z0a]; omega)]
theorem z3a {n : Nat} {f g : Nat → UInt32} (h : ∀ i, i < n → f i = g i) : u32s n f = u32s n g := by
 unfold u32s
 congr 1
 exact List.map_congr_left fun i hi => by rw [h i (by simpa using hi)]
theorem z6d {n : Nat} {f g : Nat → UInt8} (h : ∀ i, i < n → f i = g i) : u8s n f = u8s n g := by
 unfold u8s
 congr 1
 exact List.map_congr_left fun i hi => by rw [h i (by simpa using hi)]
theorem z34 (n : Nat) (f : Nat → UInt32) : (u32s n f).all (·.oneCell') = true := by
 rw [Array.all_eq_true_iff_forall_mem];intro v hv;simp only [u32s, List.mem_toArray, List.mem_map] at hv;obtain ⟨i, _, rfl⟩ := hv;rfl
theorem z3r (n : Nat) (f : Nat → UInt8) : (u8s n f).all (·.oneCell') = true := by
 rw [Array.all_eq_true_iff_forall_mem];intro v hv;simp only [u8s, List.mem_toArray, List.mem_map] at hv;obtain ⟨i, _, rfl⟩ := hv;rfl
def Blk (w : World) (g : Nat) (t : TypeId) (cs : Array Value) : Prop := w.heap[g]? = some (.cells cs t (0, 0))
section
variable {w w' : World} {g : Nat} {t : TypeId} {cs : Array Value}
theorem Blk.lt (h : Blk w g t cs) : g < w.heap.size := by
 rcases Nat.lt_or_ge g w.heap.size with hlt | hge
 · exact hlt
 · unfold Blk at h; rw [Array.getElem?_eq_none hge] at h; cases h
theorem Blk.cell (h : Blk w g t cs) (i : Nat) : w.cell? ⟨g, i, none⟩ = cs[i]? := cell_of_row w g i cs t (0, 0) h
theorem Blk.frozen (h : Blk w g t cs) (i : Nat) : w.frozen? ⟨g, i, none⟩ = false := by
 unfold Blk at h;simp [World.frozen?, h]
theorem Blk.new (w : World) (t : TypeId) (cs : Array Value) : Blk (w.alloc (.cells cs t)) w.heap.size t cs := heap_alloc_new w _
theorem Blk.drewN (h : Blk w g t cs) (n : Nat) : Blk (w.drewN n) g t cs := h
theorem Blk.alloc (h : Blk w g t cs) (o : Obj) : Blk (w.alloc o) g t cs := (Below.heap_alloc w o g h.lt).trans h
theorem Blk.set_ (h : Blk w g t cs) (i : Nat) (u : Value) : Blk (w.setCell ⟨g, i, none⟩ u) g t (cs.setIfInBounds i u) := by
 unfold Blk at h ⊢;simp [World.setCell, Array.getElem?_modify, h]
theorem Blk.far (h : Blk w g t cs) {p : Addr} (hp : g ≠ p.block) (u : Value) : Blk (w.setCell p u) g t cs := (Below.heap_setCell w p u g hp).trans h
theorem Blk.below {B : Nat} (h : Blk w g t cs) (hb : Below B w w') (hg : g < B) : Blk w' g t cs := (hb.block g hg).trans h
theorem Blk.word {n : Nat} {f : Nat → UInt32} (h : Blk w g t (u32s n f)) (i : Nat) (hi : i < n) : w.cell? ⟨g, i, none⟩ = some (.int .u32 ((f i).toNat : Int)) := (h.cell i).trans (z8a n f i hi)
theorem Blk.byte {n : Nat} {f : Nat → UInt8} (h : Blk w g t (u8s n f)) (i : Nat) (hi : i < n) : w.cell? ⟨g, i, none⟩ = some (.int .u8 ((f i).toNat : Int)) := (h.cell i).trans (z47 n f i hi)
theorem Blk.setW {n : Nat} {f : Nat → UInt32} (h : Blk w g t (u32s n f)) (i : Nat) (x : UInt32) : Blk (w.setCell ⟨g, i, none⟩ (.int .u32 (x.toNat : Int))) g t (u32s n (upd f i x)) := by
 have := h.set_ i (wv x); rwa [u32s_set] at this
theorem Blk.setB {n : Nat} {f : Nat → UInt8} (h : Blk w g t (u8s n f)) (i : Nat) (x : UInt8) : Blk (w.setCell ⟨g, i, none⟩ (.int .u8 (x.toNat : Int))) g t (u8s n (upd f i x)) := by
 have := h.set_ i (bv x); rwa [u8s_set] at this
end
theorem zch {w w1 : World} {g : Nat} (h : w.grownBy w1 (some g)) (i : Nat) (u : Value) : w.grownBy (w1.setCell ⟨g, i, none⟩ u) (some g) :=
 ⟨h.os, h.tape, h.output, by have := h.size; simpa [World.setCell] using this, fun k hk hkg => (Below.heap_setCell w1 ⟨g, i, none⟩ u k (fun e => hkg (by rw [e]))).trans (h.block k hk hkg)⟩
theorem zet {w w1 : World} {g : Option Nat} (h : w.grownBy w1 g) (n : Nat) : w.grownBy (w1.drewN n) g := ⟨h.os, h.tape, h.output, h.size, h.block⟩
theorem zi5 {w w1 : World} {g : Option Nat} (h : w.grownBy w1 g) : w.grownBy w1.drew g := ⟨h.os, h.tape, h.output, h.size, h.block⟩
theorem zeu {w w1 : World} {g : Option Nat} (h : w.grownBy w1 g) (o : Obj) : w.grownBy (w1.alloc o) g :=
 ⟨h.os, h.tape, h.output, by have := h.size; simp; omega, fun k hk hkg => (Below.heap_alloc w1 o k (Nat.lt_of_lt_of_le hk h.size)).trans (h.block k hk hkg)⟩
theorem z78 (w : World) (g : Option Nat) : w.grownBy w g := ⟨rfl, rfl, rfl, Nat.le_refl _, fun _ _ _ => rfl⟩
theorem z0u {w w1 w2 : World} {g : Option Nat} (h : w.grownBy w1 g) (h' : w1.grownBy w2 g) : w.grownBy w2 g :=
 ⟨h'.os.trans h.os, h'.tape.trans h.tape, h'.output.trans h.output, Nat.le_trans h.size h'.size, fun k hk hkg => (h'.block k (Nat.lt_of_lt_of_le hk h.size) hkg).trans (h.block k hk hkg)⟩
theorem z1x {w w1 w2 : World} {g : Option Nat} (h : w.grownBy w1 g) (h' : Below w1.heap.size w1 w2) : w.grownBy w2 g :=
 ⟨h'.os.trans h.os, h'.tape.trans h.tape, h'.output.trans h.output, Nat.le_trans h.size h'.size, fun k hk hkg => (h'.block k (Nat.lt_of_lt_of_le hk h.size)).trans (h.block k hk hkg)⟩
theorem z1h {w w1 : World} {g B : Nat} (h : w.grownBy w1 (some g)) (hB : B ≤ w.heap.size) (hg : B ≤ g) : Below B w w1 :=
 ⟨h.os, h.tape, h.output, h.size, fun k hk => h.block k (by omega) (by intro e; cases e; omega)⟩
theorem bcell {W w1 : World} (hb : Below W.heap.size W w1) : (∀ b o, b < W.heap.size → w1.cell? ⟨b, o, none⟩ = W.cell? ⟨b, o, none⟩) ∧ (∀ b o, b < W.heap.size → w1.frozen? ⟨b, o, none⟩ = W.frozen? ⟨b, o, none⟩) :=
 ⟨fun b o h => hb.cell (p := ⟨b, o, none⟩) h, fun b o h => hb.frozen (p := ⟨b, o, none⟩) h⟩
theorem byteW (x : UInt8) : IntKind.u32.wrap (x.toNat : Int) = ((x.toUInt32).toNat : Int) := by
 have := x.toNat_lt;rw [z5z, UInt8.toNat_toUInt32, Nat.mod_eq_of_lt (by omega)]
theorem wordB (m : Nat → UInt8) (k : Nat) : bits .or .u32 (bits .or .u32 (bits .or .u32 (IntKind.u32.wrap (IntKind.u32.wrap ((m (4 * k)).toNat : Int) * 16777216)) (IntKind.u32.wrap (IntKind.u32.wrap ((m (4 * k + 1)).toNat : Int) * 65536))) (IntKind.u32.wrap (IntKind.u32.wrap ((m (4 * k + 2)).toNat : Int) * 256))) (IntKind.u32.wrap ((m (4 * k + 3)).toNat : Int))
 = ((word m k).toNat : Int) := by
 unfold word;generalize m (4 * k) = a;generalize m (4 * k + 1) = b;generalize m (4 * k + 2) = c;generalize m (4 * k + 3) = d;rw [byteW, byteW, byteW, byteW];have h1 := shl32 a.toUInt32 24 (by omega);have h2 := shl32 b.toUInt32 16 (by omega);have h3 := shl32 c.toUInt32 8 (by omega);rw [show ((2 ^ 24 : Nat) : Int) = 16777216 from rfl] at h1;rw [show ((2 ^ 16 : Nat) : Int) = 65536 from rfl] at h2;rw [show ((2 ^ 8 : Nat) : Int) = 256 from rfl] at h3;rw [h1, h2, h3, or32, or32, or32]; rfl
theorem zkb (w : World) (g o c n : Nat) (m : Nat → UInt8) (hn : 64 ≤ n) (hn2 : n ≤ 90000) (hr : ∀ j, j < 64 → w.cell? ⟨g, o + j, none⟩ = some (.int .u8 ((m j).toNat : Int))) :
 Calls Tryz.prog 96 #[.slice (some ⟨g, o, none⟩) n c] w fun e w' => e = .returned (.agg (u32s 64 (z2o (word m)))) ∧ Below w.heap.size w w' := by
 have HR := zh hr; clear hr
 go_enter Tryz.func96, Tryz.ntmps96
 go_wp2
 go_loopw [5] (fun i wr => ∃ k : Nat, k ≤ 16 ∧ i = .int .i64 k ∧ Below w.heap.size w wr ∧ ∃ f, Blk wr w.heap.size 155 (u32s 64 f) ∧ ∀ i, i < k → f i = word m i) (fun i _ => 16 - (intOf i).toNat)
 case atStart => exact ⟨0, Nat.zero_le _, rfl, (Below.refl _ _).alloc zl _, fun _ => 0, by exact Blk.new w _ _, fun i hi => absurd hi (Nat.not_lt_zero _)⟩
 case round =>
  obtain ⟨k, hk, rfl, hb, f, hblk, hf⟩ := hrel;by_cases hlt : k < 16
  · obtain ⟨hc, hfz⟩ := bcell hb;have r0 := HR.out (4 * k) (by omega);have r1 := HR.out (4 * k + 1) (by omega);have r2 := HR.out (4 * k + 2) (by omega);have r3 := HR.out (4 * k + 3) (by omega);have hg : g < w.heap.size := by have := block_lt_of_cell r0; exact this
    have e0 : (4 * (k : Int)).toNat = 4 * k := by omega
    have e1 : (4 * (k : Int) + 1).toNat = 4 * k + 1 := by omega
    have e2 : (4 * (k : Int) + 2).toNat = 4 * k + 2 := by omega
    have e3 : (4 * (k : Int) + 3).toNat = 4 * k + 3 := by omega
    have p0 : 0 ≤ 4 * (k : Int) := by omega
    have q0 : 4 * (k : Int) < (n : Int) := by omega
    have p1 : 0 ≤ 4 * (k : Int) + 1 := by omega
    have q1 : 4 * (k : Int) + 1 < (n : Int) := by omega
    have p2 : 0 ≤ 4 * (k : Int) + 2 := by omega
    have q2 : 4 * (k : Int) + 2 < (n : Int) := by omega
    have p3 : 0 ≤ 4 * (k : Int) + 3 := by omega
    have q3 : 4 * (k : Int) + 3 < (n : Int) := by omega
    have w0 : IntKind.i64.wrap (4 * (k : Int)) = 4 * (k : Int) := IntWalk.i64_in _ (by omega);have w1 : IntKind.i64.wrap (4 * (k : Int) + 1) = 4 * (k : Int) + 1 := IntWalk.i64_in _ (by omega);have w2 : IntKind.i64.wrap (4 * (k : Int) + 2) = 4 * (k : Int) + 2 := IntWalk.i64_in _ (by omega);have w3 : IntKind.i64.wrap (4 * (k : Int) + 3) = 4 * (k : Int) + 3 := IntWalk.i64_in _ (by omega)
    go_wp2
    go_still_tail 34, (by kernel_rfl)
    rw [wordB m k];clear w0 w1 w2 w3 e0 e1 e2 e3 p0 p1 p2 p3 q0 q1 q2 q3 r0 r1 r2 r3;change wpList _ _ _ _ _ wr.drew;obtain ⟨wq, hwq⟩ := zx wr.drew;rw [← hwq];have hblk1 : Blk wq w.heap.size 155 (u32s 64 f) := by rw [hwq]; exact hblk
    have hb1 : Below w.heap.size w wq := by rw [hwq]; exact hb.drew
    have hx := hblk1.word k (by omega);have hz := hblk1.frozen k;clear hwq hc hfz hblk hb
    go_wp2
    go_roundw
    case rel =>
     refine ⟨k + 1, by omega, by go_num, hb1.setCell zl _, upd f k (word m k), hblk1.setW k _, fun i hi => ?_⟩;by_cases hik : i = k
     · subst hik; exact z0q _ _ _
     · rw [z09 _ _ _ _ hik]; exact hf i (by omega)
    case measure => simp [intOf]; omega
  · have Hf : Hid (∀ i, i < 16 → f i = z2o (word m) i) := zh fun i hi => by rw [z85 _ _ hi]; exact hf i (by omega)
    clear hf
    go_wp2
    go_loopw [4] (fun i wr => ∃ t : Nat, 16 ≤ t ∧ t ≤ 64 ∧ i = .int .i64 t ∧ Below w.heap.size w wr ∧ ∃ f, Blk wr w.heap.size 155 (u32s 64 f) ∧ ∀ i, i < t → f i = z2o (word m) i) (fun i _ => 64 - (intOf i).toNat)
    case atStart => exact ⟨16, by omega, by omega, rfl, hb, f, hblk, Hf.out⟩
    case round =>
     clear hblk hb Hf f hlt hk;obtain ⟨t, ht1, ht2, rfl, hb, f, hblk, hf⟩ := hrel;have Hf := zh hf;clear hf;by_cases hlt : t < 64
     · have e2 : ((t : Int) - 2).toNat = t - 2 := by omega
       have p2 : 0 ≤ (t : Int) - 2 := by omega
       have p2' : 2 ≤ (t : Int) := by omega
       have q2 : (t : Int) - 2 < 64 := by omega
       have w2 : IntKind.i64.wrap ((t : Int) - 2) = (t : Int) - 2 := IntWalk.i64_in _ (by omega);have x2 := hblk.word (t - 2) (by omega);have hbound : w.heap.size < wr.heap.size := hblk.lt
       go_wp2
       refine wp_region_still_tail 18 (by kernel_rfl) (by kernel_rfl) ?_;simp only [List.take_succ_cons, List.take_zero, List.drop_succ_cons, List.drop_zero]
       repeat still_step
       still_call (z2e (f (t - 2)) 17 (by omega) (by omega) _)
       repeat still_step
       still_call (z2e (f (t - 2)) 19 (by omega) (by omega) _)
       repeat still_step
       refine wpStill_nil ?_;rw [ss1_bits];change wpList _ _ _ _ _ wr.drew;obtain ⟨x, hx⟩ := zx (ss1 (f (t - 2)));rw [← hx];have Hx := zh hx; clear hx;clear x2 e2 p2 p2' q2 w2;obtain ⟨wq, hwq⟩ := zx wr.drew;rw [← hwq];have bq : Blk wq w.heap.size 155 (u32s 64 f) := by rw [hwq]; exact hblk
       have lq : Below w.heap.size w wq := by rw [hwq]; exact hb.drew
       have cq := bq.word t (by omega);have zq := bq.frozen t;clear hwq hblk hb hbound
       go_wp2
       clear cq zq;obtain ⟨wa, hW⟩ := zx (wq.setCell ⟨w.heap.size, t, none⟩ (.int .u32 (x.toNat : Int)));rw [← hW];obtain ⟨f1, hF⟩ := zx (upd f t x);have ba : Blk wa w.heap.size 155 (u32s 64 f1) := by rw [hW, hF]; exact bq.setW t x
       have la : Below w.heap.size w wa := by rw [hW]; exact lq.setCell zl _
       have Sf1 : Hid (f1 t = x) := zh (by rw [hF]; exact z0q _ _ _);have Of1 : Hid (∀ i, i ≠ t → f1 i = f i) := zh (fun i hi => by rw [hF]; exact z09 _ _ _ _ hi);have hbound : w.heap.size < wa.heap.size := ba.lt;clear hW hF bq lq wq;have e7 : ((t : Int) - 7).toNat = t - 7 := by omega
       have p7 : 0 ≤ (t : Int) - 7 := by omega
       have p7' : 7 ≤ (t : Int) := by omega
       have q7 : (t : Int) - 7 < 64 := by omega
       have w7 : IntKind.i64.wrap ((t : Int) - 7) = (t : Int) - 7 := IntWalk.i64_in _ (by omega);have ct : wa.cell? ⟨w.heap.size, t, none⟩ = some (.int .u32 (x.toNat : Int)) := by rw [ba.word t (by omega), Sf1.out]
       have x7 : wa.cell? ⟨w.heap.size, t - 7, none⟩ = some (.int .u32 ((f (t - 7)).toNat : Int)) := by rw [ba.word (t - 7) (by omega), Of1.out _ (by omega)]
       go_wp2
       refine wp_region_still_tail 8 (by kernel_rfl) (by kernel_rfl) ?_;simp only [List.take_succ_cons, List.take_zero, List.drop_succ_cons, List.drop_zero]
       repeat still_step
       refine wpStill_nil ?_;rw [z4x];change wpList _ _ _ _ _ wa.drew;obtain ⟨y, hy⟩ := zx (x + f (t - 7));rw [← hy];have Hy := zh hy; clear hy;clear x7 ct e7 p7 p7' q7 w7;obtain ⟨wq, hwq⟩ := zx wa.drew;rw [← hwq];have bq : Blk wq w.heap.size 155 (u32s 64 f1) := by rw [hwq]; exact ba
       have lq : Below w.heap.size w wq := by rw [hwq]; exact la.drew
       have cq := bq.word t (by omega);have zq := bq.frozen t;clear hwq ba la hbound
       go_wp2
       clear cq zq;obtain ⟨wb, hW⟩ := zx (wq.setCell ⟨w.heap.size, t, none⟩ (.int .u32 (y.toNat : Int)));rw [← hW];obtain ⟨f2, hF⟩ := zx (upd f1 t y);have bb : Blk wb w.heap.size 155 (u32s 64 f2) := by rw [hW, hF]; exact bq.setW t y
       have lb : Below w.heap.size w wb := by rw [hW]; exact lq.setCell zl _
       have Sf2 : Hid (f2 t = y) := zh (by rw [hF]; exact z0q _ _ _);have Of2 : Hid (∀ i, i ≠ t → f2 i = f1 i) := zh (fun i hi => by rw [hF]; exact z09 _ _ _ _ hi);have hbound : w.heap.size < wb.heap.size := bb.lt;clear hW hF bq lq wq;have e15 : ((t : Int) - 15).toNat = t - 15 := by omega
       have p15 : 0 ≤ (t : Int) - 15 := by omega
       have p15' : 15 ≤ (t : Int) := by omega
       have q15 : (t : Int) - 15 < 64 := by omega
       have w15 : IntKind.i64.wrap ((t : Int) - 15) = (t : Int) - 15 := IntWalk.i64_in _ (by omega);have ct : wb.cell? ⟨w.heap.size, t, none⟩ = some (.int .u32 (y.toNat : Int)) := by rw [bb.word t (by omega), Sf2.out]
       have x15 : wb.cell? ⟨w.heap.size, t - 15, none⟩ = some (.int .u32 ((f (t - 15)).toNat : Int)) := by rw [bb.word (t - 15) (by omega), Of2.out _ (by omega), Of1.out _ (by omega)]
       go_wp2
       refine wp_region_still_tail 21 (by kernel_rfl) (by kernel_rfl) ?_;simp only [List.take_succ_cons, List.take_zero, List.drop_succ_cons, List.drop_zero]
       repeat still_step
       still_call (z2e (f (t - 15)) 7 (by omega) (by omega) _)
       repeat still_step
       still_call (z2e (f (t - 15)) 18 (by omega) (by omega) _)
       repeat still_step
       refine wpStill_nil ?_;rw [ss0_bits, z4x];change wpList _ _ _ _ _ wb.drew;obtain ⟨z, hz⟩ := zx (y + ss0 (f (t - 15)));rw [← hz];have Hz := zh hz; clear hz;clear x15 ct e15 p15 p15' q15 w15;obtain ⟨wq, hwq⟩ := zx wb.drew;rw [← hwq];have bq : Blk wq w.heap.size 155 (u32s 64 f2) := by rw [hwq]; exact bb
       have lq : Below w.heap.size w wq := by rw [hwq]; exact lb.drew
       have cq := bq.word t (by omega);have zq := bq.frozen t;clear hwq bb lb hbound
       go_wp2
       clear cq zq;obtain ⟨wc, hW⟩ := zx (wq.setCell ⟨w.heap.size, t, none⟩ (.int .u32 (z.toNat : Int)));rw [← hW];obtain ⟨f3, hF⟩ := zx (upd f2 t z);have bc : Blk wc w.heap.size 155 (u32s 64 f3) := by rw [hW, hF]; exact bq.setW t z
       have lc : Below w.heap.size w wc := by rw [hW]; exact lq.setCell zl _
       have Sf3 : Hid (f3 t = z) := zh (by rw [hF]; exact z0q _ _ _);have Of3 : Hid (∀ i, i ≠ t → f3 i = f2 i) := zh (fun i hi => by rw [hF]; exact z09 _ _ _ _ hi);have hbound : w.heap.size < wc.heap.size := bc.lt;clear hW hF bq lq wq;have e16 : ((t : Int) - 16).toNat = t - 16 := by omega
       have p16 : 0 ≤ (t : Int) - 16 := by omega
       have p16' : 16 ≤ (t : Int) := by omega
       have q16 : (t : Int) - 16 < 64 := by omega
       have w16 : IntKind.i64.wrap ((t : Int) - 16) = (t : Int) - 16 := IntWalk.i64_in _ (by omega);have ct : wc.cell? ⟨w.heap.size, t, none⟩ = some (.int .u32 (z.toNat : Int)) := by rw [bc.word t (by omega), Sf3.out]
       have x16 : wc.cell? ⟨w.heap.size, t - 16, none⟩ = some (.int .u32 ((f (t - 16)).toNat : Int)) := by rw [bc.word (t - 16) (by omega), Of3.out _ (by omega), Of2.out _ (by omega), Of1.out _ (by omega)]
       go_wp2
       refine wp_region_still_tail 8 (by kernel_rfl) (by kernel_rfl) ?_;simp only [List.take_succ_cons, List.take_zero, List.drop_succ_cons, List.drop_zero]
       repeat still_step
       refine wpStill_nil ?_;rw [z4x];change wpList _ _ _ _ _ wc.drew;obtain ⟨v, hv⟩ := zx (z + f (t - 16));rw [← hv];have Hv := zh hv; clear hv;clear x16 ct e16 p16 p16' q16 w16;obtain ⟨wq, hwq⟩ := zx wc.drew;rw [← hwq];have bq : Blk wq w.heap.size 155 (u32s 64 f3) := by rw [hwq]; exact bc
       have lq : Below w.heap.size w wq := by rw [hwq]; exact lc.drew
       have cq := bq.word t (by omega);have zq := bq.frozen t;clear hwq bc lc hbound
       go_wp2
       clear cq zq
       go_roundw
       case rel =>
        refine ⟨t + 1, by omega, by omega, by go_num, lq.setCell zl _, upd f3 t v, bq.setW t v, fun i hi => ?_⟩;by_cases hit : i = t
        · subst hit;rw [z0q, Hv.out, Hz.out, Hy.out, Hx.out, z86 _ _ (by omega), Hf.out _ (by omega), Hf.out _ (by omega), Hf.out _ (by omega), Hf.out _ (by omega)]
        · rw [z09 _ _ _ _ hit, Of3.out _ hit, Of2.out _ hit, Of1.out _ hit]; exact Hf.out i (by omega)
       case measure => simp [intOf]; omega
     · have Hz : Hid (u32s 64 f = u32s 64 (z2o (word m))) := zh (z3a fun i hi => Hf.out i (by omega))
       go_wp2_with (first
        | (refine wpList_load_row rfl 155 _ rfl w.heap.size rfl 155 (u32s 64 f) (0, 0) _ hblk Tryz.underlying155 rfl (by rw [z0d]; kernel_rfl) ?_)
        | (refine wpList_store_row rfl 155 _ _ rfl w.heap.size (u32s 64 f) rfl rfl 155 (u32s 64 f) hblk (by rw [z0d]; kernel_rfl) rfl (z34 64 f) ?_; rw [setRow_self _ _ _ _ _ hblk]))
       exact bodyPost_ret (v := .agg (u32s 64 f)) (results_cell_row rfl _ _ w.heap.size 155 (u32s 64 f) (0, 0) _ rfl hblk Tryz.underlying155 rfl (by rw [z0d]; kernel_rfl)) rfl ⟨by rw [Hz.out], hb⟩
def stF (v : V) (kf : Nat → UInt32) (i : Nat) : UInt32 := if i < 8 then v.get i else kf (i - 8)
theorem zgd (v u : V) (k : Nat) (h : k < 8) : (addV v u).get k = v.get k + u.get k := by
 match k, h with
 | 0, _ => rfl
 | 1, _ => rfl
 | 2, _ => rfl
 | 3, _ => rfl
 | 4, _ => rfl
 | 5, _ => rfl
 | 6, _ => rfl
 | 7, _ => rfl
theorem index8 (u : V) (W : World) (i : Nat) (hi : i < 8) : (Instr.index 113 (.agg #[.int .u32 (u.a.toNat : Int), .int .u32 (u.b.toNat : Int), .int .u32 (u.c.toNat : Int), .int .u32 (u.d.toNat : Int), .int .u32 (u.e.toNat : Int), .int .u32 (u.f.toNat : Int), .int .u32 (u.g.toNat : Int), .int .u32 (u.h.toNat : Int)]) (.int .i64 (i : Int))).run Tryz.prog W = .ok (.int .u32 ((u.get i).toNat : Int)) W := by
 have h0 : (Instr.index 113 (.agg #[.int .u32 (u.a.toNat : Int), .int .u32 (u.b.toNat : Int), .int .u32 (u.c.toNat : Int), .int .u32 (u.d.toNat : Int), .int .u32 (u.e.toNat : Int), .int .u32 (u.f.toNat : Int), .int .u32 (u.g.toNat : Int), .int .u32 (u.h.toNat : Int)]) (.int .i64 0)).run Tryz.prog W = .ok (.int .u32 (u.a.toNat : Int)) W := by kernel_rfl
 have h1 : (Instr.index 113 (.agg #[.int .u32 (u.a.toNat : Int), .int .u32 (u.b.toNat : Int), .int .u32 (u.c.toNat : Int), .int .u32 (u.d.toNat : Int), .int .u32 (u.e.toNat : Int), .int .u32 (u.f.toNat : Int), .int .u32 (u.g.toNat : Int), .int .u32 (u.h.toNat : Int)]) (.int .i64 1)).run Tryz.prog W = .ok (.int .u32 (u.b.toNat : Int)) W := by kernel_rfl
 have h2 : (Instr.index 113 (.agg #[.int .u32 (u.a.toNat : Int), .int .u32 (u.b.toNat : Int), .int .u32 (u.c.toNat : Int), .int .u32 (u.d.toNat : Int), .int .u32 (u.e.toNat : Int), .int .u32 (u.f.toNat : Int), .int .u32 (u.g.toNat : Int), .int .u32 (u.h.toNat : Int)]) (.int .i64 2)).run Tryz.prog W = .ok (.int .u32 (u.c.toNat : Int)) W := by kernel_rfl
 have h3 : (Instr.index 113 (.agg #[.int .u32 (u.a.toNat : Int), .int .u32 (u.b.toNat : Int), .int .u32 (u.c.toNat : Int), .int .u32 (u.d.toNat : Int), .int .u32 (u.e.toNat : Int), .int .u32 (u.f.toNat : Int), .int .u32 (u.g.toNat : Int), .int .u32 (u.h.toNat : Int)]) (.int .i64 3)).run Tryz.prog W = .ok (.int .u32 (u.d.toNat : Int)) W := by kernel_rfl
 have h4 : (Instr.index 113 (.agg #[.int .u32 (u.a.toNat : Int), .int .u32 (u.b.toNat : Int), .int .u32 (u.c.toNat : Int), .int .u32 (u.d.toNat : Int), .int .u32 (u.e.toNat : Int), .int .u32 (u.f.toNat : Int), .int .u32 (u.g.toNat : Int), .int .u32 (u.h.toNat : Int)]) (.int .i64 4)).run Tryz.prog W = .ok (.int .u32 (u.e.toNat : Int)) W := by kernel_rfl
 have h5 : (Instr.index 113 (.agg #[.int .u32 (u.a.toNat : Int), .int .u32 (u.b.toNat : Int), .int .u32 (u.c.toNat : Int), .int .u32 (u.d.toNat : Int), .int .u32 (u.e.toNat : Int), .int .u32 (u.f.toNat : Int), .int .u32 (u.g.toNat : Int), .int .u32 (u.h.toNat : Int)]) (.int .i64 5)).run Tryz.prog W = .ok (.int .u32 (u.f.toNat : Int)) W := by kernel_rfl
 have h6 : (Instr.index 113 (.agg #[.int .u32 (u.a.toNat : Int), .int .u32 (u.b.toNat : Int), .int .u32 (u.c.toNat : Int), .int .u32 (u.d.toNat : Int), .int .u32 (u.e.toNat : Int), .int .u32 (u.f.toNat : Int), .int .u32 (u.g.toNat : Int), .int .u32 (u.h.toNat : Int)]) (.int .i64 6)).run Tryz.prog W = .ok (.int .u32 (u.g.toNat : Int)) W := by kernel_rfl
 have h7 : (Instr.index 113 (.agg #[.int .u32 (u.a.toNat : Int), .int .u32 (u.b.toNat : Int), .int .u32 (u.c.toNat : Int), .int .u32 (u.d.toNat : Int), .int .u32 (u.e.toNat : Int), .int .u32 (u.f.toNat : Int), .int .u32 (u.g.toNat : Int), .int .u32 (u.h.toNat : Int)]) (.int .i64 7)).run Tryz.prog W = .ok (.int .u32 (u.h.toNat : Int)) W := by kernel_rfl
 match i, hi with
 | 0, _ => exact h0
 | 1, _ => exact h1
 | 2, _ => exact h2
 | 3, _ => exact h3
 | 4, _ => exact h4
 | 5, _ => exact h5
 | 6, _ => exact h6
 | 7, _ => exact h7
theorem mix_any (w : World) (gs : Nat) (v : V) (kf wf : Nat → UInt32) (hs : Blk w gs 185 (u32s 72 (stF v kf))) :
 Calls Tryz.prog 95 #[.pointer (some ⟨gs, 0, none⟩), .agg (u32s 64 wf)] w fun e w' => e = .returned (.tuple #[]) ∧
  Blk w' gs 185 (u32s 72 (stF (addV v (rnds kf wf v 64)) kf)) ∧ w.grownBy w' (some gs) := by
 have hgs : gs < w.heap.size := hs.lt
 go_enter Tryz.func95, Tryz.ntmps95
 go_wp2
 obtain ⟨w1, hw1⟩ := zx (w.alloc (Obj.cells (u32s 64 wf) 155));rw [← hw1]
 have hg1 : w.grownBy w1 (some gs) := by
  rw [hw1]; refine ⟨rfl, rfl, rfl, by simp, fun k hk _ => ?_⟩; rw [Go.heap_alloc_old]; exact hk
 have hs1 : Blk w1 gs 185 (u32s 72 (stF v kf)) := by rw [hw1]; exact hs.alloc _
 have hb1 : Blk w1 w.heap.size 155 (u32s 64 wf) := by rw [hw1]; exact Blk.new w _ _
 have c0 : w1.cell? ⟨gs, 0, none⟩ = some (.int .u32 (v.a.toNat : Int)) := hs1.word 0 (by omega);have c1 : w1.cell? ⟨gs, 1, none⟩ = some (.int .u32 (v.b.toNat : Int)) := hs1.word 1 (by omega);have c2 : w1.cell? ⟨gs, 2, none⟩ = some (.int .u32 (v.c.toNat : Int)) := hs1.word 2 (by omega);have c3 : w1.cell? ⟨gs, 3, none⟩ = some (.int .u32 (v.d.toNat : Int)) := hs1.word 3 (by omega);clear hw1
 go_quiet (fail)
 clear c0 c1 c2 c3;have c4 : w1.cell? ⟨gs, 4, none⟩ = some (.int .u32 (v.e.toNat : Int)) := hs1.word 4 (by omega);have c5 : w1.cell? ⟨gs, 5, none⟩ = some (.int .u32 (v.f.toNat : Int)) := hs1.word 5 (by omega);have c6 : w1.cell? ⟨gs, 6, none⟩ = some (.int .u32 (v.g.toNat : Int)) := hs1.word 6 (by omega);have c7 : w1.cell? ⟨gs, 7, none⟩ = some (.int .u32 (v.h.toNat : Int)) := hs1.word 7 (by omega)
 go_wp2
 go_quiet (fail)
 clear c4 c5 c6 c7
 go_wp2
 go_loopw [4, 5, 6, 7, 8, 9, 10, 11, 57] (fun a b c d e f g h i wr => ∃ (t : Nat) (nq : Nat) (u : V), t ≤ 64 ∧ i = .int .i64 t ∧ wr = w1.drewN nq ∧ u = rnds kf wf v t ∧
  a = .int .u32 (u.a.toNat : Int) ∧ b = .int .u32 (u.b.toNat : Int) ∧ c = .int .u32 (u.c.toNat : Int) ∧ d = .int .u32 (u.d.toNat : Int) ∧
  e = .int .u32 (u.e.toNat : Int) ∧ f = .int .u32 (u.f.toNat : Int) ∧ g = .int .u32 (u.g.toNat : Int) ∧ h = .int .u32 (u.h.toNat : Int)) (fun _ _ _ _ _ _ _ _ i _ => 64 - (intOf i).toNat)
 case atStart => exact ⟨0, _, v, Nat.zero_le _, rfl, by rw [World.drewN_drewN], rfl, rfl, rfl, rfl, rfl, rfl, rfl, rfl, rfl⟩
 case round =>
  obtain ⟨t, nq, u, ht, rfl, hwr, hu, rfl, rfl, rfl, rfl, rfl, rfl, rfl, rfl⟩ := hrel;have Hu := zh hu; clear hu;have Hwr := zh hwr;by_cases hlt : t < 64
  · have e1 : ((t : Int)).toNat = t := by omega
    have p1 : 0 ≤ (t : Int) := by omega
    have q1 : (t : Int) < 64 := by omega
    have ck : wr.cell? ⟨gs, 8 + t, none⟩ = some (.int .u32 ((kf t).toNat : Int)) := by
     have := hs1.word (8 + t) (by omega); unfold stF at this; rw [if_neg (by omega), show 8 + t - 8 = t by omega] at this; rw [hwr]; exact this
    have cw : wr.cell? ⟨w.heap.size, t, none⟩ = some (.int .u32 ((wf t).toNat : Int)) := by rw [hwr]; exact hb1.word t hlt
    clear hwr;obtain ⟨r6, hr6⟩ := zx (rotr u.e 6);obtain ⟨r11, hr11⟩ := zx (rotr u.e 11);obtain ⟨r25, hr25⟩ := zx (rotr u.e 25);obtain ⟨y1, hy1⟩ := zx (r6 ^^^ r11);have gy1 : bits .xor .u32 (r6.toNat : Int) (r11.toNat : Int) = (y1.toNat : Int) := by rw [z5s, hy1]
    obtain ⟨y2, hy2⟩ := zx (y1 ^^^ r25);have gy2 : bits .xor .u32 (y1.toNat : Int) (r25.toNat : Int) = (y2.toNat : Int) := by rw [z5s, hy2]
    obtain ⟨y3, hy3⟩ := zx (u.h + y2);have gy3 : ((u.h.toNat : Int) + (y2.toNat : Int)) % 4294967296 = (y3.toNat : Int) := by rw [z2y, hy3]
    obtain ⟨y4, hy4⟩ := zx (u.e &&& u.f);have gy4 : bits .and .u32 (u.e.toNat : Int) (u.f.toNat : Int) = (y4.toNat : Int) := by rw [za4, hy4]
    obtain ⟨y5, hy5⟩ := zx (~~~u.e);have gy5 : bits .xor .u32 (if IntKind.u32.signed = true then -1 else IntKind.u32.max) (u.e.toNat : Int) = (y5.toNat : Int) := by rw [not32', hy5]
    obtain ⟨y6, hy6⟩ := zx (y5 &&& u.g);have gy6 : bits .and .u32 (y5.toNat : Int) (u.g.toNat : Int) = (y6.toNat : Int) := by rw [za4, hy6]
    obtain ⟨y7, hy7⟩ := zx (y4 ^^^ y6);have gy7 : bits .xor .u32 (y4.toNat : Int) (y6.toNat : Int) = (y7.toNat : Int) := by rw [z5s, hy7]
    obtain ⟨y8, hy8⟩ := zx (y3 + y7);have gy8 : ((y3.toNat : Int) + (y7.toNat : Int)) % 4294967296 = (y8.toNat : Int) := by rw [z2y, hy8]
    obtain ⟨y9, hy9⟩ := zx (y8 + kf t);have gy9 : ((y8.toNat : Int) + ((kf t).toNat : Int)) % 4294967296 = (y9.toNat : Int) := by rw [z2y, hy9]
    obtain ⟨x, hx⟩ := zx (y9 + wf t);have gx : ((y9.toNat : Int) + ((wf t).toNat : Int)) % 4294967296 = (x.toNat : Int) := by rw [z2y, hx]
    have Hx : Hid (x = rndX (kf t) (wf t) u) := zh (by rw [hx, hy9, hy8, hy7, hy6, hy5, hy4, hy3, hy2, hy1, hr25, hr11, hr6]; rfl);have Q6 := zh (turnQ_6 u.e r6 hr6 wr);have Q11 := zh (turnQ_11 u.e r11 hr11 wr);have Q25 := zh (turnQ_25 u.e r25 hr25 wr);clear hr6 hr11 hr25 hy1 hy2 hy3 hy4 hy5 hy6 hy7 hy8 hy9 hx
    go_wp2
    go_quiet (first | exact Q6.out _ | exact Q11.out _ | exact Q25.out _)
    clear ck cw gy1 gy2 gy3 gy4 gy5 gy6 gy7 gy8 gy9;simp only [gx];obtain ⟨r2, hr2⟩ := zx (rotr u.a 2);obtain ⟨r13, hr13⟩ := zx (rotr u.a 13);obtain ⟨r22, hr22⟩ := zx (rotr u.a 22);obtain ⟨z1, hz1⟩ := zx (r2 ^^^ r13);have gz1 : bits .xor .u32 (r2.toNat : Int) (r13.toNat : Int) = (z1.toNat : Int) := by rw [z5s, hz1]
    obtain ⟨z2, hz2⟩ := zx (z1 ^^^ r22);have gz2 : bits .xor .u32 (z1.toNat : Int) (r22.toNat : Int) = (z2.toNat : Int) := by rw [z5s, hz2]
    obtain ⟨z3, hz3⟩ := zx (u.a &&& u.b);have gz3 : bits .and .u32 (u.a.toNat : Int) (u.b.toNat : Int) = (z3.toNat : Int) := by rw [za4, hz3]
    obtain ⟨z4, hz4⟩ := zx (u.a &&& u.c);have gz4 : bits .and .u32 (u.a.toNat : Int) (u.c.toNat : Int) = (z4.toNat : Int) := by rw [za4, hz4]
    obtain ⟨z5, hz5⟩ := zx (z3 ^^^ z4);have gz5 : bits .xor .u32 (z3.toNat : Int) (z4.toNat : Int) = (z5.toNat : Int) := by rw [z5s, hz5]
    obtain ⟨z6, hz6⟩ := zx (u.b &&& u.c);have gz6 : bits .and .u32 (u.b.toNat : Int) (u.c.toNat : Int) = (z6.toNat : Int) := by rw [za4, hz6]
    obtain ⟨z7, hz7⟩ := zx (z5 ^^^ z6);have gz7 : bits .xor .u32 (z5.toNat : Int) (z6.toNat : Int) = (z7.toNat : Int) := by rw [z5s, hz7]
    obtain ⟨y, hy⟩ := zx (z2 + z7);have gy : ((z2.toNat : Int) + (z7.toNat : Int)) % 4294967296 = (y.toNat : Int) := by rw [z2y, hy]
    have Hy : Hid (y = rndY u) := zh (by rw [hy, hz7, hz6, hz5, hz4, hz3, hz2, hz1, hr22, hr13, hr2]; rfl);obtain ⟨e', he'⟩ := zx (u.d + x);have ge' : ((u.d.toNat : Int) + (x.toNat : Int)) % 4294967296 = (e'.toNat : Int) := by rw [z2y, he']
    obtain ⟨a', ha'⟩ := zx (x + y);have ga' : ((x.toNat : Int) + (y.toNat : Int)) % 4294967296 = (a'.toNat : Int) := by rw [z2y, ha']
    have He' := zh he'; have Ha' := zh ha';have L2 := zh (turnL_2 u.a r2 hr2);have L13 := zh (turnL_13 u.a r13 hr13);have L22 := zh (turnL_22 u.a r22 hr22);clear he' ha' hr2 hr13 hr22 hz1 hz2 hz3 hz4 hz5 hz6 hz7 hy gx
    go_wp2_with (first
     | ((with_reducible refine (L2.out _).mono ?_); rintro e w' ⟨rfl, rfl⟩)
     | ((with_reducible refine (L13.out _).mono ?_); rintro e w' ⟨rfl, rfl⟩)
     | ((with_reducible refine (L22.out _).mono ?_); rintro e w' ⟨rfl, rfl⟩))
    go_roundw
    case rel =>
     exact ⟨t + 1, _, rnd (kf t) (wf t) u, by omega, by go_num, by rw [Hwr.out, World.drewN_drewN], by rw [rnds, ← Hu.out], by rw [ga', Ha'.out, Hx.out, Hy.out]; rfl, rfl, rfl, rfl, by rw [ge', He'.out, Hx.out]; rfl, rfl, rfl, rfl⟩
    case measure => simp [intOf]; omega
  · have Ht : Hid (u = rnds kf wf v 64) := zh (by rw [Hu.out, show t = 64 by omega]);have hno : decide ((t : Int) < 64) = false := decide_eq_false (by omega);clear Hu;have hsr : Blk wr gs 185 (u32s 72 (stF v kf)) := by rw [hwr]; exact hs1.drewN _
    have hgr : w.grownBy wr (some gs) := by rw [hwr]; exact zet hg1 _
    have Hsz : Hid (gs < w1.heap.size) := zh hs1.lt;clear hwr Hwr hs1 hg1 hb1
    go_wp2
    generalize hcs : (#[.int .u32 (u.a.toNat : Int), .int .u32 (u.b.toNat : Int), .int .u32 (u.c.toNat : Int), .int .u32 (u.d.toNat : Int), .int .u32 (u.e.toNat : Int), .int .u32 (u.f.toNat : Int), .int .u32 (u.g.toNat : Int), .int .u32 (u.h.toNat : Int)] : Array Value) = cs
    have Hix : Hid (∀ (i : Nat), i < 8 → ∀ W, (Instr.index 113 (.agg cs) (.int .i64 (i : Int))).run Tryz.prog W = .ok (.int .u32 ((u.get i).toNat : Int)) W) := zh (by
     intro i hi W;subst hcs;exact index8 u W i hi)
    clear hcs
    go_loopw [132] (fun i wx => ∃ (k : Nat) (F : Nat → UInt32), k ≤ 8 ∧ i = .int .i64 k ∧ Blk wx gs 185 (u32s 72 F) ∧ w.grownBy wx (some gs) ∧ (∀ j, j < 72 → F j = if j < k then (addV v u).get j else stF v kf j)) (fun i _ => 8 - (intOf i).toNat)
    case atStart => exact ⟨0, stF v kf, Nat.zero_le _, rfl, hsr, hgr, fun j hj => by rw [if_neg (Nat.not_lt_zero _)]⟩
    case round =>
     clear hsr hgr hgs;obtain ⟨k, F, hk, rfl, hblk, hgr, hF⟩ := hrel;have HF := zh hF; clear hF;by_cases hlt8 : k < 8
     · have hix := Hix.out k hlt8;obtain ⟨q, hq⟩ := zx (u.get k);rw [← hq] at hix;have hFk : F k = v.get k := by rw [HF.out k (by omega), if_neg (by omega)]; unfold stF; rw [if_pos hlt8]
       obtain ⟨p, hp⟩ := zx (v.get k);have ck := hblk.word k (by omega);rw [hFk, ← hp] at ck;obtain ⟨r, hr⟩ := zx (p + q);have hadd : (addV v u).get k = r := by rw [hr, hp, hq]; exact zgd v u k hlt8
       have Hadd := zh hadd;have g1 : IntKind.u32.wrap ((p.toNat : Int) + (q.toNat : Int)) = (r.toNat : Int) := by rw [z4x, hr]
       have g2 : ((p.toNat : Int) + (q.toNat : Int)) % 4294967296 = (r.toNat : Int) := by rw [z2y, hr]
       have hbound : gs < wr.heap.size := hblk.lt;clear hq hp hr hFk hadd
       go_wp2
       refine wp_region_still_tail 10 (by kernel_rfl) (by kernel_rfl) ?_;simp only [List.take_succ_cons, List.take_zero, List.drop_succ_cons, List.drop_zero]
       repeat still_step
       refine wpStill_nil ?_;change wpList _ _ _ _ _ wr.drew;obtain ⟨wq, hwq⟩ := zx wr.drew;rw [← hwq];have bq : Blk wq gs 185 (u32s 72 F) := by rw [hwq]; exact hblk
       have lq : w.grownBy wq (some gs) := by rw [hwq]; exact zi5 hgr
       have cq := bq.word k (by omega);have zq := bq.frozen k;clear hwq ck hblk hgr hbound hix
       go_wp2
       go_roundw
       case rel =>
        refine ⟨k + 1, upd F k r, by omega, by go_num, ?_, zch lq _ _, fun j hj => ?_⟩
        · first | exact bq.setW k r | (rw [g2]; exact bq.setW k r)
        · by_cases hjk : j = k
          · subst hjk; rw [z0q, if_pos (by omega), Hadd.out]
          · rw [z09 _ _ _ _ hjk, HF.out j hj];by_cases h : j < k
            · rw [if_pos h, if_pos (by omega)]
            · rw [if_neg h, if_neg (by omega)]
       case measure => simp [intOf]; omega
     · have Hfin : Hid (u32s 72 F = u32s 72 (stF (addV v (rnds kf wf v 64)) kf)) := zh (z3a fun j hj => by
        rw [HF.out j hj, Ht.out];unfold stF;by_cases h : j < 8
        · rw [if_pos (by omega), if_pos h, ← Ht.out]
        · rw [if_neg (by omega), if_neg h, if_neg h])
       rw [Hfin.out] at hblk
       go_wp2
       go_end0
       exact ⟨rfl, hblk, hgr⟩
end Go.Proofs.YtgjddkeogboojaaGreatDoor
