/-
  Arrays of words and of bytes as blocks of cells; slices of bytes that are read.
-/
import Derived.Test.YtjbagoedaelmnaaDoorBits
import Derived.Below
import Derived.Laws.OwnMore
import Derived.Deep.Draws
import Derived.Laws.Rows
import Derived.Deep.WholeRow
import Derived.Laws.CopyRow
namespace Go.Proofs.YtjbagoedaelmnaaDoor
open Go Go.RowKit

def wv (x : UInt32) : Value := .int .u32 (x.toNat : Int)
def bv (x : UInt8) : Value := .int .u8 (x.toNat : Int)

/-- n words as cells. -/
def u32s (n : Nat) (f : Nat → UInt32) : Array Value := ((List.range n).map fun i => wv (f i)).toArray
/-- n bytes as cells. -/
def u8s (n : Nat) (f : Nat → UInt8) : Array Value := ((List.range n).map fun i => bv (f i)).toArray

theorem u32s_size (n : Nat) (f : Nat → UInt32) : (u32s n f).size = n := by simp [u32s]
theorem u8s_size (n : Nat) (f : Nat → UInt8) : (u8s n f).size = n := by simp [u8s]
theorem u32s_get (n : Nat) (f : Nat → UInt32) (i : Nat) (h : i < n) : (u32s n f)[i]? = some (wv (f i)) := by simp [u32s, h]
theorem u8s_get (n : Nat) (f : Nat → UInt8) (i : Nat) (h : i < n) : (u8s n f)[i]? = some (bv (f i)) := by simp [u8s, h]

def upd {β : Type} (f : Nat → β) (k : Nat) (x : β) (i : Nat) : β := if i = k then x else f i
theorem upd_same {β : Type} (f : Nat → β) (k : Nat) (x : β) : upd f k x k = x := if_pos rfl
theorem upd_other {β : Type} (f : Nat → β) (k : Nat) (x : β) (i : Nat) (h : i ≠ k) : upd f k x i = f i := if_neg h

theorem u32s_set (n : Nat) (f : Nat → UInt32) (k : Nat) (x : UInt32) : (u32s n f).setIfInBounds k (wv x) = u32s n (upd f k x) := by
  apply Array.ext_getElem?
  intro i
  rw [Array.getElem?_setIfInBounds]
  by_cases h : k = i
  · subst h
    rw [if_pos rfl, u32s_size]
    by_cases hk : k < n
    · rw [if_pos hk, u32s_get _ _ _ hk, upd_same]
    · rw [if_neg hk, Array.getElem?_eq_none (by rw [u32s_size]; omega)]
  · rw [if_neg h]
    by_cases hi : i < n
    · rw [u32s_get _ _ _ hi, u32s_get _ _ _ hi, upd_other _ _ _ _ (Ne.symm h)]
    · rw [Array.getElem?_eq_none (by rw [u32s_size]; omega), Array.getElem?_eq_none (by rw [u32s_size]; omega)]
theorem u8s_set (n : Nat) (f : Nat → UInt8) (k : Nat) (x : UInt8) : (u8s n f).setIfInBounds k (bv x) = u8s n (upd f k x) := by
  apply Array.ext_getElem?
  intro i
  rw [Array.getElem?_setIfInBounds]
  by_cases h : k = i
  · subst h
    rw [if_pos rfl, u8s_size]
    by_cases hk : k < n
    · rw [if_pos hk, u8s_get _ _ _ hk, upd_same]
    · rw [if_neg hk, Array.getElem?_eq_none (by rw [u8s_size]; omega)]
  · rw [if_neg h]
    by_cases hi : i < n
    · rw [u8s_get _ _ _ hi, u8s_get _ _ _ hi, upd_other _ _ _ _ (Ne.symm h)]
    · rw [Array.getElem?_eq_none (by rw [u8s_size]; omega), Array.getElem?_eq_none (by rw [u8s_size]; omega)]
theorem u32s_congr {n : Nat} {f g : Nat → UInt32} (h : ∀ i, i < n → f i = g i) : u32s n f = u32s n g := by
  unfold u32s
  congr 1
  exact List.map_congr_left fun i hi => by rw [h i (by simpa using hi)]
theorem u8s_congr {n : Nat} {f g : Nat → UInt8} (h : ∀ i, i < n → f i = g i) : u8s n f = u8s n g := by
  unfold u8s
  congr 1
  exact List.map_congr_left fun i hi => by rw [h i (by simpa using hi)]

theorem u32s_one (n : Nat) (f : Nat → UInt32) : (u32s n f).all (·.oneCell') = true := by
  rw [Array.all_eq_true_iff_forall_mem]
  intro v hv
  simp only [u32s, List.mem_toArray, List.mem_map] at hv
  obtain ⟨i, _, rfl⟩ := hv
  rfl
theorem u8s_one (n : Nat) (f : Nat → UInt8) : (u8s n f).all (·.oneCell') = true := by
  rw [Array.all_eq_true_iff_forall_mem]
  intro v hv
  simp only [u8s, List.mem_toArray, List.mem_map] at hv
  obtain ⟨i, _, rfl⟩ := hv
  rfl

/-- Block g is just these cells. -/
def Blk (w : World) (g : Nat) (t : TypeId) (cs : Array Value) : Prop := w.heap[g]? = some (.cells cs t (0, 0))

section
variable {w w' : World} {g : Nat} {t : TypeId} {cs : Array Value}
theorem Blk.lt (h : Blk w g t cs) : g < w.heap.size := by
  rcases Nat.lt_or_ge g w.heap.size with hlt | hge
  · exact hlt
  · unfold Blk at h; rw [Array.getElem?_eq_none hge] at h; cases h
theorem Blk.cell (h : Blk w g t cs) (i : Nat) : w.cell? ⟨g, i, none⟩ = cs[i]? := cell_of_row w g i cs t (0, 0) h
theorem Blk.frozen (h : Blk w g t cs) (i : Nat) : w.frozen? ⟨g, i, none⟩ = false := by
  unfold Blk at h
  simp [World.frozen?, h]
theorem Blk.new (w : World) (t : TypeId) (cs : Array Value) : Blk (w.alloc (.cells cs t)) w.heap.size t cs := heap_alloc_new w _
theorem Blk.drewN (h : Blk w g t cs) (n : Nat) : Blk (w.drewN n) g t cs := h
theorem Blk.alloc (h : Blk w g t cs) (o : Obj) : Blk (w.alloc o) g t cs := (Below.heap_alloc w o g h.lt).trans h
theorem Blk.set_ (h : Blk w g t cs) (i : Nat) (u : Value) : Blk (w.setCell ⟨g, i, none⟩ u) g t (cs.setIfInBounds i u) := by
  unfold Blk at h ⊢
  simp [World.setCell, Array.getElem?_modify, h]
theorem Blk.far (h : Blk w g t cs) {p : Addr} (hp : g ≠ p.block) (u : Value) : Blk (w.setCell p u) g t cs := (Below.heap_setCell w p u g hp).trans h
theorem Blk.below {B : Nat} (h : Blk w g t cs) (hb : Below B w w') (hg : g < B) : Blk w' g t cs := (hb.block g hg).trans h
theorem Blk.word {n : Nat} {f : Nat → UInt32} (h : Blk w g t (u32s n f)) (i : Nat) (hi : i < n) : w.cell? ⟨g, i, none⟩ = some (.int .u32 ((f i).toNat : Int)) := (h.cell i).trans (u32s_get n f i hi)
theorem Blk.byte {n : Nat} {f : Nat → UInt8} (h : Blk w g t (u8s n f)) (i : Nat) (hi : i < n) : w.cell? ⟨g, i, none⟩ = some (.int .u8 ((f i).toNat : Int)) := (h.cell i).trans (u8s_get n f i hi)
theorem Blk.setW {n : Nat} {f : Nat → UInt32} (h : Blk w g t (u32s n f)) (i : Nat) (x : UInt32) : Blk (w.setCell ⟨g, i, none⟩ (.int .u32 (x.toNat : Int))) g t (u32s n (upd f i x)) := by
  have := h.set_ i (wv x); rwa [u32s_set] at this
theorem Blk.setB {n : Nat} {f : Nat → UInt8} (h : Blk w g t (u8s n f)) (i : Nat) (x : UInt8) : Blk (w.setCell ⟨g, i, none⟩ (.int .u8 (x.toNat : Int))) g t (u8s n (upd f i x)) := by
  have := h.set_ i (bv x); rwa [u8s_set] at this
end

theorem grown_set {w w1 : World} {g : Nat} (h : w.grownBy w1 (some g)) (i : Nat) (u : Value) : w.grownBy (w1.setCell ⟨g, i, none⟩ u) (some g) :=
  ⟨h.os, h.tape, h.output, by have := h.size; simpa [World.setCell] using this, fun k hk hkg => (Below.heap_setCell w1 ⟨g, i, none⟩ u k (fun e => hkg (by rw [e]))).trans (h.block k hk hkg)⟩
theorem grown_drewN {w w1 : World} {g : Option Nat} (h : w.grownBy w1 g) (n : Nat) : w.grownBy (w1.drewN n) g := ⟨h.os, h.tape, h.output, h.size, h.block⟩
theorem grown_drew {w w1 : World} {g : Option Nat} (h : w.grownBy w1 g) : w.grownBy w1.drew g := ⟨h.os, h.tape, h.output, h.size, h.block⟩
theorem grown_alloc {w w1 : World} {g : Option Nat} (h : w.grownBy w1 g) (o : Obj) : w.grownBy (w1.alloc o) g :=
  ⟨h.os, h.tape, h.output, by have := h.size; simp; omega, fun k hk hkg => (Below.heap_alloc w1 o k (Nat.lt_of_lt_of_le hk h.size)).trans (h.block k hk hkg)⟩
theorem grown_refl (w : World) (g : Option Nat) : w.grownBy w g := ⟨rfl, rfl, rfl, Nat.le_refl _, fun _ _ _ => rfl⟩
theorem grown_trans {w w1 w2 : World} {g : Option Nat} (h : w.grownBy w1 g) (h' : w1.grownBy w2 g) : w.grownBy w2 g :=
  ⟨h'.os.trans h.os, h'.tape.trans h.tape, h'.output.trans h.output, Nat.le_trans h.size h'.size, fun k hk hkg => (h'.block k (Nat.lt_of_lt_of_le hk h.size) hkg).trans (h.block k hk hkg)⟩
theorem grown_below {w w1 w2 : World} {g : Option Nat} (h : w.grownBy w1 g) (h' : Below w1.heap.size w1 w2) : w.grownBy w2 g :=
  ⟨h'.os.trans h.os, h'.tape.trans h.tape, h'.output.trans h.output, Nat.le_trans h.size h'.size, fun k hk hkg => (h'.block k (Nat.lt_of_lt_of_le hk h.size)).trans (h.block k hk hkg)⟩
/-- What turns one block at most, and that one lies above B, is below B as it was. -/
theorem grown_to_below {w w1 : World} {g B : Nat} (h : w.grownBy w1 (some g)) (hB : B ≤ w.heap.size) (hg : B ≤ g) : Below B w w1 :=
  ⟨h.os, h.tape, h.output, h.size, fun k hk => h.block k (by omega) (by intro e; cases e; omega)⟩

/-- The slice value v has n bytes, m of them. -/
def Rd (w : World) (v : Value) (n : Nat) (m : Nat → UInt8) : Prop :=
  ∃ A c, v = .slice A n c ∧ n ≤ c ∧ ∀ j, j < n → ∃ g o, A = some ⟨g, o, none⟩ ∧ w.cell? ⟨g, o + j, none⟩ = some (.int .u8 ((m j).toNat : Int))

theorem Rd.below {w w' : World} {v : Value} {n : Nat} {m : Nat → UInt8} (h : Rd w v n m) (hb : Below w.heap.size w w') : Rd w' v n m := by
  obtain ⟨A, c, rfl, hc, hr⟩ := h
  refine ⟨A, c, rfl, hc, fun j hj => ?_⟩
  obtain ⟨g, o, rfl, hcell⟩ := hr j hj
  exact ⟨g, o, rfl, by rw [hb.cell (p := ⟨g, o + j, none⟩) (block_lt_of_cell hcell)]; exact hcell⟩
theorem bcell {W w1 : World} (hb : Below W.heap.size W w1) : (∀ b o, b < W.heap.size → w1.cell? ⟨b, o, none⟩ = W.cell? ⟨b, o, none⟩) ∧ (∀ b o, b < W.heap.size → w1.frozen? ⟨b, o, none⟩ = W.frozen? ⟨b, o, none⟩) :=
  ⟨fun b o h => hb.cell (p := ⟨b, o, none⟩) h, fun b o h => hb.frozen (p := ⟨b, o, none⟩) h⟩
end Go.Proofs.YtjbagoedaelmnaaDoor
