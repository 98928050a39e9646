/-
  What the program's shelf is in memory: the words of the contracts. K: what every call of the shelf keeps; RowIn: a slice of bytes; TabIn: a map of files; ActIn, LooseIn: the acts that are loose; Ok: a shelf.
-/
import Derived.Test.YtccloieikkdcoaaGreatDoorTab
import Derived.Test.YtccloieikkdcoaaGreatDoorProg
import Derived.WalkKit
import Derived.OneCell
namespace Go.Proofs.YtccloieikkdcoaaGreatDoor
open Go Go.RowKit

def bv (x : UInt8) : Value := .int .u8 (x.toNat : Int)
def S (p : By) : Value := .string ⟨p.toArray⟩

/-- The types of cells that a shelf's calls write again: the shelf's own, and its acts'. -/
def mutT (e : TypeId) : Bool := e == 70 || e == 81

/-- What every call keeps: all below base, and all cells of other types. -/
structure K (base : Nat) (w w' : World) : Prop where
  below : Below base w w'
  const : ∀ (k : Nat) (c : Array Value) (e : TypeId) (fz : Nat × Nat), w.heap[k]? = some (Obj.cells c e fz) → mutT e = false → w'.heap[k]? = some (Obj.cells c e fz)

theorem K.refl (base : Nat) (w : World) : K base w w := ⟨Below.refl _ _, fun _ _ _ _ h _ => h⟩
theorem K.trans {base : Nat} {a b c : World} (h : K base a b) (k : K base b c) : K base a c :=
  ⟨h.below.trans k.below, fun i cs e fz hi he => k.const i cs e fz (h.const i cs e fz hi he) he⟩
theorem K.mono {base b' : Nat} {w w' : World} (h : K base w w') (hb : b' ≤ base) : K b' w w' := ⟨h.below.mono hb, h.const⟩
theorem K.size {base : Nat} {w w' : World} (h : K base w w') : w.heap.size ≤ w'.heap.size := h.below.size

/-- A call that only lays new blocks. -/
theorem K.of_new {base : Nat} {w w' : World} (h : Below w.heap.size w w') (hb : base ≤ w.heap.size) : K base w w' :=
  ⟨h.mono hb, fun k c e fz hk _ => by rw [h.block k (lt_of_block hk)]; exact hk⟩
theorem K.new {base : Nat} {a w w' : World} (k : K base a w) (h : Below w.heap.size w w') (hb : base ≤ w.heap.size) : K base a w' := k.trans (K.of_new h hb)

theorem below_alloc (w : World) (o : Obj) : Below w.heap.size w (w.alloc o) := (Below.refl _ w).alloc (Nat.le_refl _) o

theorem K.alloc {base : Nat} {a w : World} (k : K base a w) (hb : base ≤ w.heap.size) (o : Obj) : K base a (w.alloc o) := k.new (below_alloc w o) hb

theorem K.drew {base : Nat} {a w : World} (k : K base a w) : K base a w.drew := ⟨k.below.drew, k.const⟩

theorem K.setMut {base : Nat} {a w : World} (k : K base a w) {p : Addr} {c : Array Value} {e : TypeId} {fz : Nat × Nat} (hb : w.heap[p.block]? = some (.cells c e fz)) (he : mutT e = true) (hp : base ≤ p.block) (u : Value) : K base a (w.setCell p u) :=
  ⟨k.below.setCell hp u, fun i cs e' fz' hi he' => by
    have h1 := k.const i cs e' fz' hi he'
    rw [Below.heap_setCell _ _ _ _ (fun e1 => by subst e1; rw [hb] at h1; cases h1; rw [he] at he'; cases he')]
    exact h1⟩

theorem K.setNew {base : Nat} {a w : World} (k : K base a w) (hba : base ≤ a.heap.size) {p : Addr} (hp : a.heap.size ≤ p.block) (u : Value) : K base a (w.setCell p u) :=
  ⟨k.below.setCell (by omega) u, fun i cs e' fz' hi he' => by
    rw [Below.heap_setCell _ _ _ _ (fun e1 => by have := lt_of_block hi; omega)]
    exact k.const i cs e' fz' hi he'⟩

/-- A change of one block that is no cells of a kept type. -/
theorem K.grown {base : Nat} {a w w' : World} (k : K base a w) {row : Option Nat} (hg : w.grownBy w' row) (hb : base ≤ w.heap.size)
    (hr : ∀ r, row = some r → base ≤ r ∧ ∀ (c : Array Value) (e : TypeId) (fz : Nat × Nat), w.heap[r]? = some (Obj.cells c e fz) → mutT e = true) : K base a w' :=
  ⟨k.below.grown hg hb (fun r h => (hr r h).1), fun i cs e fz hi he => by
    have h1 := k.const i cs e fz hi he
    rw [hg.block i (lt_of_block h1) (fun e1 => by have := (hr i e1.symm).2 _ _ _ h1; rw [he] at this; cases this)]
    exact h1⟩

theorem K.cellOf {base : Nat} {w w' : World} (k : K base w w') {b : Nat} {v : Value} {e : TypeId} {fz : Nat × Nat} (h : w.heap[b]? = some (.cells #[v] e fz)) (he : mutT e = false) : w'.heap[b]? = some (.cells #[v] e fz) := k.const _ _ _ _ h he

/-- The slice value v holds the bytes b. -/
def RowIn (w : World) (base : Nat) (v : Value) (b : By) : Prop := w.ownsRow base 5 1 v b.length (b.map bv)

theorem RowIn.keep {base b' : Nat} {w w' : World} {v : Value} {b : By} (h : RowIn w base v b) (k : K b' w w') : RowIn w' base v b := by
  obtain ⟨h1, h2⟩ := h
  refine ⟨h1, ?_⟩
  rcases h2 with h2 | ⟨g, cap, cur, rfl, hb, hg, r⟩
  · exact .inl h2
  · exact .inr ⟨g, cap, cur, rfl, hb, k.const g cur _ _ hg rfl, r⟩

theorem RowIn.drew {base : Nat} {w : World} {v : Value} {b : By} (h : RowIn w base v b) : RowIn w.drew base v b := h

/-- Each value of a map of files: as it is. -/
def heldR : Value → Option (DataW Value × List MemPlace)
  | .slice a n c => some (.held (.slice a n c), [])
  | _ => none

theorem RowIn.shape {base : Nat} {w : World} {v : Value} {b : By} (h : RowIn w base v b) : ∃ a c, v = .slice a b.length c := by
  rcases h.2 with ⟨rfl, h2⟩ | ⟨g, cap, cur, rfl, _⟩
  · exact ⟨none, 0, by rw [h2]⟩
  · exact ⟨_, _, rfl⟩
theorem RowIn.heldR {base : Nat} {w : World} {v : Value} {b : By} (h : RowIn w base v b) : heldR v = some (.held v, []) := by
  obtain ⟨a, c, rfl⟩ := h.shape; rfl
theorem heldR_inv {v : Value} {z : DataW Value × List MemPlace} (h : heldR v = some z) : (∃ a n c, v = .slice a n c) ∧ z = (.held v, []) := by
  cases v <;> simp [heldR] at h
  exact ⟨⟨_, _, _, rfl⟩, h.symm⟩

/-- Block m is a map of the files t. -/
def TabIn (w : World) (base m : Nat) (t : Tb) : Prop :=
  base ≤ m ∧ Rises t ∧ ∃ es, w.ownsMap (H := Value) Tryz.prog 9 heldR m t.length (.map es) ∧ EntsOk (RowIn w base) es t

theorem TabIn.keep {base b' m : Nat} {w w' : World} {t : Tb} (h : TabIn w base m t) (k : K b' w w') (hm : w'.heap[m]? = w.heap[m]?) : TabIn w' base m t := by
  obtain ⟨h1, h2, es, ⟨xs, clock, hb, r⟩, h4⟩ := h
  exact ⟨h1, h2, es, ⟨xs, clock, hm.trans hb, r⟩, h4.mono fun _ _ hv => hv.keep k⟩

theorem TabIn.isMap {base m : Nat} {w : World} {t : Tb} (h : TabIn w base m t) : ∃ xs clock, w.heap[m]? = some (.map xs clock) := by
  obtain ⟨_, _, es, ⟨xs, clock, hb, _⟩, _⟩ := h
  exact ⟨xs, clock, hb⟩
theorem TabIn.lt {base m : Nat} {w : World} {t : Tb} (h : TabIn w base m t) : m < w.heap.size := by
  obtain ⟨xs, clock, hb⟩ := h.isMap
  exact lt_of_block hb

/-- The bound on a map's entries may be the number of its files. -/
theorem tight {w : World} {m n : Nat} {es : List (Lit × DataW Value)} (h : w.ownsMap (H := Value) Tryz.prog 9 heldR m n (.map es)) : w.ownsMap (H := Value) Tryz.prog 9 heldR m es.length (.map es) := by
  obtain ⟨xs, clock, hb, F, hs, hD⟩ := h
  refine ⟨xs, clock, hb, F, ?_, hD⟩
  have h1 : es = (xs.toList.map (WideElems.rg Tryz.prog 9 heldR)).foldr DataW.insert [] := by injection hD
  rw [h1, length_sorted]; simp

/-! ### acts -/
inductive Act where
  | write (p b : By)
  | rename (p q : By)
  | remove (p : By)

def Act.play : Act → Tb → Tb
  | .write p b, t => tput p b t
  | .rename p q, t => match tget p t with | none => t | some b => tput q b (tdel p t)
  | .remove p, t => tdel p t

theorem Act.play_rises {a : Act} {t : Tb} (h : Rises t) : Rises (a.play t) := by
  cases a with
  | write p b => exact h.tput
  | rename p q =>
    show Rises (match tget p t with | none => t | some b => tput q b (tdel p t))
    cases tget p t with
    | none => exact h
    | some b => exact h.tdel.tput
  | remove p => exact h.tdel

/-- A variable's block that holds v. -/
def BoxIn (w : World) (base : Nat) (t : TypeId) (bx : Value) (v : Value) : Prop := ∃ g, bx = .pointer (some ⟨g, 0, none⟩) ∧ base ≤ g ∧ w.heap[g]? = some (.cells #[v] t (0, 0))

theorem BoxIn.keep {base b' : Nat} {w w' : World} {t : TypeId} {bx v : Value} (h : BoxIn w base t bx v) (k : K b' w w') (ht : mutT t = false) : BoxIn w' base t bx v := by
  obtain ⟨g, rfl, hb, hg⟩ := h
  exact ⟨g, rfl, hb, k.const _ _ _ _ hg ht⟩

/-- The function value pv is an act. -/
def ActIn (w : World) (base : Nat) (pv : Value) : Act → Prop
  | .write p b => ∃ x y v, pv = .func (.func 70) #[] #[x, y] ∧ BoxIn w base 31 x v ∧ RowIn w base v b ∧ BoxIn w base 9 y (S p)
  | .rename p q => ∃ x y, pv = .func (.func 71) #[] #[x, y] ∧ BoxIn w base 9 x (S p) ∧ BoxIn w base 9 y (S q)
  | .remove p => ∃ x, pv = .func (.func 72) #[] #[x] ∧ BoxIn w base 9 x (S p)

theorem ActIn.keep {base b' : Nat} {w w' : World} {pv : Value} {a : Act} (h : ActIn w base pv a) (k : K b' w w') : ActIn w' base pv a := by
  cases a with
  | write p b =>
    obtain ⟨x, y, v, e, h1, h2, h3⟩ := h
    exact ⟨x, y, v, e, h1.keep k rfl, h2.keep k, h3.keep k rfl⟩
  | rename p q =>
    obtain ⟨x, y, e, h1, h2⟩ := h
    exact ⟨x, y, e, h1.keep k rfl, h2.keep k rfl⟩
  | remove p =>
    obtain ⟨x, e, h1⟩ := h
    exact ⟨x, e, h1.keep k rfl⟩

/-- The cells of a row of acts: each a directory and a function. -/
def ActsIn (w : World) (base : Nat) : List Value → List (By × Act) → Prop
  | [], [] => True
  | d :: pv :: vs, a :: l => d = S a.1 ∧ ActIn w base pv a.2 ∧ ActsIn w base vs l
  | _, _ => False

theorem ActsIn.keep {base b' : Nat} {w w' : World} (k : K b' w w') : ∀ {vs l}, ActsIn w base vs l → ActsIn w' base vs l
  | [], [], _ => trivial
  | _ :: _ :: _, _ :: _, ⟨h1, h2, h3⟩ => ⟨h1, h2.keep k, ActsIn.keep k h3⟩
  | [], _ :: _, h => h.elim
  | [_], _, h => by cases ‹List (By × Act)› <;> exact h.elim
  | _ :: _ :: _, [], h => h.elim

theorem ActsIn.snoc {base : Nat} {w : World} {d pv : Value} {a : By × Act} (hd : d = S a.1) (hp : ActIn w base pv a.2) : ∀ {vs l}, ActsIn w base vs l → ActsIn w base (vs ++ [d, pv]) (l ++ [a])
  | [], [], _ => ⟨hd, hp, trivial⟩
  | _ :: _ :: _, _ :: _, ⟨h1, h2, h3⟩ => ⟨h1, h2, ActsIn.snoc hd hp h3⟩
  | [], _ :: _, h => h.elim
  | [_], _, h => by cases ‹List (By × Act)› <;> exact h.elim
  | _ :: _ :: _, [], h => h.elim

theorem ActsIn.length {base : Nat} {w : World} : ∀ {vs l}, ActsIn w base vs l → vs.length = l.length * 2
  | [], [], _ => rfl
  | _ :: _ :: _, _ :: _, ⟨_, _, h3⟩ => by simp [ActsIn.length h3]; omega
  | [], _ :: _, h => h.elim
  | [_], _, h => by cases ‹List (By × Act)› <;> exact h.elim
  | _ :: _ :: _, [], h => h.elim

theorem ActsIn.at {base : Nat} {w : World} : ∀ {vs l} (_ : ActsIn w base vs l) (i : Nat) (a : By × Act), l[i]? = some a → ∃ pv, vs[i * 2]? = some (S a.1) ∧ vs[i * 2 + 1]? = some pv ∧ ActIn w base pv a.2
  | d :: pv :: vs, b :: l, ⟨h1, h2, h3⟩, 0, a, hi => by
    simp at hi; subst hi
    exact ⟨pv, by simp [h1], by simp, h2⟩
  | d :: pv :: vs, b :: l, ⟨_, _, h3⟩, i + 1, a, hi => by
    obtain ⟨pv', r1, r2, r3⟩ := ActsIn.at h3 i a (by simpa using hi)
    refine ⟨pv', ?_, ?_, r3⟩
    · rw [show (i + 1) * 2 = i * 2 + 1 + 1 from by omega]; simpa using r1
    · rw [show (i + 1) * 2 + 1 = i * 2 + 1 + 1 + 1 from by omega]; simpa using r2
  | [], [], _, _, _, hi => by simp at hi
  | [], _ :: _, h, _, _, _ => h.elim
  | [_], l, h, _, _, _ => by cases l <;> exact h.elim
  | _ :: _ :: _, [], h, _, _, _ => h.elim

def LooseIn (w : World) (base : Nat) (v : Value) (l : List (By × Act)) : Prop := ∃ vs, w.ownsRow base 81 2 v l.length vs ∧ ActsIn w base vs l

/-! ### a shelf -/
structure St where
  files : Tb
  synced : Tb
  loose : List (By × Act)
  room : Int
  acts : Int
  fuse : Int
  down : Bool

def shelfCells (f y : Nat) (lv : Value) (st : St) : Array Value :=
  #[.map (some f), .map (some y), lv, .int .i64 st.room, .int .i64 st.acts, .int .i64 st.fuse, .bool st.down]

/-- The shelf at block s. -/
structure Ok (w : World) (base s f y : Nat) (lv : Value) (st : St) : Prop where
  blk : w.heap[s]? = some (.cells (shelfCells f y lv st) 70 (0, 0))
  base_s : base ≤ s
  ne : f ≠ y
  files : TabIn w base f st.files
  synced : TabIn w base y st.synced
  loose : LooseIn w base lv st.loose

theorem Ok.keep {base s f y : Nat} {lv : Value} {st : St} {w w' : World} (h : Ok w base s f y lv st) (hn : Below w.heap.size w w') : Ok w' base s f y lv st := by
  have hlt := lt_of_block h.blk
  have k : K base w w' := K.of_new hn (by have := h.base_s; omega)
  refine ⟨(hn.block s hlt).trans h.blk, h.base_s, h.ne, h.files.keep k (hn.block f h.files.lt), h.synced.keep k (hn.block y h.synced.lt), ?_⟩
  obtain ⟨vs, h1, h2⟩ := h.loose
  refine ⟨vs, ?_, h2.keep k⟩
  exact h1.kept (w' := w') (row := none) ⟨hn.os, hn.tape, hn.output, hn.size, fun k hk _ => hn.block k hk⟩ (by cases hv : lv.ownBlock <;> simp)

theorem Ok.base_le {base s f y : Nat} {lv : Value} {st : St} {w : World} (h : Ok w base s f y lv st) : base ≤ w.heap.size := by
  have := h.base_s; have := lt_of_block h.blk; omega

end Go.Proofs.YtccloieikkdcoaaGreatDoor
