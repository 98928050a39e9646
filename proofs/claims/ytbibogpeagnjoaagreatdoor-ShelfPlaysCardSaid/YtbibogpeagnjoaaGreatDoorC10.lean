/-
  The document's shelf in memory: what its calls keep (KR), its acts, and the shelf itself (ROk).
  Read; the document's Find.
  The plain side of ShelfPlays: what the document's shelf asks of the program's.
  The document's files without one; a file put among them.
  The document's put, its plain side: a row before the first that is not smaller, the rest without its path.
-/
import Derived.Test.YtbibogpeagnjoaaGreatDoorC08
import Derived.Test.YtbibogpeagnjoaaGreatDoorC09
import Derived.Laws.IdiomStrings

namespace Go.Proofs.YtbibogpeagnjoaaGreatDoor
open Go Go.RowKit Go.Maps Go.Sort Go.Shelf Go.Deep

/-- A block of the document's own shelf or acts. -/
def refO : Obj → Bool
  | .cells _ e _ => e == 46 || e == 79
  | _ => false

/-- What every call of the document's keeps: all below base, and all other blocks. -/
structure KR (base : Nat) (w w' : World) : Prop where
  below : Below base w w'
  const : ∀ (k : Nat) (o : Obj), w.heap[k]? = some o → refO o = false → w'.heap[k]? = some o

theorem KR.refl (base : Nat) (w : World) : KR base w w := ⟨Below.refl _ _, fun _ _ h _ => h⟩
theorem KR.trans {base : Nat} {a b c : World} (h : KR base a b) (k : KR base b c) : KR base a c :=
  ⟨h.below.trans k.below, fun i o hi ho => k.const i o (h.const i o hi ho) ho⟩
theorem KR.size {base : Nat} {w w' : World} (h : KR base w w') : w.heap.size ≤ w'.heap.size := h.below.size
theorem KR.of_new {base : Nat} {w w' : World} (h : Below w.heap.size w w') (hb : base ≤ w.heap.size) : KR base w w' :=
  ⟨h.mono hb, fun k o hk _ => by rw [h.block k (lt_of_block hk)]; exact hk⟩
theorem KR.new {base : Nat} {a w w' : World} (k : KR base a w) (h : Below w.heap.size w w') (hb : base ≤ w.heap.size) : KR base a w' := k.trans (KR.of_new h hb)
theorem KR.drew {base : Nat} {a w : World} (k : KR base a w) : KR base a w.drew := ⟨k.below.drew, k.const⟩
theorem KR.set {base r : Nat} {a w : World} (k : KR base a w) {c : Array Value} {fz : Nat × Nat} (hb : w.heap[r]? = some (.cells c 46 fz)) (hp : base ≤ r) (i : Nat) (u : Value) : KR base a (w.setCell ⟨r, i, none⟩ u) :=
  ⟨k.below.setCell (p := ⟨r, i, none⟩) hp u, fun j o hj ho => by
    have h1 := k.const j o hj ho
    rw [Below.heap_setCell _ _ _ _ (fun e1 => by
      have e1 : j = r := e1
      subst e1; rw [hb] at h1; cases h1; simp [refO] at ho)]
    exact h1⟩
theorem KR.grown {base : Nat} {a w w' : World} (k : KR base a w) {row : Option Nat} (hg : w.grownBy w' row) (hb : base ≤ w.heap.size)
    (hr : ∀ r, row = some r → base ≤ r ∧ ∃ c fz, w.heap[r]? = some (Obj.cells c 79 fz)) : KR base a w' :=
  ⟨k.below.grown hg hb (fun r h => (hr r h).1), fun i o hi ho => by
    have h1 := k.const i o hi ho
    rw [hg.block i (lt_of_block h1) (fun e1 => by
      obtain ⟨c, fz, h2⟩ := (hr i e1.symm).2
      rw [h1] at h2; cases h2; simp [refO] at ho)]
    exact h1⟩

theorem RowIn.keepR {base b' : Nat} {w w' : World} {v : Value} {b : By} (h : RowIn w base v b) (k : KR b' w w') : RowIn w' base v b := by
  obtain ⟨h1, h2⟩ := h
  refine ⟨h1, ?_⟩
  rcases h2 with h2 | ⟨g, cap, cur, rfl, hb, hg, r⟩
  · exact .inl h2
  · exact .inr ⟨g, cap, cur, rfl, hb, k.const g _ hg rfl, r⟩
theorem FilesIn.keepR {w w' : World} {B b' : Nat} {v : Value} {t : Tb} (h : FilesIn w B v t) (k : KR b' w w') : FilesIn w' B v t := by
  obtain ⟨vs, h1, h2⟩ := h
  refine ⟨vs, ⟨h1.1, ?_⟩, h2.imp fun _ _ h => h.keepR k⟩
  rcases h1.2 with r | ⟨g, cap, cur, e, hb, hc, r⟩
  · exact .inl r
  · exact .inr ⟨g, cap, cur, e, hb, k.const _ _ hc rfl, r⟩
theorem BoxIn.keepR {base b' : Nat} {w w' : World} {t : TypeId} {bx v : Value} (h : BoxIn w base t bx v) (k : KR b' w w') (ht : refO (.cells #[v] t (0, 0)) = false) : BoxIn w' base t bx v := by
  obtain ⟨g, rfl, hb, hg⟩ := h
  exact ⟨g, rfl, hb, k.const _ _ hg ht⟩
theorem ActIn.keepR {base b' : Nat} {w w' : World} {pv : Value} {a : Act} (h : ActIn w base pv a) (k : KR b' w w') : ActIn w' base pv a := by
  cases a with
  | write p b =>
    obtain ⟨x, y, v, e, h1, h2, h3⟩ := h
    exact ⟨x, y, v, e, h1.keepR k rfl, h2.keepR k, h3.keepR k rfl⟩
  | rename p q =>
    obtain ⟨x, y, e, h1, h2⟩ := h
    exact ⟨x, y, e, h1.keepR k rfl, h2.keepR k rfl⟩
  | remove p =>
    obtain ⟨x, e, h1⟩ := h
    exact ⟨x, e, h1.keepR k rfl⟩
theorem ActsIn.keepR {base b' : Nat} {w w' : World} (k : KR b' w w') : ∀ {vs l}, ActsIn w base vs l → ActsIn w' base vs l
  | [], [], _ => trivial
  | _ :: _ :: _, _ :: _, ⟨h1, h2, h3⟩ => ⟨h1, h2.keepR k, ActsIn.keepR k h3⟩
  | [], _ :: _, h => h.elim
  | [_], _, h => by cases ‹List (By × Act)› <;> exact h.elim
  | _ :: _ :: _, [], h => h.elim
theorem TabIn.keepR {w w' : World} {base b' m : Nat} {t : Tb} (h : TabIn w base m t) (k : KR b' w w') : TabIn w' base m t := by
  obtain ⟨h1, h2, es, ⟨xs, clock, hb, r⟩, h4⟩ := h
  exact ⟨h1, h2, es, ⟨xs, clock, k.const m _ hb rfl, r⟩, h4.mono fun _ _ hv => hv.keepR k⟩
theorem LooseIn.keepR {w w' : World} {base b' : Nat} {v : Value} {l : List (By × Act)} (h : LooseIn w base v l) (k : KR b' w w') : LooseIn w' base v l := by
  obtain ⟨vs, h1, h2⟩ := h
  refine ⟨vs, ⟨h1.1, ?_⟩, h2.keepR k⟩
  rcases h1.2 with r | ⟨g, cap, cur, e, hb, hc, r⟩
  · exact .inl r
  · exact .inr ⟨g, cap, cur, e, hb, k.const _ _ hc rfl, r⟩
/-- The program's shelf is kept by the document's calls. -/
theorem Ok.keepR {base b' s f y : Nat} {lv : Value} {st : St} {w w' : World} (h : Ok w base s f y lv st) (k : KR b' w w') : Ok w' base s f y lv st :=
  ⟨k.const s _ h.blk rfl, h.base_s, h.ne, h.files.keepR k, h.synced.keepR k, h.loose.keepR k⟩

/-! ### the document's acts -/
def Act.what : Act → Int
  | .write _ _ => 0
  | .rename _ _ => 1
  | .remove _ => 2
def Act.path : Act → By
  | .write p _ => p
  | .rename p _ => p
  | .remove p => p
def Act.to : Act → By
  | .rename _ q => q
  | _ => []
def Act.data : Act → By
  | .write _ b => b
  | _ => []
/-- The cells of a row of the document's acts. -/
def RaIn (w : World) (base : Nat) : List Value → List Act → Prop
  | [], [] => True
  | v0 :: v1 :: v2 :: v3 :: vs, a :: l => v0 = .int .i64 a.what ∧ v1 = S a.path ∧ v2 = S a.to ∧ RowIn w base v3 a.data ∧ RaIn w base vs l
  | _, _ => False
theorem RaIn.imp {base : Nat} {w w' : World} (k : ∀ v b, RowIn w base v b → RowIn w' base v b) : ∀ {l vs}, RaIn w base vs l → RaIn w' base vs l
  | [], [], _ => trivial
  | _ :: _, _ :: _ :: _ :: _ :: _, ⟨h0, h1, h2, h3, h4⟩ => ⟨h0, h1, h2, k _ _ h3, RaIn.imp k h4⟩
  | _ :: _, [], h => h.elim
  | _ :: _, [_], h => h.elim
  | _ :: _, [_, _], h => h.elim
  | _ :: _, [_, _, _], h => h.elim
  | [], _ :: vs, h => by rcases vs with _ | ⟨_, _ | ⟨_, _ | ⟨_, _⟩⟩⟩ <;> exact h.elim
theorem RaIn.snoc {base : Nat} {w : World} {a : Act} {v : Value} (hv : RowIn w base v a.data) : ∀ {l vs}, RaIn w base vs l → RaIn w base (vs ++ [.int .i64 a.what, S a.path, S a.to, v]) (l ++ [a])
  | [], [], _ => ⟨rfl, rfl, rfl, hv, trivial⟩
  | _ :: _, _ :: _ :: _ :: _ :: _, ⟨h0, h1, h2, h3, h4⟩ => ⟨h0, h1, h2, h3, RaIn.snoc hv h4⟩
  | _ :: _, [], h => h.elim
  | _ :: _, [_], h => h.elim
  | _ :: _, [_, _], h => h.elim
  | _ :: _, [_, _, _], h => h.elim
  | [], _ :: vs, h => by rcases vs with _ | ⟨_, _ | ⟨_, _ | ⟨_, _⟩⟩⟩ <;> exact h.elim
theorem RaIn.at {base : Nat} {w : World} : ∀ {l vs} (_ : RaIn w base vs l) (i : Nat) (a : Act), l[i]? = some a → vs[i * 4]? = some (.int .i64 a.what) ∧ vs[i * 4 + 1]? = some (S a.path) ∧ vs[i * 4 + 2]? = some (S a.to) ∧ ∃ v, vs[i * 4 + 3]? = some v ∧ RowIn w base v a.data
  | b :: l, v0 :: v1 :: v2 :: v3 :: vs, ⟨h0, h1, h2, h3, h4⟩, 0, a, hi => by
    simp at hi; subst hi
    exact ⟨by simp [h0], by simp [h1], by simp [h2], v3, by simp, h3⟩
  | b :: l, v0 :: v1 :: v2 :: v3 :: vs, ⟨_, _, _, _, h4⟩, i + 1, a, hi => by
    obtain ⟨r0, r1, r2, v, r3, r4⟩ := RaIn.at h4 i a (by simpa using hi)
    refine ⟨?_, ?_, ?_, v, ?_, r4⟩
    · rw [show (i + 1) * 4 = i * 4 + 1 + 1 + 1 + 1 from by omega]; simpa using r0
    · rw [show (i + 1) * 4 + 1 = i * 4 + 1 + 1 + 1 + 1 + 1 from by omega]; simpa using r1
    · rw [show (i + 1) * 4 + 2 = i * 4 + 2 + 1 + 1 + 1 + 1 from by omega]; simpa using r2
    · rw [show (i + 1) * 4 + 3 = i * 4 + 3 + 1 + 1 + 1 + 1 from by omega]; simpa using r3
  | _ :: _, [], h, _, _, _ => h.elim
  | _ :: _, [_], h, _, _, _ => h.elim
  | _ :: _, [_, _], h, _, _, _ => h.elim
  | _ :: _, [_, _, _], h, _, _, _ => h.elim
  | [], _, _, _, _, hi => by simp at hi

def RActs (w : World) (base : Nat) (v : Value) (l : List Act) : Prop := ∃ vs, w.ownsRow base 79 4 v l.length vs ∧ RaIn w base vs l
theorem RActs.nil (w : World) (base : Nat) : RActs w base (.slice none 0 0) [] := ⟨[], World.ownsRow_nil _ _ _ _, trivial⟩
theorem RActs.slice {w : World} {B : Nat} {v : Value} {l : List Act} (h : RActs w B v l) : ∃ a c, v = .slice a l.length c := by
  obtain ⟨vs, hv, _⟩ := h
  rcases hv.2 with ⟨rfl, h0⟩ | ⟨g, cap, cur, rfl, _⟩
  · exact ⟨none, 0, by rw [h0]⟩
  · exact ⟨_, _, rfl⟩
theorem RActs.keep {w w' : World} {base b' : Nat} {v : Value} {l : List Act} (h : RActs w base v l) (k : K b' w w') : RActs w' base v l := by
  obtain ⟨vs, h1, h2⟩ := h
  refine ⟨vs, ⟨h1.1, ?_⟩, h2.imp fun _ _ h => h.keep k⟩
  rcases h1.2 with r | ⟨g, cap, cur, e, hb, hc, r⟩
  · exact .inl r
  · exact .inr ⟨g, cap, cur, e, hb, k.const _ _ _ _ hc rfl, r⟩
theorem RActs.at {w : World} {B : Nat} {v : Value} {l : List Act} (h : RActs w B v l) {i : Nat} {a : Act} (hq : l[i]? = some a) :
    ∃ g c, v = .slice (some ⟨g, 0, none⟩) l.length c ∧ w.cell? ⟨g, i * 4, none⟩ = some (.int .i64 a.what) ∧ w.cell? ⟨g, i * 4 + 1, none⟩ = some (S a.path) ∧ w.cell? ⟨g, i * 4 + 2, none⟩ = some (S a.to) ∧ ∃ dv, w.cell? ⟨g, i * 4 + 3, none⟩ = some dv ∧ RowIn w B dv a.data := by
  obtain ⟨vs, hrow, hfs⟩ := h
  have hrow' := hrow
  rcases hrow.2 with ⟨rfl, h0⟩ | ⟨g, cap, cur, rfl, _⟩
  · rw [List.length_eq_zero_iff.1 h0] at hq; simp at hq
  · obtain ⟨e0, e1, e2, pv, e3, h2⟩ := hfs.at i a hq
    have c0 := World.ownsRow.cells hrow' (g := g) rfl _ _ e0
    have c1 := World.ownsRow.cells hrow' (g := g) rfl _ _ e1
    have c2 := World.ownsRow.cells hrow' (g := g) rfl _ _ e2
    have c3 := World.ownsRow.cells hrow' (g := g) rfl _ _ e3
    rw [add_at, Nat.zero_add] at c0 c1 c2 c3
    exact ⟨g, cap, rfl, c0, c1, c2, pv, c3, h2⟩
theorem racts_block {w : World} {base n : Nat} {lv : Value} {vs : List Value} (h : w.ownsRow base 79 4 lv n vs) {r : Nat} (hr : lv.ownBlock = some r) : base ≤ r ∧ ∃ cur, w.heap[r]? = some (.cells cur 79 (0, 0)) := by
  rcases h.2 with ⟨hn, _⟩ | ⟨gg, _, cur, hv, hb, hgg, _⟩
  · rw [hn] at hr; cases hr
  · rw [hv] at hr; cases hr; exact ⟨hb, cur, hgg⟩

/-! ### the document's shelf -/
def rCells (vl vo va : Value) (st : St) : Array Value :=
  #[vl, vo, va, .int .i64 st.room, .int .i64 st.acts, .bool (decide (0 ≤ st.fuse)), .int .i64 (max st.fuse 0), .bool st.down]

structure ROk (w : World) (base r : Nat) (vl vo va : Value) (st : St) : Prop where
  blk : w.heap[r]? = some (.cells (rCells vl vo va st) 46 (0, 0))
  base_r : base ≤ r
  files : FilesIn w base vl st.files
  old : FilesIn w base vo st.synced
  acts : RActs w base va (st.loose.map (·.2))

section
variable {w w' : World} {base r b' : Nat} {vl vo va : Value} {st : St}
theorem ROk.cell (h : ROk w base r vl vo va st) (i : Nat) : w.cell? ⟨r, i, none⟩ = (rCells vl vo va st)[i]? := by simp [World.cell?, h.blk]
theorem ROk.free (h : ROk w base r vl vo va st) (i : Nat) : w.frozen? ⟨r, i, none⟩ = false := by simp [World.frozen?, h.blk]
theorem ROk.c0 (h : ROk w base r vl vo va st) : w.cell? ⟨r, 0, none⟩ = some vl := h.cell 0
theorem ROk.c1 (h : ROk w base r vl vo va st) : w.cell? ⟨r, 1, none⟩ = some vo := h.cell 1
theorem ROk.c2 (h : ROk w base r vl vo va st) : w.cell? ⟨r, 2, none⟩ = some va := h.cell 2
theorem ROk.c3 (h : ROk w base r vl vo va st) : w.cell? ⟨r, 3, none⟩ = some (.int .i64 st.room) := h.cell 3
theorem ROk.c4 (h : ROk w base r vl vo va st) : w.cell? ⟨r, 4, none⟩ = some (.int .i64 st.acts) := h.cell 4
theorem ROk.c5 (h : ROk w base r vl vo va st) : w.cell? ⟨r, 5, none⟩ = some (.bool (decide (0 ≤ st.fuse))) := h.cell 5
theorem ROk.c6 (h : ROk w base r vl vo va st) : w.cell? ⟨r, 6, none⟩ = some (.int .i64 (max st.fuse 0)) := h.cell 6
theorem ROk.c7 (h : ROk w base r vl vo va st) : w.cell? ⟨r, 7, none⟩ = some (.bool st.down) := h.cell 7
theorem ROk.base_le (h : ROk w base r vl vo va st) : base ≤ w.heap.size := by
  have := h.base_r; have := lt_of_block h.blk; omega
/-- It is kept by the program's calls. -/
theorem ROk.keep (h : ROk w base r vl vo va st) (k : K b' w w') : ROk w' base r vl vo va st :=
  ⟨k.const r _ _ _ h.blk rfl, h.base_r, h.files.keep k, h.old.keep k, h.acts.keep k⟩
theorem ROk.new (h : ROk w base r vl vo va st) (hB : Below w.heap.size w w') : ROk w' base r vl vo va st := h.keep (K.of_new (base := 0) hB (Nat.zero_le _))
/-- A cell of it is written. -/
theorem ROk.set (h : ROk w base r vl vo va st) (i : Nat) (u : Value) {vl' vo' va' : Value} {st' : St} (hc : (rCells vl vo va st).setIfInBounds i u = rCells vl' vo' va' st')
    (h1 : FilesIn w base vl' st'.files) (h2 : FilesIn w base vo' st'.synced) (h3 : RActs w base va' (st'.loose.map (·.2))) : ROk (w.setCell ⟨r, i, none⟩ u) base r vl' vo' va' st' ∧ KR base w (w.setCell ⟨r, i, none⟩ u) := by
  have k := (KR.refl base w).set h.blk h.base_r i u
  refine ⟨⟨by rw [set_block h.blk, hc], h.base_r, h1.keepR k, h2.keepR k, ?_⟩, k⟩
  obtain ⟨vs, hv, hr⟩ := h3
  refine ⟨vs, ⟨hv.1, ?_⟩, hr.imp fun _ _ h => h.keepR k⟩
  rcases hv.2 with x | ⟨g, cap, cur, e, hb, hg, x⟩
  · exact .inl x
  · refine .inr ⟨g, cap, cur, e, hb, ?_, x⟩
    rw [Below.heap_setCell _ _ _ _ (fun e1 => by
      have e1 : g = r := e1
      subst e1; rw [h.blk] at hg; cases hg)]
    exact hg
end
theorem pairDown {st : St} (h : st.down = true) : { st with down := true } = st := by cases st; simp at h; rw [h]
end Go.Proofs.YtbibogpeagnjoaaGreatDoor


namespace Go.Proofs.YtbibogpeagnjoaaGreatDoor
open Go Go.RowKit Go.Maps Go.Shelf Go.Deep

/-- 'm[p]'. -/
theorem TabIn.get {w : World} {base m : Nat} {t : Tb} (h : TabIn w base m t) {p b : By} (hp : p.length ≤ maxLen) (hb : tget p t = some b) :
    ∃ a c, RowIn w base (.slice a b.length c) b ∧ (Instr.lookup 54 (.map (some m)) (.string ⟨p.toArray⟩) false).run Tryz.prog w = .ok (.slice a b.length c) w := by
  obtain ⟨_, hr, es, hown, he⟩ := h
  obtain ⟨v, ps, hrun, hv⟩ := hown.lookup law9 Tryz.underlying54 (zeroBytes w) (zd := .held (.slice none 0 0)) (zp := []) rfl (keyOf_S hp)
  rcases tab_at he p (.held (.slice none 0 0)) with ⟨h1, _, _⟩ | ⟨b', v', h1, h2, h3, h4⟩
  · rw [hb] at h1; cases h1
  · rw [hb] at h1
    cases h1
    rw [h3] at hv
    obtain ⟨⟨a, n, c, rfl⟩, e⟩ := heldR_inv hv
    cases e
    obtain ⟨a', c', e⟩ := h4.shape
    cases e
    exact ⟨_, _, h4, hrun⟩

def readErr (p : By) (st : St) : Int := if st.down = true then 13 else thereErr p st.files
def ReadPost (p : By) (st : St) (w : World) (e : Ending) (w' : World) : Prop :=
  Below w.heap.size w w' ∧ ((∃ b a c, tget p st.files = some b ∧ readErr p st = 0 ∧ e = .returned (.tuple #[.slice a b.length c, .int .i64 0]) ∧ RowIn w' w.heap.size (.slice a b.length c) b) ∨
    (readErr p st ≠ 0 ∧ e = .returned (.tuple #[.slice none 0 0, .int .i64 (readErr p st)])))

set_option maxHeartbeats 2000000 in
set_option maxRecDepth 100000 in
theorem Read_any {w : World} {base s f y k0 : Nat} {lv : Value} {st : St} (h : Ok w base s f y lv st) (hbd : Bd st k0) (het : Et w) (hg : 0 < base) {p : By} (hp : p.length ≤ maxLen) :
    Calls Tryz.prog 17 #[.pointer (some ⟨s, 0, none⟩), S p] w (ReadPost p st w) := by
  have c6 := h.c6
  cases hd : st.down with
  | true =>
    have he : readErr p st = 13 := by unfold readErr; rw [hd]; rfl
    rw [hd] at c6
    have He := Lib.hid he
    clear hd he h
    unfold S
    go_enter Tryz.func17, Tryz.ntmps17
    go_wp2
    go_ret2
    exact ⟨Below.refl _ _, .inr ⟨by rw [He.out]; decide, by rw [He.out]; rfl⟩⟩
  | false =>
    have he : readErr p st = thereErr p st.files := by unfold readErr; rw [hd]; rfl
    rw [hd] at c6
    have He := Lib.hid he
    have Ht := Lib.hid (there_any h p hp)
    have Hk := Lib.hid h
    have Het := Lib.hid het
    have hbs := h.base_le
    clear hd he h het
    unfold S at Ht
    unfold S
    go_enter Tryz.func17, Tryz.ntmps17
    go_wp2_with fail
    refine Ht.out.mono ?_
    rintro e w1 ⟨hB, ⟨h0, rfl⟩ | ⟨h0, ev, rfl, hf⟩⟩
    · obtain ⟨b, hb⟩ : ∃ b, tget p st.files = some b := by
        unfold thereErr at h0
        split at h0
        · cases h0
        · split at h0
          · cases h0
          · rename_i h; exact Option.ne_none_iff_exists'.1 h
      have hk1 := Hk.out.keep hB
      obtain ⟨a, c, hrow, hlook⟩ := hk1.files.get hp hb
      have c0 := hk1.c0
      have hbl : b.length ≤ 262144 := hbd.small (p, b) (tget_mem' hb)
      have Hcl := Lib.hid (clone_any hrow.bytes (by omega))
      have HB := Lib.hid hB; have Hb := Lib.hid hb; have H0 := Lib.hid h0
      clear hB hb h0 hk1 hrow c6
      go_wp2_with fail
      refine Hcl.out.mono ?_
      rintro e w2 ⟨v2, rfl, hr2, hB2⟩
      obtain ⟨a2, c2, rfl⟩ := hr2.shape
      have Hr2 := Lib.hid hr2; have HB2 := Lib.hid hB2
      clear hr2 hB2 hlook c0
      go_wp2
      go_ret2
      exact ⟨below_two HB.out HB2.out, .inl ⟨b, a2, c2, Hb.out, by rw [He.out]; exact H0.out, rfl, Hr2.out.mono HB.out.size⟩⟩
    · have Hto := Lib.hid (told_fault ev _ w1 hf (Het.out.keep (K.of_new hB hbs) hg))
      obtain ⟨a, x, rfl, _⟩ := hf
      have HB := Lib.hid hB; have H0 := Lib.hid h0
      clear hB h0 c6
      go_wp2_with fail
      refine Hto.out.mono ?_
      rintro e w2 ⟨rfl, hB2⟩
      have HB2 := Lib.hid hB2
      clear hB2
      go_wp2
      go_ret2
      exact ⟨below_two HB.out HB2.out, .inr ⟨by rw [He.out]; exact H0.out, by rw [He.out]; rfl⟩⟩

/-- A file's place; -1: it is not there. -/
def findI (t : Tb) (p : By) : Int := match t.findIdx? (fun q => q.1 == p) with | some i => (i : Int) | none => -1
theorem findI_at {t : Tb} {p : By} {k : Nat} {q : By × By} (h0 : ∀ i x, i < k → t[i]? = some x → (x.1 == p) = false) (hk : t[k]? = some q) (hq : (q.1 == p) = true) : findI t p = (k : Int) := by
  unfold findI
  have hlt : k < t.length := (List.getElem?_eq_some_iff.1 hk).1
  have : t.findIdx? (fun q => q.1 == p) = some k := by
    rw [List.findIdx?_eq_some_iff_getElem]
    have e : t[k] = q := (List.getElem?_eq_some_iff.1 hk).2
    exact ⟨hlt, by rw [e]; exact hq, fun j hj => by rw [h0 j _ hj (List.getElem?_eq_getElem (by omega))]; decide⟩
  rw [this]
theorem findI_none {t : Tb} {p : By} (h0 : ∀ i x, i < t.length → t[i]? = some x → (x.1 == p) = false) : findI t p = -1 := by
  unfold findI
  have : t.findIdx? (fun q => q.1 == p) = none := by
    rw [List.findIdx?_eq_none_iff]
    intro x hx
    obtain ⟨i, hi, e⟩ := List.getElem_of_mem hx
    exact h0 i x hi (by rw [List.getElem?_eq_getElem hi, e])
  rw [this]
/-- A path that is there has its place. -/
theorem findI_get {t : Tb} {p b : By} (h : tget p t = some b) : ∃ k : Nat, findI t p = (k : Int) ∧ t[k]? = some (p, b) := by
  unfold tget at h
  obtain ⟨q, h1, h2⟩ := Option.map_eq_some_iff.1 h
  unfold findI
  rw [List.find?_eq_some_iff_getElem] at h1
  obtain ⟨hq, i, hi, e, hj⟩ := h1
  have hf : t.findIdx? (fun q => q.1 == p) = some i := by
    rw [List.findIdx?_eq_some_iff_getElem]
    exact ⟨hi, by rw [e]; exact hq, fun j hj' => by simpa using hj j hj'⟩
  rw [hf]
  refine ⟨i, rfl, ?_⟩
  rw [List.getElem?_eq_getElem hi, e]
  have : q.1 = p := by simpa using hq
  rw [← this, ← h2]

set_option maxHeartbeats 2000000 in
set_option maxRecDepth 100000 in
theorem Find_any {w : World} {v : Value} {t : Tb} (h : FilesV w v t) (hl : t.length ≤ 1000000) (p : By) : Calls Tryz.prog 36 #[v, S p] w fun e w' => e = .returned (.int .i64 (findI t p)) ∧ w = w' := by
  obtain ⟨x, c, rfl, hx⟩ := h
  have Hx := Lib.hid hx
  clear hx
  unfold S
  go_enter Tryz.func36, Tryz.ntmps36
  go_wp2_with fail
  go_loop [5] (fun i => ∃ k : Nat, k ≤ t.length ∧ i = .int .i64 k ∧ Hid (∀ i x, i < k → t[i]? = some x → (x.1 == p) = false)) (fun i => t.length - (intOf i).toNat)
  case atStart => exact ⟨0, Nat.zero_le _, rfl, Lib.hid fun i x h => absurd h (Nat.not_lt_zero _)⟩
  case round =>
    obtain ⟨k, hk, rfl, hno⟩ := hrel
    by_cases hlt : k < t.length
    · obtain ⟨q, hq⟩ : ∃ q, t[k]? = some q := ⟨_, List.getElem?_eq_getElem hlt⟩
      obtain ⟨b, off, rfl, bvv, h0, _, _⟩ := Hx.out k q hq
      unfold S at h0
      have Hq := Lib.hid hq
      clear hq
      cases he : (q.1 == p) with
      | true =>
        have F := Lib.hid (findI_at hno.out Hq.out he)
        clear hno
        go_wp2
        go_ret
        exact ⟨by rw [F.out]; rfl, rfl⟩
      | false =>
        have hno2 : Hid (∀ i x, i < k + 1 → t[i]? = some x → (x.1 == p) = false) := Lib.hid fun i x hi hix => by
          rcases Nat.lt_or_ge i k with h | h
          · exact hno.out i x h hix
          · obtain rfl : i = k := by omega
            rw [Hq.out] at hix
            cases hix
            exact he
        clear hno
        go_wp2
        go_round
        case rel => exact ⟨k + 1, by omega, by go_num, hno2⟩
        case measure => simp [intOf]; omega
    · have F := Lib.hid (findI_none (t := t) (p := p) fun i x hi hix => hno.out i x (by omega) hix)
      clear hno
      go_wp2
      go_ret
      exact ⟨by rw [F.out]; rfl, rfl⟩
end Go.Proofs.YtbibogpeagnjoaaGreatDoor


namespace Go.Proofs.YtbibogpeagnjoaaGreatDoor
open Go Go.RowKit Go.Maps Go.Sort Go.Shelf Go.Deep

theorem findI_gone {t : Tb} {p : By} (h : tget p t = none) : findI t p = -1 := by
  refine findI_none fun i x _ hx => ?_
  cases hc : (x.1 == p) with
  | false => rfl
  | true =>
    have hm := List.mem_of_getElem? hx
    unfold tget at h
    cases hf : t.find? (fun q => q.1 == p) with
    | none => have := List.find?_eq_none.1 hf x hm; simp [hc] at this
    | some y => rw [hf] at h; cases h
theorem rename_same {p : By} {t : Tb} (hr : Rises t) : (Act.rename p p).play t = t := by
  refine rises_ext (Act.play_rises hr) hr fun r => ?_
  rw [get_rename]
  cases h : tget p t with
  | none => rfl
  | some b =>
    show (if r = p then some b else if r = p then none else tget r t) = tget r t
    by_cases e : r = p
    · rw [if_pos e, e, h]
    · rw [if_neg e, if_neg e]
theorem play_rename {p q b : By} {t : Tb} (h : tget p t = some b) : (Act.rename p q).play t = tput q b (tdel p t) := by
  show (match tget p t with | none => t | some b => tput q b (tdel p t)) = _
  rw [h]
theorem play_gone {p q : By} {t : Tb} (h : tget p t = none) : (Act.rename p q).play t = t := by
  show (match tget p t with | none => t | some b => tput q b (tdel p t)) = _
  rw [h]

/-- What holds of both shelves. -/
structure PlI (st : St) : Prop where
  rises : Rises st.files
  risesS : Rises st.synced
  acts : ∀ x ∈ st.loose, x.1 = dirOf x.2.path ∧ pathB x.2.path = true
  low : -1 ≤ st.fuse
  high : st.fuse ≤ 9223372036854775807
theorem PlI.start {r : Int} {t : Tb} (h : Rises t) : PlI (newSt r t) := ⟨h, h, fun x hx => by simp [newSt] at hx, by show (-1 : Int) ≤ -1; omega, by show (-1 : Int) ≤ _; omega⟩
theorem burnt_eq {n : Int} (h1 : 1 ≤ n) (h2 : n ≤ 9223372036854775807) : burnt n = n - 1 := by
  unfold burnt; rw [if_neg (by omega)]
  exact IntWalk.wrap64_in (n - 1) (by omega)
theorem burnt_none : burnt (-1) = -1 := by unfold burnt; rw [if_pos rfl]
theorem on_fuse {st : St} (h : PlI st) (ho : on st = true) : st.fuse = -1 ∨ 1 ≤ st.fuse := by
  have := h.low
  unfold on at ho
  simp at ho
  omega
theorem PlI.bump {st st1 : St} (h : PlI st) (ho : on st = true) (hf : st1.fuse = st.fuse) (h1 : PlI st1) : PlI (bump st1) := by
  have hh := h.high
  refine ⟨h1.rises, h1.risesS, h1.acts, ?_, ?_⟩
  · show -1 ≤ burnt st1.fuse
    rw [hf]
    rcases on_fuse h ho with e | e
    · rw [e, burnt_none]; omega
    · rw [burnt_eq e hh]; omega
  · show burnt st1.fuse ≤ _
    rw [hf]
    rcases on_fuse h ho with e | e
    · rw [e, burnt_none]; omega
    · rw [burnt_eq e hh]; omega
theorem PlI.dos {st st1 : St} {er : Int} (h : PlI st) (h1 : er = 0 → PlI st1 ∧ st1.fuse = st.fuse) : PlI (doSt st er st1) := by
  unfold doSt
  split
  · split
    · rename_i ho he; exact h.bump ho (h1 he).2 (h1 he).1
    · exact h
  · exact ⟨h.rises, h.risesS, h.acts, h.low, h.high⟩
theorem PlI.acted {st : St} (h : PlI st) {a : Act} (hp : pathB a.path = true) : PlI { st with files := a.play st.files, loose := st.loose ++ [(dirOf a.path, a)] } :=
  ⟨Act.play_rises h.rises, h.risesS, fun x hx => by
    rcases List.mem_append.1 hx with hx | hx
    · exact h.acts x hx
    · simp at hx; subst hx; exact ⟨rfl, hp⟩, h.low, h.high⟩
theorem PlI.synced {st : St} (h : PlI st) (d : By) : PlI (syncedSt d st) :=
  ⟨h.rises, syncT_rises d _ h.risesS, fun x hx => h.acts x (List.mem_filter.1 hx).1, h.low, h.high⟩
theorem PlI.fused {st : St} (h : PlI st) {n : Int} (hn : n ≤ 9223372036854775807) : PlI { st with fuse := max n (-1) } :=
  ⟨h.rises, h.risesS, h.acts, by show -1 ≤ max n (-1); omega, by show max n (-1) ≤ _; omega⟩
theorem crashK_rises {l : List (By × Act)} {ks : List Bool} {t : Tb} (h : Rises t) : ∀ k, Rises (crashK l ks t k)
  | 0 => h
  | k + 1 => by
    rw [crashK]
    split
    · split
      · exact Act.play_rises (crashK_rises h k)
      · exact crashK_rises h k
    · exact crashK_rises h k
theorem PlI.crash {st : St} (h : PlI st) (ks : List Bool) : PlI (crashSt ks st) :=
  ⟨crashK_rises h.risesS _, crashK_rises h.risesS _, fun x hx => by simp [crashSt] at hx, by show (-1 : Int) ≤ -1; omega, by show (-1 : Int) ≤ _; omega⟩
end Go.Proofs.YtbibogpeagnjoaaGreatDoor


namespace Go.Proofs.YtbibogpeagnjoaaGreatDoor
open Go Go.RowKit Go.Maps Go.Sort Go.Shelf Go.Deep

theorem del_snoc {p : By} {t : Tb} {k : Nat} {q : By × By} (h : t[k]? = some q) : tdel p (t.take (k + 1)) = if (q.1 == p) = true then tdel p (t.take k) else tdel p (t.take k) ++ [q] := by
  unfold tdel
  rw [take_snoc h, List.filter_append]
  cases hc : (q.1 == p)
  · rw [if_neg (by simp)]; simp [hc]
  · rw [if_pos rfl]; simp [hc]

set_option maxHeartbeats 8000000 in
set_option maxRecDepth 100000 in
theorem Without_any {w : World} {B : Nat} {v : Value} {t : Tb} (h : FilesIn w B v t) (hBw : B ≤ w.heap.size) (hl : t.length ≤ 1000000) (dir : By) :
    Calls Tryz.prog 70 #[v, S dir] w fun e w' => ∃ v', e = .returned v' ∧ FilesIn w' B v' (tdel dir t) ∧ Below w.heap.size w w' := by
  obtain ⟨aa, ac, rfl⟩ := h.slice
  have Hf := Lib.hid h
  clear h
  unfold S
  go_enter Tryz.func70, Tryz.ntmps70
  go_wp2_with fail
  go_loopw [5, 6] (fun ov iv wr => ∃ (k : Nat), k ≤ t.length ∧ iv = .int .i64 k ∧ Hid (OwnRel w B (tdel dir (t.take k)) ov wr)) (fun _ iv _ => t.length - (intOf iv).toNat)
  case atStart => exact ⟨0, Nat.zero_le _, rfl, Lib.hid ⟨Below.refl _ _, [], World.ownsRow_nil _ _ _ _, trivial⟩⟩
  case round =>
    obtain ⟨k, hk, rfl, hrel⟩ := hrel
    by_cases hlt : k < t.length
    · obtain ⟨⟨qp, qb⟩, hq⟩ : ∃ q, t[k]? = some q := ⟨_, List.getElem?_eq_getElem hlt⟩
      have hB := hrel.out.1
      obtain ⟨g, c, hv, dv, c0, c1, hrw⟩ := (Hf.out.keep (K.of_new (base := 0) hB (Nat.zero_le _))).at hq
      cases hv
      obtain ⟨da, dc, rfl⟩ := hrw.shape
      unfold S at c0
      have hsn := del_snoc (p := dir) hq
      have Hsn := Lib.hid hsn
      have HRw := Lib.hid hrw
      obtain ⟨al, nl, cl, rfl⟩ : ∃ al nl cl, u5 = .slice al nl cl := by
        obtain ⟨_, vs, hvs, _⟩ := hrel.out
        rcases hvs.2 with ⟨r, _⟩ | ⟨gg, cap, cur, r, _⟩
        · exact ⟨_, _, _, r⟩
        · exact ⟨_, _, _, r⟩
      have H3 := Lib.hid hrel.out
      clear hsn hB hrw hq
      by_cases he : qp = dir
      · have HS2 : Hid (tdel dir (t.take (k + 1)) = tdel dir (t.take k)) := Lib.hid (by rw [Hsn.out, if_pos (by rw [he]; simp)])
        subst he
        clear Hsn
        go_wp2_with fail
        go_roundw
        case rel => exact ⟨k + 1, hlt, by go_num, Lib.hid (by rw [HS2.out]; exact H3.out)⟩
        case measure => simp [intOf]; omega
      · have b3 : (qp == dir) = false := by simpa using he
        have b4 : (qp != dir) = true := by simpa using he
        obtain ⟨hB3, vs, hvs, hfs⟩ := H3.out
        have HS2 : Hid (tdel dir (t.take (k + 1)) = tdel dir (t.take k) ++ [(qp, qb)]) := Lib.hid (by rw [Hsn.out, if_neg (by rw [b3]; simp)])
        have hol : (tdel dir (t.take k)).length ≤ k := by
          have h1 : (tdel dir (t.take k)).length ≤ (t.take k).length := by unfold tdel; exact List.length_filter_le _ _
          rw [List.length_take] at h1; omega
        clear he
        have Hvs := Lib.hid hvs; have Hfs := Lib.hid hfs; have HB3 := Lib.hid hB3
        obtain ⟨i0, hi0, hz0, hz1, hz2⟩ := info_parts infoFile
        have hnw := heap_alloc_new wr (.cells #[.string ⟨qp.toArray⟩, .slice da qb.length dc] 52)
        have Hnw := Lib.hid hnw
        have hszw := hB3.size
        clear hnw hfs hB3 Hsn
        go_wp2_with (at_builtin; refine wpList_append_own _ rfl _ _ 22 rfl w.heap.size 52 i0 _ 2 40 Tryz.underlying22 hi0 hz0 hz1 hz2 rfl (by decide) _ _ _ rfl (hvs.alloc _) ⟨wr.heap.size, 0, none⟩ 1 1 [.string ⟨qp.toArray⟩, .slice da qb.length dc] rfl rfl ?n1 ?n2 ?n3 ?n4 ?n5 ?_)
        case n2 => exact ⟨rfl, rfl⟩
        case n3 => unfold maxLen; omega
        case n4 => omega
        case n5 => first | omega | (simp; omega)
        intro v' w4 hown' hgrow _
        have HR := Lib.hid (own_round (q := (qp, qb)) HB3.out Hvs.out Hfs.out HRw.out hgrow hown')
        clear hown' hgrow hvs
        go_wp2_with fail
        go_roundw
        case rel => exact ⟨k + 1, hlt, by go_num, Lib.hid (by rw [HS2.out]; exact HR.out)⟩
        case measure => simp [intOf]; omega
    · obtain rfl : k = t.length := by omega
      obtain ⟨hB, vs, hvs, hfs⟩ := hrel.out
      rw [List.take_length] at hvs hfs
      have HF : Hid (FilesIn wr B u5 (tdel dir t)) := Lib.hid ⟨vs, row_mono hvs hBw, hfs⟩
      have HB := Lib.hid hB
      clear hvs hfs hB
      go_wp2_with fail
      go_ret
      exact ⟨_, rfl, HF.out, HB.out⟩
end Go.Proofs.YtbibogpeagnjoaaGreatDoor


namespace Go.Proofs.YtbibogpeagnjoaaGreatDoor
open Go Go.RowKit Go.Maps Go.Sort Go.Shelf Go.Deep

/-- One round: what was put out, and whether the file is among it. -/
def putS (p b : By) (o : Tb × Bool) (q : By × By) : Tb × Bool :=
  let o1 := if (!o.2 && !bytesBefore q.1 p) = true then (o.1 ++ [(p, b)], true) else o
  (if (q.1 == p) = true then o1.1 else o1.1 ++ [q], o1.2)
def putF (p b : By) (t : Tb) : Tb × Bool := t.foldl (putS p b) ([], false)
theorem putF_snoc {p b : By} {t : Tb} {k : Nat} {q : By × By} (h : t[k]? = some q) : putF p b (t.take (k + 1)) = putS p b (putF p b (t.take k)) q := by
  unfold putF; rw [take_snoc h, List.foldl_append]; rfl
theorem put_true {p b : By} : ∀ (t o : Tb), t.foldl (putS p b) (o, true) = (o ++ tdel p t, true)
  | [], o => by simp [tdel]
  | q :: r, o => by
    cases hc : (q.1 == p)
    · have e : putS p b (o, true) q = (o ++ [q], true) := by unfold putS; simp [hc]
      rw [List.foldl_cons, e, put_true r]; unfold tdel; rw [List.filter_cons_of_pos (by simp [hc])]; simp
    · have e : putS p b (o, true) q = (o, true) := by unfold putS; simp [hc]
      rw [List.foldl_cons, e, put_true r]; unfold tdel; rw [List.filter_cons_of_neg (by simp [hc])]
theorem tins_front {x : By × By} {t : Tb} (h : ∀ y ∈ t, bytesBefore x.1 y.1 = true) : tins x t = x :: t := by
  cases t with
  | nil => rfl
  | cons y r => unfold tins; rw [if_pos (h y (by simp))]
theorem put_false {p b : By} : ∀ (t o : Tb), Rises t → (if (t.foldl (putS p b) (o, false)).2 = true then (t.foldl (putS p b) (o, false)).1 else (t.foldl (putS p b) (o, false)).1 ++ [(p, b)]) = o ++ tput p b t
  | [], o, _ => by simp [tput, tdel, tins]
  | q :: r, o, hr => by
    have h' := List.pairwise_cons.1 hr
    cases hb : bytesBefore q.1 p with
    | true =>
      have hc : (q.1 == p) = false := by
        cases hc : (q.1 == p) with
        | false => rfl
        | true => rw [eq_of_beq hc, before_irrefl] at hb; cases hb
      have e : putS p b (o, false) q = (o ++ [q], false) := by unfold putS; simp [hb, hc]
      have hpq : bytesBefore p q.1 = false := by
        cases h : bytesBefore p q.1 with
        | false => rfl
        | true => have := before_trans h hb; rw [before_irrefl] at this; cases this
      rw [List.foldl_cons, e, put_false r _ h'.2]
      unfold tput tdel
      rw [List.filter_cons_of_pos (by simp [hc]), tins, if_neg (by rw [hpq]; simp)]
      simp
    | false =>
      have e : putS p b (o, false) q = (if (q.1 == p) = true then o ++ [(p, b)] else o ++ [(p, b)] ++ [q], true) := by unfold putS; simp [hb]
      rw [List.foldl_cons, e, put_true r]
      have hf : ∀ y ∈ tdel p (q :: r), bytesBefore p y.1 = true := fun y hy => by
        obtain ⟨h1, h2⟩ := mem_tdel.1 hy
        rcases List.mem_cons.1 h1 with rfl | h1
        · exact before_total hb h2
        · by_cases hq : q.1 = p
          · rw [← hq]; exact h'.1 y h1
          · exact before_trans (before_total hb hq) (h'.1 y h1)
      rw [tput, tins_front hf]
      unfold tdel
      cases hc : (q.1 == p)
      · rw [List.filter_cons_of_pos (by simp [hc])]; simp
      · rw [List.filter_cons_of_neg (by simp [hc])]; simp
theorem putF_end {p b : By} {t : Tb} (h : Rises t) : (if (putF p b t).2 = true then (putF p b t).1 else (putF p b t).1 ++ [(p, b)]) = tput p b t := by
  have := put_false (p := p) (b := b) t [] h
  unfold putF; rw [this]; rfl
end Go.Proofs.YtbibogpeagnjoaaGreatDoor
