/-
  The graph as it lies in memory.
-/
import Derived.Test.YtbgnemephcbgeaaOrd
namespace Go.Proofs.Ytbgnemephcbgeaa
open Go Go.RowKit

/-! ### A row of structs: a cell that is set, one more behind -/
section
variable {α : Type} {t : TypeId} {k : Nat} {f : α → List Value}
theorem OwK.blk {w : World} {B g n c : Nat} {l : List α} (h : OwK t k f w B (.slice (some ⟨g, 0, none⟩) n c) l) : ∃ cur, n = l.length ∧ B ≤ g ∧ w.heap[g]? = some (.cells cur t (0, 0)) ∧ l.length ≤ c ∧ c ≤ maxLen ∧ cur.size = c * k ∧ cur.toList.take (l.length * k) = l.flatMap f := by
  obtain ⟨h1, h2⟩ := h
  rcases h2 with ⟨h2, _⟩ | ⟨g', c', cur, e, r⟩
  · cases h2
  · cases e; exact ⟨cur, rfl, r⟩
theorem OwK.cell (hf : ∀ x, (f x).length = k) {w : World} {B g n c : Nat} {l : List α} (h : OwK t k f w B (.slice (some ⟨g, 0, none⟩) n c) l) {j : Nat} {x : α} (hx : l[j]? = some x) {i : Nat} (hi : i < k) : w.cell? ⟨g, j * k + i, none⟩ = (f x)[i]? := by
  rcases h.rd hf with ⟨_, rfl⟩ | ⟨g', o, c', e, _, _, hcell⟩
  · simp at hx
  · cases e
    have := hcell j (List.getElem?_eq_some_iff.1 hx).1 x hx i hi
    rwa [Nat.zero_add] at this
theorem flat_set (hf : ∀ x, (f x).length = k) : ∀ (l : List α) (j : Nat) (x y : α) (i : Nat) (u : Value), l[j]? = some x → i < k → f y = (f x).set i u → (l.set j y).flatMap f = (l.flatMap f).set (j * k + i) u
  | [], j, x, y, i, u, h, _, _ => by simp at h
  | z :: l, 0, x, y, i, u, h, hi, he => by
    simp at h; subst h
    rw [List.set_cons_zero, List.flatMap_cons, List.flatMap_cons, he, Nat.zero_mul, Nat.zero_add, List.set_append_left _ _ (by rw [hf]; exact hi)]
  | z :: l, j + 1, x, y, i, u, h, hi, he => by
    rw [List.set_cons_succ, List.flatMap_cons, List.flatMap_cons, List.set_append_right _ _ (by rw [hf, Nat.add_mul]; omega), hf, show (j + 1) * k + i - k = j * k + i by rw [Nat.add_mul]; omega]
    rw [flat_set hf l j x y i u (by simpa using h) hi he]
theorem blk_setCell {W : World} {b i : Nat} {cs : Array Value} {t : TypeId} {fr : Nat × Nat} (h : W.heap[b]? = some (.cells cs t fr)) (v : Value) : (W.setCell ⟨b, i, none⟩ v).heap[b]? = some (.cells (cs.setIfInBounds i v) t fr) := by
  obtain ⟨hlt, hk⟩ := Array.getElem?_eq_some_iff.1 h
  show (W.heap.modify b _)[b]? = _
  rw [Array.getElem?_eq_getElem (by rw [Array.size_modify]; exact hlt), Array.getElem_modify_self, hk]
  rfl
theorem setCell_other (W : World) (b i : Nat) (v : Value) (k : Nat) (h : k ≠ b) : (W.setCell ⟨b, i, none⟩ v).heap[k]? = W.heap[k]? := Below.heap_setCell _ _ _ _ h
theorem size_setCell (W : World) (a : Addr) (v : Value) : (W.setCell a v).heap.size = W.heap.size := by simp [World.setCell]
theorem OwK.other {w w' : World} {B g n c : Nat} {l : List α} (h : OwK t k f w B (.slice (some ⟨g, 0, none⟩) n c) l) (hg : w'.heap[g]? = w.heap[g]?) : OwK t k f w' B (.slice (some ⟨g, 0, none⟩) n c) l := by
  obtain ⟨cur, rfl, r1, r2, r⟩ := h.blk
  exact ⟨h.1, .inr ⟨g, c, cur, rfl, r1, hg.trans r2, r⟩⟩
theorem OwK.setCell (hf : ∀ x, (f x).length = k) {w : World} {B g n c : Nat} {l : List α} (h : OwK t k f w B (.slice (some ⟨g, 0, none⟩) n c) l) {j : Nat} {x y : α} (hx : l[j]? = some x) {i : Nat} (hi : i < k) {u : Value} (he : f y = (f x).set i u) : OwK t k f (w.setCell ⟨g, j * k + i, none⟩ u) B (.slice (some ⟨g, 0, none⟩) n c) (l.set j y) := by
  obtain ⟨cur, rfl, r1, r2, r3, r4, r5, r6⟩ := h.blk
  have hj := (List.getElem?_eq_some_iff.1 hx).1
  refine ⟨by rw [flat_set hf l j x y i u hx hi he, List.length_set, h.1, List.length_set], .inr ⟨g, c, _, by rw [List.length_set], r1, blk_setCell r2 u, by rw [List.length_set]; exact r3, r4, by rw [Array.size_setIfInBounds]; exact r5, ?_⟩⟩
  rw [flat_set hf l j x y i u hx hi he, List.length_set, ← r6, Array.toList_setIfInBounds, List.take_set]
/-- One more behind, where there is room. -/
theorem OwK.room (hf : ∀ x, (f x).length = k) {P : Program} {st ty : TypeId} {i0 : TypeInfo} (ht : P.underlying st = some (.slice t)) (hi : P.info? t = some i0) (hk : i0.size = k) {w : World} {B g n c : Nat} {l : List α} (h : OwK t k f w B (.slice (some ⟨g, 0, none⟩) n c) l) (x : α) (hone : ∀ u ∈ f x, u.oneCell' = true) (a : Addr) (m : Nat)
    (hs : ∀ j u, (f x)[j]? = some u → w.cell? (a.add j) = some u) (hr : l.length + 1 ≤ c) :
    ∃ w', (Builtin.append_ #[st, st] ty #[.slice (some ⟨g, 0, none⟩) n c, .slice (some a) 1 m]).run P w = .ok (.slice (some ⟨g, 0, none⟩) (n + 1) c) w' ∧ OwK t k f w' B (.slice (some ⟨g, 0, none⟩) (n + 1) c) (l ++ [x]) ∧ w.grownBy w' (some g) ∧ w'.heap.size = w.heap.size := by
  obtain ⟨cur, rfl, r1, r2, r3, r4, r5, r6⟩ := h.blk
  subst hk
  have hle : (l.length + 1) * i0.size ≤ c * i0.size := Nat.mul_le_mul_right _ hr
  rw [Nat.add_mul, Nat.one_mul] at hle
  have hlen := flat_length hf l
  have hfit : l.length * i0.size + (f x).length ≤ cur.size := by rw [hf, r5]; exact hle
  have hrun := run_append_room (P := P) w st ty t i0 ht hi g l.length c cur r2 a 1 m (f x) (by rw [hf, Nat.one_mul]) hs hone hr hfit
  refine ⟨_, hrun, ⟨by rw [List.flatMap_append, List.length_append, hlen, List.length_append, Nat.add_mul]; simp [hf], .inr ⟨g, c, _, by simp, r1, setRow_heap w g cur _ t _ r2, by simpa using hr, r4, ?_, ?_⟩⟩, ⟨rfl, rfl, rfl, by simp, fun k _ hk => setRow_other w g k _ (fun e => hk (by rw [e]))⟩, by simp⟩
  · rw [← r5]
    simp only [List.size_toArray, List.length_append, List.length_take, List.length_drop, Array.length_toList]
    omega
  · rw [r6, List.flatMap_append]
    have e : (l ++ [x]).length * i0.size = (l.flatMap f ++ [x].flatMap f).length := by simp [hlen, hf, Nat.add_mul]
    rw [e, show [x].flatMap f = f x by simp]
    exact List.take_left
end

/-! ### The graph -/
def stC (s : St) : List Value := [.int .i32 (s.longest : Int), .int .i32 (s.fin : Int), .int .i32 s.wider, .int .i32 (s.edge : Int)]
def edC (e : Ed) : List Value := [.int .u8 (e.by_.toNat : Int), .int .i32 (e.to : Int), .int .i32 (e.other : Int)]
theorem stC_len (s : St) : (stC s).length = 4 := rfl
theorem edC_len (e : Ed) : (edC e).length = 3 := rfl
def grC (sb K eb Ke : Nat) (C : Cg) : Array Value := (.slice (some ⟨sb, 0, none⟩) C.st.length K :: .slice (some ⟨eb, 0, none⟩) C.ed.length Ke :: (List.range 256).map fun i => .int .i32 (C.first i : Int)).toArray
structure GrM (w : World) (B gb sb K eb Ke : Nat) (C : Cg) : Prop where
  g : w.heap[gb]? = some (.cells (grC sb K eb Ke C) 88 (0, 0))
  st : OwK 91 4 stC w B (.slice (some ⟨sb, 0, none⟩) C.st.length K) C.st
  ed : OwK 94 3 edC w B (.slice (some ⟨eb, 0, none⟩) C.ed.length Ke) C.ed
  n1 : gb ≠ sb
  n2 : gb ≠ eb
  n3 : sb ≠ eb
  hB : B ≤ gb
  bs : B ≤ sb
  be : B ≤ eb

section
variable {w : World} {B gb sb K eb Ke : Nat} {C : Cg}
theorem GrM.lt (h : GrM w B gb sb K eb Ke C) : gb < w.heap.size ∧ sb < w.heap.size ∧ eb < w.heap.size := by
  obtain ⟨_, _, _, h2, _⟩ := h.st.blk
  obtain ⟨_, _, _, h3, _⟩ := h.ed.blk
  exact ⟨lt_heap h.g, lt_heap h2, lt_heap h3⟩
theorem GrM.g0 (h : GrM w B gb sb K eb Ke C) : w.cell? ⟨gb, 0, none⟩ = some (.slice (some ⟨sb, 0, none⟩) C.st.length K) := (cell_of_row w gb 0 _ _ _ h.g).trans rfl
theorem GrM.g1 (h : GrM w B gb sb K eb Ke C) : w.cell? ⟨gb, 1, none⟩ = some (.slice (some ⟨eb, 0, none⟩) C.ed.length Ke) := (cell_of_row w gb 1 _ _ _ h.g).trans rfl
theorem grC_first (k : Nat) (hk : k < 256) : (grC sb K eb Ke C)[2 + k]? = some (.int .i32 (C.first k : Int)) := by
  unfold grC
  rw [List.getElem?_toArray, show 2 + k = k + 1 + 1 by omega, List.getElem?_cons_succ, List.getElem?_cons_succ, List.getElem?_map, List.getElem?_range hk]; rfl
theorem GrM.gf (h : GrM w B gb sb K eb Ke C) (k : Nat) (hk : k < 256) : w.cell? ⟨gb, 2 + k, none⟩ = some (.int .i32 (C.first k : Int)) := (cell_of_row w gb (2 + k) _ _ _ h.g).trans (grC_first k hk)
theorem Cg.s_get {v : Nat} (hv : v < C.st.length) : C.st[v]? = some (C.s v) := by
  unfold Cg.s
  rw [List.getD_eq_getElem?_getD, List.getElem?_eq_getElem hv]; rfl
theorem Cg.e_get {e : Nat} (he : e < C.ed.length) : C.ed[e]? = some (C.e e) := by
  unfold Cg.e
  rw [List.getD_eq_getElem?_getD, List.getElem?_eq_getElem he]; rfl
theorem GrM.s0 (h : GrM w B gb sb K eb Ke C) {v : Nat} (hv : v < C.st.length) : w.cell? ⟨sb, v * 4, none⟩ = some (.int .i32 ((C.s v).longest : Int)) := (h.st.cell stC_len (Cg.s_get hv) (i := 0) (by decide)).trans rfl
theorem GrM.s1 (h : GrM w B gb sb K eb Ke C) {v : Nat} (hv : v < C.st.length) : w.cell? ⟨sb, v * 4 + 1, none⟩ = some (.int .i32 ((C.s v).fin : Int)) := (h.st.cell stC_len (Cg.s_get hv) (i := 1) (by decide)).trans rfl
theorem GrM.s2 (h : GrM w B gb sb K eb Ke C) {v : Nat} (hv : v < C.st.length) : w.cell? ⟨sb, v * 4 + 2, none⟩ = some (.int .i32 (C.s v).wider) := (h.st.cell stC_len (Cg.s_get hv) (i := 2) (by decide)).trans rfl
theorem GrM.s3 (h : GrM w B gb sb K eb Ke C) {v : Nat} (hv : v < C.st.length) : w.cell? ⟨sb, v * 4 + 3, none⟩ = some (.int .i32 ((C.s v).edge : Int)) := (h.st.cell stC_len (Cg.s_get hv) (i := 3) (by decide)).trans rfl
theorem GrM.e0 (h : GrM w B gb sb K eb Ke C) {e : Nat} (he : e < C.ed.length) : w.cell? ⟨eb, e * 3, none⟩ = some (.int .u8 ((C.e e).by_.toNat : Int)) := (h.ed.cell edC_len (Cg.e_get he) (i := 0) (by decide)).trans rfl
theorem GrM.e1 (h : GrM w B gb sb K eb Ke C) {e : Nat} (he : e < C.ed.length) : w.cell? ⟨eb, e * 3 + 1, none⟩ = some (.int .i32 ((C.e e).to : Int)) := (h.ed.cell edC_len (Cg.e_get he) (i := 1) (by decide)).trans rfl
theorem GrM.e2 (h : GrM w B gb sb K eb Ke C) {e : Nat} (he : e < C.ed.length) : w.cell? ⟨eb, e * 3 + 2, none⟩ = some (.int .i32 ((C.e e).other : Int)) := (h.ed.cell edC_len (Cg.e_get he) (i := 2) (by decide)).trans rfl
theorem GrM.below {w' : World} {b : Nat} (h : GrM w B gb sb K eb Ke C) (hb : Below b w w') (hlt : w.heap.size ≤ b) : GrM w' B gb sb K eb Ke C := by
  obtain ⟨l1, l2, l3⟩ := h.lt
  exact ⟨(hb.block gb (by omega)).trans h.g, h.st.other (hb.block sb (by omega)), h.ed.other (hb.block eb (by omega)), h.n1, h.n2, h.n3, h.hB, h.bs, h.be⟩
theorem GrM.room (h : GrM w B gb sb K eb Ke C) : C.st.length ≤ K ∧ K ≤ maxLen := by
  obtain ⟨_, _, _, _, h1, h2, _⟩ := h.st.blk; exact ⟨h1, h2⟩
end

set_option maxHeartbeats 1000000 in
set_option maxRecDepth 100000 in
theorem edge_any {w : World} {B gb sb K eb Ke : Nat} {C : Cg} {own : Nat → Nat} (h : GrM w B gb sb K eb Ke C) (R : Wf C own) {v : Nat} (hv : v < C.st.length) (c : UInt8) {r : Nat} (hr : EdgeAt C v c r) :
    Calls Try.prog 49 #[.pointer (some ⟨gb, 0, none⟩), .int .i32 (v : Int), .int .u8 (c.toNat : Int)] w fun e w' => e = .returned (.int .i32 (r : Int)) ∧ w = w' := by
  have g0 := h.g0
  have g1 := h.g1
  have gf := h.gf c.toNat c.toNat_lt
  have s3 := h.s3 hv
  have hfew := R.few
  have hcl := c.toNat_lt
  have HE := Lib.hid (fun (e : Nat) (he : e < C.ed.length) => And.intro (h.e0 he) (h.e2 he))
  have HR := Lib.hid R; have HEd := Lib.hid hr; have HF := Lib.hid hfew
  obtain ⟨n, hn⟩ : ∃ n, n = C.st.length := ⟨_, rfl⟩
  obtain ⟨m, hm⟩ : ∃ m, m = C.ed.length := ⟨_, rfl⟩
  have Hn := Lib.hid hn; have Hm := Lib.hid hm
  rw [← hn] at g0 hv
  rw [← hm] at g1
  clear R hr hfew h hn hm
  unfold EdgeAt at HEd
  by_cases h0 : v = 0
  · subst h0
    have hrr := HEd.out
    rw [if_pos rfl] at hrr
    rw [hrr] at gf
    clear hrr HE HR HEd
    go_enter Try.func49, Try.ntmps49
    go_wp2
    go_ret
    exact ⟨rfl, rfl⟩
  · have hrr := HEd.out
    rw [if_neg h0] at hrr
    have HL := Lib.hid hrr
    have hlt := HR.out.edge v (by have := Hn.out; omega)
    rw [← Hm.out] at hlt
    have hv0 : ¬ (v : Int) = 0 := by omega
    have hvn : (v : Int) < (n : Int) := by omega
    obtain ⟨x, hx⟩ : ∃ x, x = (C.s v).edge := ⟨_, rfl⟩
    have Hx := Lib.hid hx
    rw [← hx] at s3 hlt HL
    clear hrr HEd hx h0
    go_enter Try.func49, Try.ntmps49
    go_wp2
    go_loop [7] (fun v7 => ∃ e : Nat, e < m ∧ v7 = .int .i32 e ∧ Hid (Leads C c e r)) (fun v7 => (intOf v7).toNat)
    case atStart => exact ⟨x, hlt, rfl, HL⟩
    case round =>
      obtain ⟨e, hem, rfl, hle⟩ := hrel
      by_cases he0 : e = 0
      · subst he0
        have hrz := hle.out.zero
        subst hrz
        clear hle
        go_wp2
        go_ret
        exact ⟨rfl, rfl⟩
      · obtain ⟨c0, c2⟩ := HE.out e (by have := Hm.out; omega)
        have hen : ¬ (e : Int) = 0 := by omega
        have hemI : (e : Int) < (m : Int) := by omega
        by_cases hc : (C.e e).by_ = c
        · have hre := hle.out.hit he0 hc
          subst hre
          rw [hc] at c0
          clear hle hc he0
          go_wp2
          go_ret
          exact ⟨rfl, rfl⟩
        · have hms := hle.out.miss he0 hc
          have hot := (HR.out.other e (by omega) (by have := Hm.out; omega)).1
          have hcn : ¬ ((C.e e).by_.toNat : Int) = (c.toNat : Int) := fun h => hc (UInt8.toNat_inj.1 (by omega))
          obtain ⟨y, hy⟩ : ∃ y, y = (C.e e).other := ⟨_, rfl⟩
          obtain ⟨z, hz⟩ : ∃ z, z = (C.e e).by_.toNat := ⟨_, rfl⟩
          rw [← hy] at c2 hms hot
          rw [← hz] at c0 hcn
          have HMs := Lib.hid hms
          have b1 : ((e : Int) != 0) = true := by simp only [bne_iff_ne, ne_eq]; omega
          have b2 : ((z : Int) != (c.toNat : Int)) = true := by simp only [bne_iff_ne, ne_eq]; omega
          clear hms hle hc hy hz he0
          go_wp2
          go_round
          case rel => exact ⟨y, by omega, rfl, HMs⟩
          case measure => simp [intOf]; omega
end Go.Proofs.Ytbgnemephcbgeaa
