/-
  join.
-/
import Derived.Test.YtbgnemephcbgeaaGp
namespace Go.Proofs.Ytbgnemephcbgeaa
open Go Go.RowKit

/-- What is known of an element's type. -/
structure ElK {α : Type} (st t : TypeId) (k bt : Nat) (f : α → List Value) : Prop where
  ut : Try.prog.underlying st = some (.slice t)
  info : ∃ z, (Try.prog.info? t).map (fun i => (i.zero, i.size, i.bytes)) = some (some z, k, bt) ∧ z.cells.size = k
  pos : 0 < k
  len : ∀ x, (f x).length = k
  one : ∀ x, ∀ u ∈ f x, u.oneCell' = true
theorem info_parts' {i : TypeInfo} {z : Value} {k bt : Nat} {o : Option TypeInfo} (ho : o = some i) (h : o.map (fun i => (i.zero, i.size, i.bytes)) = some (some z, k, bt)) : i.zero = some z ∧ i.size = k ∧ i.bytes = bt := by
  subst ho; simpa using h
theorem info_some {o : Option TypeInfo} {x : Option Value × Nat × Nat} (h : o.map (fun i => (i.zero, i.size, i.bytes)) = some x) : ∃ i, o = some i := by
  cases o with
  | none => cases h
  | some i => exact ⟨i, rfl⟩
theorem edK : ElK 85 94 3 12 edC := ⟨Try.underlying85, ⟨.agg #[.int .u8 0, .int .i32 0, .int .i32 0], by kernel_rfl, rfl⟩, by decide, edC_len, edC_one⟩
/-- One edge more. -/
theorem run_ed {w : World} {B eb n Ke : Nat} {l : List Ed} (h : OwK 94 3 edC w B (.slice (some ⟨eb, 0, none⟩) n Ke) l) (x : Ed) (a : Addr) (m : Nat) (hs : ∀ j u, (edC x)[j]? = some u → w.cell? (a.add j) = some u) (hl : l.length + 1 ≤ 1000000000) (hb : B ≤ w.heap.size) (ty : TypeId) :
    ∃ eb2 Ke2 w', (Builtin.append_ #[85, 85] ty #[.slice (some ⟨eb, 0, none⟩) n Ke, .slice (some a) 1 m]).run Try.prog w = .ok (.slice (some ⟨eb2, 0, none⟩) (n + 1) Ke2) w' ∧ OwK 94 3 edC w' B (.slice (some ⟨eb2, 0, none⟩) (n + 1) Ke2) (l ++ [x]) ∧ w.grownBy w' (some eb) ∧ ∃ cur, w'.heap[eb2]? = some (.cells cur 94 (0, 0)) := by
  obtain ⟨z, hz, hzs⟩ := edK.info
  obtain ⟨i0, hi⟩ := info_some hz
  obtain ⟨hz0, hz1, hz2⟩ := info_parts' hi hz
  obtain ⟨cur0, rfl, _⟩ := h.blk
  obtain ⟨v', w', h1, h2, h3, _⟩ := run_append_own (P := Try.prog) w B 85 ty 94 i0 z 3 12 edK.ut hi hz0 hz1 hz2 hzs (by decide) _ l.length (l.flatMap edC) h a 1 m (edC x) rfl hs (edC_one x) (by unfold maxLen; omega) (by omega) hb
  rcases h2.2 with ⟨_, h4⟩ | ⟨g, cap, cur, rfl, r⟩
  · omega
  · refine ⟨g, cap, w', h1, ?_, h3, cur, r.2.1⟩
    unfold OwK
    rw [List.length_append, List.length_singleton, List.flatMap_append, show [x].flatMap edC = edC x by simp]
    exact h2
theorem grC_set1 {sb K eb Ke eb2 Ke2 m : Nat} {C C' : Cg} (hl : C'.st.length = C.st.length) (he : C'.ed.length = m) (hf : C'.first = C.first) : (grC sb K eb Ke C).setIfInBounds 1 (.slice (some ⟨eb2, 0, none⟩) m Ke2) = grC sb K eb2 Ke2 C' := by
  unfold grC
  rw [hl, he, hf, List.setIfInBounds_toArray]; rfl
theorem range_set (f : Nat → Value) (n k : Nat) (u : Value) : ((List.range n).map f).set k u = (List.range n).map fun i => if i = k then u else f i := by
  apply List.ext_getElem?
  intro i
  rw [List.getElem?_set]
  by_cases h : k = i
  · subst h
    by_cases hn : k < n
    · simp [hn]
    · simp [hn]
  · rw [if_neg h, List.getElem?_map, List.getElem?_map]
    by_cases hn : i < n
    · rw [List.getElem?_range hn]; simp [Ne.symm h]
    · rw [List.getElem?_eq_none (by simp; omega)]; rfl
theorem grC_setf {sb K eb Ke k x : Nat} {C C' : Cg} (hl : C'.st.length = C.st.length) (he : C'.ed.length = C.ed.length) (hf : C'.first = fun i => if i = k then x else C.first i) : (grC sb K eb Ke C).setIfInBounds (2 + k) (.int .i32 (x : Int)) = grC sb K eb Ke C' := by
  unfold grC
  rw [hl, he, hf, List.setIfInBounds_toArray, show 2 + k = k + 1 + 1 by omega, List.set_cons_succ, List.set_cons_succ, range_set]
  congr 4
  funext i
  by_cases h : i = k
  · simp [h]
  · simp [h]
theorem l_i32 (W : World) (b o : Nat) (x : Int) (h : W.cell? ⟨b, o, none⟩ = some (.int .i32 x)) : (Instr.loadAt 21 (.pointer (some ⟨b, o, none⟩))).run Try.prog W = .ok (.int .i32 x) W := by
  go_simp
theorem at_st (W : World) (g n c k : Nat) (hk : k < n) : (Instr.indexAt 84 (.slice (some ⟨g, 0, none⟩) n c) (.int .i32 (k : Int))).run Try.prog W = .ok (.pointer (some ⟨g, k * 4, none⟩)) W := by
  have h1 : (k : Int) < (n : Int) := by omega
  simp [go_sem, h1]
theorem at_ed (W : World) (g n c k : Nat) (hk : k < n) : (Instr.indexAt 85 (.slice (some ⟨g, 0, none⟩) n c) (.int .i32 (k : Int))).run Try.prog W = .ok (.pointer (some ⟨g, k * 3, none⟩)) W := by
  have h1 : (k : Int) < (n : Int) := by omega
  simp [go_sem, h1]
theorem own_s3 {w : World} {B sb n K : Nat} {l : List St} (h : OwK 91 4 stC w B (.slice (some ⟨sb, 0, none⟩) n K) l) {v : Nat} {s : St} (hv : l[v]? = some s) : w.cell? ⟨sb, v * 4 + 3, none⟩ = some (.int .i32 (s.edge : Int)) := (h.cell stC_len hv (i := 3) (by decide)).trans rfl

def JoinPost (B gb sb K : Nat) (C' : Cg) (r : Value) (w : World) (e : Ending) (w' : World) : Prop := e = .returned r ∧ ∃ eb Ke, GrM w' B gb sb K eb Ke C' ∧ Below B w w'

/-- The edge that is put behind: no state and no edge has turned, but that there is one more. -/
def Cg.more (C : Cg) (e : Ed) : Cg := { C with ed := C.ed ++ [e] }
theorem join_zero (C : Cg) (c : UInt8) (t : Nat) : C.join 0 c t = { (C.more ⟨c, t, (C.s 0).edge⟩) with first := fun i => if i = c.toNat then C.ed.length else C.first i } := by
  unfold Cg.join Cg.more; simp
theorem join_pos (C : Cg) {v : Nat} (h : v ≠ 0) (c : UInt8) (t : Nat) : C.join v c t = { (C.more ⟨c, t, (C.s v).edge⟩) with st := C.st.set v { C.s v with edge := C.ed.length } } := by
  unfold Cg.join Cg.more; simp [h]

set_option maxHeartbeats 4000000 in
set_option maxRecDepth 100000 in
theorem join_any {w : World} {B gb sb K eb Ke : Nat} {C : Cg} (h : GrM w B gb sb K eb Ke C) {v : Nat} (hv : v < C.st.length) (c : UInt8) (t : Nat) (he : C.ed.length ≤ 900000000) :
    Calls Try.prog 55 #[.pointer (some ⟨gb, 0, none⟩), .int .i32 (v : Int), .int .u8 (c.toNat : Int), .int .i32 (t : Int)] w (JoinPost B gb sb K (C.join v c t) (.tuple #[]) w) := by
  obtain ⟨x, hx⟩ : ∃ x, x = (C.s v).edge := ⟨_, rfl⟩
  have hl := h.lt
  have hB := h.hB; have hbs := h.bs; have hbe := h.be
  -- the world when the new edge is made
  obtain ⟨w1, hw1⟩ : ∃ w1, w1 = w.drew.alloc (.cells #[.int .u8 (c.toNat : Int), .int .i32 (t : Int), .int .i32 (x : Int)] 94) := ⟨_, rfl⟩
  have b1 : Below w.heap.size w w1 := by rw [hw1]; exact ((Below.refl _ w).drew).alloc (Nat.le_refl _) _
  have h1 := h.below b1 (Nat.le_refl _)
  obtain ⟨eb2, Ke2, w2, hrun, hed, hg, cur, hcur⟩ := run_ed h1.ed ⟨c, t, x⟩ ⟨w.heap.size, 0, none⟩ 1 (by
    rw [hw1]
    exact new_cells w.drew #[.int .u8 (c.toNat : Int), .int .i32 (t : Int), .int .i32 (x : Int)] 94) (by omega) (by have := b1.size; omega) 85
  have hg2 : w2.heap[gb]? = some (.cells (grC sb K eb Ke C) 88 (0, 0)) := (hg.block gb (by have := b1.size; omega) (by simp; exact h.n2)).trans h1.g
  have hs2 := h1.st.other (hg.block sb (by have := b1.size; omega) (by simp; exact h.n3))
  have k1 : gb ≠ eb2 := by rintro rfl; rw [hg2] at hcur; exact absurd hcur (by simp)
  have k2 : sb ≠ eb2 := by
    rintro rfl
    obtain ⟨_, _, _, e, _⟩ := hs2.blk
    rw [e] at hcur; exact absurd hcur (by simp)
  obtain ⟨w3, hw3⟩ : ∃ w3, w3 = w2.setCell ⟨gb, 1, none⟩ (.slice (some ⟨eb2, 0, none⟩) (C.ed.length + 1) Ke2) := ⟨_, rfl⟩
  have hfin : GrM w3 B gb sb K eb2 Ke2 (C.more ⟨c, t, x⟩) ∧ Below B w w3 := by
    refine ⟨⟨?_, ?_, ?_, h.n1, k1, k2, h.hB, h.bs, ?_⟩, ?_⟩
    · rw [hw3, blk_setCell hg2, grC_set1 (C := C) (C' := C.more ⟨c, t, x⟩) (m := C.ed.length + 1) rfl (by simp [Cg.more]) rfl]
    · exact hs2.other (by rw [hw3]; exact setCell_other _ _ _ _ _ (fun e => h.n1 e.symm))
    · have : (C.more ⟨c, t, x⟩).ed = C.ed ++ [⟨c, t, x⟩] := rfl
      rw [this, List.length_append, List.length_singleton]
      exact hed.other (by rw [hw3]; exact setCell_other _ _ _ _ _ (fun e => k1 e.symm))
    · obtain ⟨_, _, e, _⟩ := hed.blk; exact e
    · refine (b1.mono (by omega)).trans ?_
      refine ⟨by rw [hw3]; exact hg.os, by rw [hw3]; exact hg.tape, by rw [hw3]; exact hg.output, by rw [hw3, size_setCell]; exact hg.size, fun k hk => ?_⟩
      rw [hw3, setCell_other _ _ _ _ _ (by omega)]
      exact hg.block k (by have := b1.size; omega) (by simp; omega)
  have s3 := h.s3 hv
  rw [← hx] at s3
  have HB : Hid ((fun W : World => W.cell? ⟨gb, 0, none⟩ = some (.slice (some ⟨sb, 0, none⟩) C.st.length K) ∧ W.cell? ⟨sb, v * 4 + 3, none⟩ = some (.int .i32 (x : Int))) w.drew) := Lib.hid ⟨h.g0, s3⟩
  have HB1 : Hid ((fun W : World => W.cell? ⟨gb, 0, none⟩ = some (.slice (some ⟨sb, 0, none⟩) C.st.length K) ∧ W.cell? ⟨sb, v * 4 + 3, none⟩ = some (.int .i32 (x : Int))) w1) := Lib.hid ⟨h1.g0, by have := h1.s3 hv; rw [← hx] at this; exact this⟩
  have HB2 : Hid ((fun W : World => W.cell? ⟨gb, 0, none⟩ = some (.slice (some ⟨sb, 0, none⟩) C.st.length K) ∧ W.cell? ⟨sb, v * 4 + 3, none⟩ = some (.int .i32 (x : Int))) w2) := Lib.hid ⟨(cell_of_row w2 gb 0 _ _ _ hg2).trans rfl, by
    have := own_s3 hs2 (Cg.s_get hv)
    rw [← hx] at this; exact this⟩
  have HB3 : Hid ((fun W : World => W.cell? ⟨gb, 0, none⟩ = some (.slice (some ⟨sb, 0, none⟩) C.st.length K) ∧ W.cell? ⟨sb, v * 4 + 3, none⟩ = some (.int .i32 (x : Int))) w3) := Lib.hid ⟨hfin.1.g0, by have := hfin.1.s3 (v := v) hv; rw [hx]; exact this⟩
  have G1 : Hid (w.drew.cell? ⟨gb, 1, none⟩ = some (.slice (some ⟨eb, 0, none⟩) C.ed.length Ke)) := Lib.hid h.g1
  have G2 : Hid (w1.cell? ⟨gb, 1, none⟩ = some (.slice (some ⟨eb, 0, none⟩) C.ed.length Ke)) := Lib.hid h1.g1
  have C2 : Hid (w2.cell? ⟨gb, 1, none⟩ = some (.slice (some ⟨eb, 0, none⟩) C.ed.length Ke)) := Lib.hid ((cell_of_row w2 gb 1 _ _ _ hg2).trans rfl)
  have F2 := Lib.hid (frozen_of (i := 1) hg2)
  have HR := Lib.hid hrun; have HW3 := Lib.hid hw3; have HW1 := Lib.hid hw1
  have HF := Lib.hid hfin; have Hx := Lib.hid hx; have HV := Lib.hid hv
  have g1 := h.g1
  obtain ⟨n, hn⟩ : ∃ n, n = C.st.length := ⟨_, rfl⟩
  obtain ⟨m, hm⟩ : ∃ m, m = C.ed.length := ⟨_, rfl⟩
  have Hn := Lib.hid hn; have Hm := Lib.hid hm
  rw [← hn] at HB HB1 HB2 HB3 hv
  rw [← hm] at G1 G2 C2 HR HW3 he g1
  clear hfin hed hg hcur cur hs2 hg2 h1 b1 hw1 hrun hw3 s3 hx hn hm k1 k2 hl hB hbs hbe
  have HH := Lib.hid h
  clear h
  go_enter Try.func55, Try.ntmps55
  go_upto_region 1 with fail
  clear g1
  refine held_start (fun W : World => W.cell? ⟨gb, 0, none⟩ = some (.slice (some ⟨sb, 0, none⟩) n K) ∧ W.cell? ⟨sb, v * 4 + 3, none⟩ = some (.int .i32 (x : Int))) (by kernel_rfl) ?_
  refine held_take 0 (.pointer (some ⟨gb, 0, none⟩)) rfl (by kernel_rfl) (by kernel_rfl) (by kernel_rfl) (fun _ _ _ h => h) (by kernel_rfl) (fun W hW => by kernel_rfl) HB.out ?_
  refine held_take 1 (.pointer (some ⟨gb, 0, none⟩)) rfl (by kernel_rfl) (by kernel_rfl) (by kernel_rfl) (fun _ _ _ h => h) (by kernel_rfl) (fun W hW => by kernel_rfl) HB.out ?_
  refine held_take 2 (.pointer (some ⟨gb, 0, none⟩)) rfl (by kernel_rfl) (by kernel_rfl) (by kernel_rfl) (fun _ _ _ h => h) (by kernel_rfl) (fun W hW => by kernel_rfl) HB.out ?_
  refine held_take 3 (.pointer (some ⟨gb, 1, none⟩)) rfl (by kernel_rfl) (by kernel_rfl) (by kernel_rfl) (fun _ _ _ h => h) (by kernel_rfl) (fun W hW => by kernel_rfl) HB.out ?_
  refine held_take 5 (.int .u8 (c.toNat : Int)) rfl (by kernel_rfl) (by kernel_rfl) (by kernel_rfl) (fun _ _ _ h => h) (by kernel_rfl) (fun W hW => by kernel_rfl) HB.out ?_
  refine held_take 6 (.int .i32 (t : Int)) rfl (by kernel_rfl) (by kernel_rfl) (by kernel_rfl) (fun _ _ _ h => h) (by kernel_rfl) (fun W hW => by kernel_rfl) HB.out ?_
  refine held_take 7 (.pointer (some ⟨gb, 0, none⟩)) rfl (by kernel_rfl) (by kernel_rfl) (by kernel_rfl) (fun _ _ _ h => h) (by kernel_rfl) (fun W hW => by kernel_rfl) HB.out ?_
  refine held_take 8 (.pointer (some ⟨gb, 0, none⟩)) rfl (by kernel_rfl) (by kernel_rfl) (by kernel_rfl) (fun _ _ _ h => h) (by kernel_rfl) (fun W hW => by kernel_rfl) HB.out ?_
  refine held_take 9 (.pointer (some ⟨gb, 0, none⟩)) rfl (by kernel_rfl) (by kernel_rfl) (by kernel_rfl) (fun _ _ _ h => h) (by kernel_rfl) (fun W hW => by kernel_rfl) HB.out ?_
  refine held_take 10 (.slice (some ⟨sb, 0, none⟩) n K) rfl (by kernel_rfl) (by kernel_rfl) (by kernel_rfl) (fun _ _ _ h => h) (by kernel_rfl) (fun W hW => y_load (sv := .pointer (some ⟨gb, 0, none⟩)) rfl (by kernel_rfl) (l_sl _ _ _ _ _ _ hW.1)) HB.out ?_
  refine held_take 11 (.int .i32 (v : Int)) rfl (by kernel_rfl) (by kernel_rfl) (by kernel_rfl) (fun _ _ _ h => h) (by kernel_rfl) (fun W hW => by kernel_rfl) HB.out ?_
  refine held_take 12 (.pointer (some ⟨sb, v * 4, none⟩)) rfl (by kernel_rfl) (by kernel_rfl) (by kernel_rfl) (fun _ _ _ h => h) (by kernel_rfl) (fun W hW => y_index (sv := .slice (some ⟨sb, 0, none⟩) n K) (iv := .int .i32 (v : Int)) rfl (by kernel_rfl) (by kernel_rfl) (at_st W sb n K v hv)) HB.out ?_
  refine held_take 13 (.pointer (some ⟨sb, v * 4 + 3, none⟩)) rfl (by kernel_rfl) (by kernel_rfl) (by kernel_rfl) (fun _ _ _ h => h) (by kernel_rfl) (fun W hW => by kernel_rfl) HB.out ?_
  refine held_take 14 (.int .i32 (x : Int)) rfl (by kernel_rfl) (by kernel_rfl) (by kernel_rfl) (fun _ _ _ h => h) (by kernel_rfl) (fun W hW => y_load (sv := .pointer (some ⟨sb, v * 4 + 3, none⟩)) rfl (by kernel_rfl) (l_i32 _ _ _ _ hW.2)) HB.out ?_
  refine held_take 15 (.agg #[.int .u8 (c.toNat : Int), .int .i32 (t : Int), .int .i32 (x : Int)]) rfl (by kernel_rfl) (by kernel_rfl) (by kernel_rfl) (fun _ _ _ h => h) (by kernel_rfl) (fun W hW => by kernel_rfl) HB.out ?_
  refine held_two (i := 4) (j := 16) (by kernel_rfl) ?_ ?_
  · refine held_op (.slice (some ⟨eb, 0, none⟩) m Ke) _ rfl (by kernel_rfl) (y_load (sv := .pointer (some ⟨gb, 1, none⟩)) rfl (by kernel_rfl) (l_el _ _ _ _ _ _ G1.out)) HB.out ?_
    refine held_one (i := 16) (by kernel_rfl) ?_
    refine held_op (.slice (some ⟨w.heap.size, 0, none⟩) 1 1) w1 rfl (by kernel_rfl) (y_bs (xv := .agg #[.int .u8 (c.toNat : Int), .int .i32 (t : Int), .int .i32 (x : Int)]) (W' := w1) rfl (by kernel_rfl) (bs_ed _ _ _ _ _ HW1.out _ rfl)) HB1.out ?_
    refine held_one (i := 17) (by kernel_rfl) ?_
    refine held_op (.slice (some ⟨eb2, 0, none⟩) (m + 1) Ke2) w2 rfl (by kernel_rfl) (y_append (sv := .slice (some ⟨eb, 0, none⟩) m Ke) (yv := .slice (some ⟨w.heap.size, 0, none⟩) 1 1) rfl (by kernel_rfl) (by kernel_rfl) HR.out) HB2.out ?_
    refine held_take 18 (.pointer (some ⟨gb, 0, none⟩)) rfl (by kernel_rfl) (by kernel_rfl) (by kernel_rfl) (fun _ _ _ h => h) (by kernel_rfl) (fun W hW => by kernel_rfl) HB2.out ?_
    refine held_take 19 (.pointer (some ⟨gb, 1, none⟩)) rfl (by kernel_rfl) (by kernel_rfl) (by kernel_rfl) (fun _ _ _ h => h) (by kernel_rfl) (fun W hW => by kernel_rfl) HB2.out ?_
    refine held_one (i := 20) (by kernel_rfl) ?_
    refine held_store w3 rfl (by kernel_rfl) (y_store (sv := .pointer (some ⟨gb, 1, none⟩)) (xv := .slice (some ⟨eb2, 0, none⟩) (m + 1) Ke2) rfl (by kernel_rfl) (by kernel_rfl) (by rw [HW3.out]; exact s_el _ _ _ _ _ _ _ C2.out F2.out)) HB3.out ?_
    refine held_done _ (by kernel_rfl) ?_
    go_simp
    obtain ⟨g3, l3⟩ := HF.out
    by_cases h0 : v = 0
    · subst h0
      have c3 := g3.gf c.toNat c.toNat_lt
      have f3 := frozen_of (i := 2 + c.toNat) g3.g
      have hcl := c.toNat_lt
      have hfin : JoinPost B gb sb K (C.join 0 c t) (.tuple #[]) w (.returned (.tuple #[])) (w3.setCell ⟨gb, 2 + c.toNat, none⟩ (.int .i32 (m : Int))) := by
        refine ⟨rfl, eb2, Ke2, ⟨?_, ?_, ?_, g3.n1, g3.n2, g3.n3, g3.hB, g3.bs, g3.be⟩, ?_⟩
        · rw [blk_setCell g3.g, join_zero, ← Hx.out, ← Hm.out, grC_setf (C := C.more ⟨c, t, x⟩) (C' := { (C.more ⟨c, t, x⟩) with first := fun i => if i = c.toNat then m else C.first i }) rfl rfl rfl]
        · rw [join_zero, ← Hx.out]; exact g3.st.other (setCell_other _ _ _ _ _ (fun e => g3.n1 e.symm))
        · rw [join_zero, ← Hx.out]; exact g3.ed.other (setCell_other _ _ _ _ _ (fun e => g3.n2 e.symm))
        · refine l3.trans ⟨rfl, rfl, rfl, by rw [size_setCell]; exact Nat.le_refl _, fun k hk => setCell_other _ _ _ _ _ (by have := g3.hB; omega)⟩
      have HFin := Lib.hid hfin
      clear hfin g3 l3
      go_wp2
      go_end0
      exact HFin.out
    · have c0 := g3.g0
      have c3 := g3.s3 (v := v) HV.out
      have e3 : (C.more ⟨c, t, x⟩).st.length = n := Hn.out.symm
      have e4 : ((C.more ⟨c, t, x⟩).s v).edge = x := Hx.out.symm
      rw [e3] at c0
      rw [e4] at c3
      obtain ⟨curS, _, _, hsS, _⟩ := g3.st.blk
      have f3 := frozen_of (i := v * 4 + 3) hsS
      have hfin : JoinPost B gb sb K (C.join v c t) (.tuple #[]) w (.returned (.tuple #[])) (w3.setCell ⟨sb, v * 4 + 3, none⟩ (.int .i32 (m : Int))) := by
        refine ⟨rfl, eb2, Ke2, ⟨?_, ?_, ?_, g3.n1, g3.n2, g3.n3, g3.hB, g3.bs, g3.be⟩, ?_⟩
        · rw [setCell_other _ _ _ _ _ g3.n1, g3.g, join_pos _ h0, ← Hx.out]
          unfold grC Cg.more; simp
        · rw [join_pos _ h0, ← Hx.out]
          have := g3.st.setCell stC_len (Cg.s_get HV.out) (i := 3) (by decide) (u := .int .i32 (m : Int)) (y := { C.s v with edge := C.ed.length }) (by rw [← Hm.out]; rfl)
          rw [show (C.st.set v { C.s v with edge := C.ed.length }).length = (C.more ⟨c, t, x⟩).st.length by rw [List.length_set]; rfl]
          exact this
        · rw [join_pos _ h0, ← Hx.out]; exact g3.ed.other (setCell_other _ _ _ _ _ (fun e => g3.n3 e.symm))
        · refine l3.trans ⟨rfl, rfl, rfl, by rw [size_setCell]; exact Nat.le_refl _, fun k hk => setCell_other _ _ _ _ _ (by have := g3.bs; omega)⟩
      have HFin := Lib.hid hfin
      have hv0 : ¬ (v : Int) = 0 := by omega
      have hvn : (v : Int) < (n : Int) := by omega
      clear hfin g3 l3 hsS e3 e4
      go_wp2
      go_end0
      exact HFin.out
  · refine held_op (.slice (some ⟨w.heap.size, 0, none⟩) 1 1) w1 rfl (by kernel_rfl) (y_bs (xv := .agg #[.int .u8 (c.toNat : Int), .int .i32 (t : Int), .int .i32 (x : Int)]) (W' := w1) rfl (by kernel_rfl) (bs_ed _ _ _ _ _ HW1.out _ rfl)) HB1.out ?_
    refine held_one (i := 4) (by kernel_rfl) ?_
    refine held_op (.slice (some ⟨eb, 0, none⟩) m Ke) _ rfl (by kernel_rfl) (y_load (sv := .pointer (some ⟨gb, 1, none⟩)) rfl (by kernel_rfl) (l_el _ _ _ _ _ _ G2.out)) HB1.out ?_
    refine held_one (i := 17) (by kernel_rfl) ?_
    refine held_op (.slice (some ⟨eb2, 0, none⟩) (m + 1) Ke2) w2 rfl (by kernel_rfl) (y_append (sv := .slice (some ⟨eb, 0, none⟩) m Ke) (yv := .slice (some ⟨w.heap.size, 0, none⟩) 1 1) rfl (by kernel_rfl) (by kernel_rfl) HR.out) HB2.out ?_
    refine held_take 18 (.pointer (some ⟨gb, 0, none⟩)) rfl (by kernel_rfl) (by kernel_rfl) (by kernel_rfl) (fun _ _ _ h => h) (by kernel_rfl) (fun W hW => by kernel_rfl) HB2.out ?_
    refine held_take 19 (.pointer (some ⟨gb, 1, none⟩)) rfl (by kernel_rfl) (by kernel_rfl) (by kernel_rfl) (fun _ _ _ h => h) (by kernel_rfl) (fun W hW => by kernel_rfl) HB2.out ?_
    refine held_one (i := 20) (by kernel_rfl) ?_
    refine held_store w3 rfl (by kernel_rfl) (y_store (sv := .pointer (some ⟨gb, 1, none⟩)) (xv := .slice (some ⟨eb2, 0, none⟩) (m + 1) Ke2) rfl (by kernel_rfl) (by kernel_rfl) (by rw [HW3.out]; exact s_el _ _ _ _ _ _ _ C2.out F2.out)) HB3.out ?_
    refine held_done _ (by kernel_rfl) ?_
    go_simp
    obtain ⟨g3, l3⟩ := HF.out
    by_cases h0 : v = 0
    · subst h0
      have c3 := g3.gf c.toNat c.toNat_lt
      have f3 := frozen_of (i := 2 + c.toNat) g3.g
      have hcl := c.toNat_lt
      have hfin : JoinPost B gb sb K (C.join 0 c t) (.tuple #[]) w (.returned (.tuple #[])) (w3.setCell ⟨gb, 2 + c.toNat, none⟩ (.int .i32 (m : Int))) := by
        refine ⟨rfl, eb2, Ke2, ⟨?_, ?_, ?_, g3.n1, g3.n2, g3.n3, g3.hB, g3.bs, g3.be⟩, ?_⟩
        · rw [blk_setCell g3.g, join_zero, ← Hx.out, ← Hm.out, grC_setf (C := C.more ⟨c, t, x⟩) (C' := { (C.more ⟨c, t, x⟩) with first := fun i => if i = c.toNat then m else C.first i }) rfl rfl rfl]
        · rw [join_zero, ← Hx.out]; exact g3.st.other (setCell_other _ _ _ _ _ (fun e => g3.n1 e.symm))
        · rw [join_zero, ← Hx.out]; exact g3.ed.other (setCell_other _ _ _ _ _ (fun e => g3.n2 e.symm))
        · refine l3.trans ⟨rfl, rfl, rfl, by rw [size_setCell]; exact Nat.le_refl _, fun k hk => setCell_other _ _ _ _ _ (by have := g3.hB; omega)⟩
      have HFin := Lib.hid hfin
      clear hfin g3 l3
      go_wp2
      go_end0
      exact HFin.out
    · have c0 := g3.g0
      have c3 := g3.s3 (v := v) HV.out
      have e3 : (C.more ⟨c, t, x⟩).st.length = n := Hn.out.symm
      have e4 : ((C.more ⟨c, t, x⟩).s v).edge = x := Hx.out.symm
      rw [e3] at c0
      rw [e4] at c3
      obtain ⟨curS, _, _, hsS, _⟩ := g3.st.blk
      have f3 := frozen_of (i := v * 4 + 3) hsS
      have hfin : JoinPost B gb sb K (C.join v c t) (.tuple #[]) w (.returned (.tuple #[])) (w3.setCell ⟨sb, v * 4 + 3, none⟩ (.int .i32 (m : Int))) := by
        refine ⟨rfl, eb2, Ke2, ⟨?_, ?_, ?_, g3.n1, g3.n2, g3.n3, g3.hB, g3.bs, g3.be⟩, ?_⟩
        · rw [setCell_other _ _ _ _ _ g3.n1, g3.g, join_pos _ h0, ← Hx.out]
          unfold grC Cg.more; simp
        · rw [join_pos _ h0, ← Hx.out]
          have := g3.st.setCell stC_len (Cg.s_get HV.out) (i := 3) (by decide) (u := .int .i32 (m : Int)) (y := { C.s v with edge := C.ed.length }) (by rw [← Hm.out]; rfl)
          rw [show (C.st.set v { C.s v with edge := C.ed.length }).length = (C.more ⟨c, t, x⟩).st.length by rw [List.length_set]; rfl]
          exact this
        · rw [join_pos _ h0, ← Hx.out]; exact g3.ed.other (setCell_other _ _ _ _ _ (fun e => g3.n3 e.symm))
        · refine l3.trans ⟨rfl, rfl, rfl, by rw [size_setCell]; exact Nat.le_refl _, fun k hk => setCell_other _ _ _ _ _ (by have := g3.bs; omega)⟩
      have HFin := Lib.hid hfin
      have hv0 : ¬ (v : Int) = 0 := by omega
      have hvn : (v : Int) < (n : Int) := by omega
      clear hfin g3 l3 hsS e3 e4
      go_wp2
      go_end0
      exact HFin.out
end Go.Proofs.Ytbgnemephcbgeaa
