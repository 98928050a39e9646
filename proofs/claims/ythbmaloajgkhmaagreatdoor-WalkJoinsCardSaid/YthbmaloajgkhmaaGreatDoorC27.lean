/-
  The head: a live question, whose answer is fixed.
  WalkSets.
  What comes in: objects with their names, objects, texts, as they read.
-/
import Derived.Test.YthbmaloajgkhmaaGreatDoorC25
import Derived.Test.YthbmaloajgkhmaaGreatDoorC26
import Derived.Test.YthbmaloajgkhmaaGreatDoorC15
import Derived.Test.YthbmaloajgkhmaaGreatDoorC23
import Derived.Test.YthbmaloajgkhmaaGreatDoorC24
import Derived.Deep.Slices
import Derived.ChangeArms
import Derived.DataShut
import Derived.SizedLaws

namespace Go.Proofs.YthbmaloajgkhmaaGreatDoor
open Go Go.RowKit Go.Maps
theorem strs_one (W : World) (x : Bs) : StrsR (W.alloc (.cells #[.string ⟨x.toArray⟩] 9)) (.slice (some ⟨W.heap.size, 0, none⟩) 1 1) [x] :=
  .inr ⟨W.heap.size, 0, 1, rfl, Nat.le_refl _, by simp, fun j hj z hz i hi => by
    rw [Nat.zero_add, cell_of_row (W.alloc _) W.heap.size (j * 1 + i) _ _ _ (heap_alloc_new W _)]
    match j, hj with
    | 0, _ =>
      cases hz
      match i, hi with
      | 0, _ => rfl⟩
theorem itms_one (W : World) (x : Itm) : ItmsR (W.alloc (.cells #[.int .i64 x.mode, .string ⟨x.name.toArray⟩, .string ⟨x.id.toArray⟩] 42)) (.slice (some ⟨W.heap.size, 0, none⟩) 1 1) [x] :=
  .inr ⟨W.heap.size, 0, 1, rfl, Nat.le_refl _, by simp, fun j hj z hz i hi => by
    rw [Nat.zero_add, cell_of_row (W.alloc _) W.heap.size (j * 3 + i) _ _ _ (heap_alloc_new W _)]
    match j, hj with
    | 0, _ =>
      cases hz
      match i, hi with
      | 0, _ => rfl
      | 1, _ => rfl
      | 2, _ => rfl⟩
theorem objs_four (W : World) (a b c d : Int × Bs) : ObjsR (W.alloc (.cells #[.int .i64 a.1, .string ⟨a.2.toArray⟩, .int .i64 b.1, .string ⟨b.2.toArray⟩, .int .i64 c.1, .string ⟨c.2.toArray⟩, .int .i64 d.1, .string ⟨d.2.toArray⟩] 26)) (.slice (some ⟨W.heap.size, 0, none⟩) 4 4) [a, b, c, d] :=
  .inr ⟨W.heap.size, 0, 4, rfl, Nat.le_refl _, by simp, fun j hj z hz i hi => by
    rw [Nat.zero_add, cell_of_row (W.alloc _) W.heap.size (j * 2 + i) _ _ _ (heap_alloc_new W _)]
    match j, hj with
    | 0, _ =>
      cases hz
      match i, hi with
      | 0, _ => rfl
      | 1, _ => rfl
    | 1, _ =>
      cases hz
      match i, hi with
      | 0, _ => rfl
      | 1, _ => rfl
    | 2, _ =>
      cases hz
      match i, hi with
      | 0, _ => rfl
      | 1, _ => rfl
    | 3, _ =>
      cases hz
      match i, hi with
      | 0, _ => rfl
      | 1, _ => rfl⟩
theorem e_strH (W : World) (x : ByteArray) : (binOp .eql 9 (.string x) (.string x)).run Tryz.prog W = .ok (.bool true) W := by
  simp [go_sem]
theorem build1s (W : World) (x : Bs) : (Instr.buildSlice 44 1 #[(0, .string ⟨x.toArray⟩)]).run Tryz.prog W = .ok (.slice (some ⟨W.heap.size, 0, none⟩) 1 1) (W.alloc (.cells #[.string ⟨x.toArray⟩] 9)) := by
  simp [go_sem]
theorem TwoH.each {r : List Hld} (hs : IsSet L0 r) : ∀ x ∈ r, x = hT ∨ x = hB := fun x hx => by
  have hf := (hs.mem x).1 hx
  have h : TwoH L0 := find_L0
  by_cases e : x.id = nT
  · rw [e, h.ft] at hf; cases hf; exact .inl rfl
  · by_cases e2 : x.id = nB
    · rw [e2, h.fb] at hf; cases hf; exact .inr rfl
    · rw [h.no e e2] at hf; cases hf
theorem nB_len : nB.length ≤ 10000 := by decide
theorem nT_len : nT.length ≤ 10000 := by decide
theorem td_len : tdT.length ≤ 10000 := by decide
theorem TwoH.small {r : List Hld} (hs : IsSet L0 r) : ∀ x ∈ r, x.id.length ≤ 10000 ∧ x.data.length ≤ 10000 := fun x hx => by
  rcases TwoH.each hs x hx with rfl | rfl
  · exact ⟨nT_len, td_len⟩
  · exact ⟨nB_len, by show 1 ≤ _; omega⟩
/-- What the head is told of its two objects, their names and the tree's text being any texts. -/
structure HeadF (bn tn td : Bs) : Prop where
  idB : ∀ W, Calls Tryz.prog 14 #[.agg #[.int .i64 1, .string ⟨#[120]⟩]] W (RetBelow (.string ⟨bn.toArray⟩) W)
  idT : ∀ W, Calls Tryz.prog 14 #[.agg #[.int .i64 2, .string ⟨td.toArray⟩]] W (RetBelow (.string ⟨tn.toArray⟩) W)
  put : ∀ W : World, Calls Tryz.prog 15 #[.slice (some ⟨W.heap.size, 0, none⟩) 1 1] (W.alloc (.cells #[.int .i64 1, .string ⟨#[102]⟩, .string ⟨bn.toArray⟩] 42)) (RetBelow (.tuple #[.string ⟨td.toArray⟩, .bool true]) (W.alloc (.cells #[.int .i64 1, .string ⟨#[102]⟩, .string ⟨bn.toArray⟩] 42)))
  set : ∀ W : World, Ob W → Calls Tryz.prog 8 #[.slice (some ⟨W.heap.size, 0, none⟩) 4 4] (W.alloc (.cells #[.int .i64 2, .string ⟨td.toArray⟩, .int .i64 1, .string ⟨#[120]⟩, .int .i64 1, .string ⟨#[120]⟩, .int .i64 9, .string ⟨#[]⟩] 26)) fun e w' => ∃ A c r, e = .returned (.slice A 2 c) ∧ r.length = 2 ∧ IsSet L0 r ∧ HldsR w' (.slice A 2 c) r ∧ Below (W.alloc (.cells #[.int .i64 2, .string ⟨td.toArray⟩, .int .i64 1, .string ⟨#[120]⟩, .int .i64 1, .string ⟨#[120]⟩, .int .i64 9, .string ⟨#[]⟩] 26)).heap.size (W.alloc (.cells #[.int .i64 2, .string ⟨td.toArray⟩, .int .i64 1, .string ⟨#[120]⟩, .int .i64 1, .string ⟨#[120]⟩, .int .i64 9, .string ⟨#[]⟩] 26)) w'
  clo : ∀ (W : World) (r : List Hld) (v : Value), Ob W → IsSet L0 r → HldsR W v r → Calls Tryz.prog 16 #[v, .slice (some ⟨W.heap.size, 0, none⟩) 1 1] (W.alloc (.cells #[.string ⟨tn.toArray⟩] 9)) fun e w' => ∃ A c B d a, e = .returned (.tuple #[.slice A 2 c, .slice B 0 d]) ∧ a.length = 2 ∧ (∀ x ∈ a, x = nT ∨ x = nB) ∧ StrsR w' (.slice A 2 c) a ∧ Below (W.alloc (.cells #[.string ⟨tn.toArray⟩] 9)).heap.size (W.alloc (.cells #[.string ⟨tn.toArray⟩] 9)) w'
  pick : ∀ (W : World) (r : List Hld) (v : Value), IsSet L0 r → HldsR W v r → Calls Tryz.prog 17 #[v, .slice (some ⟨W.heap.size, 0, none⟩) 1 1] (W.alloc (.cells #[.string ⟨tn.toArray⟩] 9)) fun e w' => ∃ A n c, e = .returned (.slice A n c) ∧ HldsR w' (.slice A n c) (pickL r [nT]) ∧ Below (W.alloc (.cells #[.string ⟨tn.toArray⟩] 9)).heap.size (W.alloc (.cells #[.string ⟨tn.toArray⟩] 9)) w'
  clo2 : ∀ (W : World) (r : List Hld) (v : Value), Ob W → IsSet L0 r → HldsR W v (pickL r [nT]) → Calls Tryz.prog 16 #[v, .slice (some ⟨W.heap.size, 0, none⟩) 1 1] (W.alloc (.cells #[.string ⟨tn.toArray⟩] 9)) fun e w' => ∃ A c g o d, e = .returned (.tuple #[.slice A 1 c, .slice (some ⟨g, o, none⟩) 1 d]) ∧ w'.cell? ⟨g, o, none⟩ = some (.string ⟨bn.toArray⟩) ∧ Below (W.alloc (.cells #[.string ⟨tn.toArray⟩] 9)).heap.size (W.alloc (.cells #[.string ⟨tn.toArray⟩] 9)) w'
  find : ∀ (W : World) (r : List Hld) (v : Value), IsSet L0 r → HldsR W v r → Calls Tryz.prog 12 #[v, .string ⟨bn.toArray⟩] W (RetBelow (.tuple #[.agg #[.int .i64 1, .string ⟨#[120]⟩], .bool true]) W)
  sou : ∀ (W : World) (r : List Hld) (v : Value) (a : List Bs) (u : Value), Ob W → IsSet L0 r → HldsR W v r → StrsR W u a → a.length = 2 → (∀ x ∈ a, x = nT ∨ x = nB) → Calls Tryz.prog 18 #[v, u] W (RetBelow (.int .i64 0) W)
  sou2 : ∀ (W : World) (a : List Bs) (u : Value), Ob W → StrsR W u a → a.length = 2 → (∀ x ∈ a, x = nT ∨ x = nB) → Calls Tryz.prog 18 #[.slice none 0 0, u] W (RetBelow (.int .i64 51) W)
  join : ∀ (W : World) (r : List Hld) (v : Value), IsSet L0 r → HldsR W v r → Calls Tryz.prog 10 #[v, v] W fun e w' => ∃ A c, e = .returned (.slice A 2 c) ∧ Below W.heap.size W w'
theorem headF : HeadF nB nT tdT := by
  have smI : Smalls [itB] := fun x hx => by
    rw [List.mem_singleton.1 hx]
    exact ⟨by show 1 ≤ _; omega, Nat.le_trans nB_len (by omega)⟩
  have small1 : ∀ x ∈ [nT], x.length ≤ 10000 := fun x hx => by rw [List.mem_singleton.1 hx]; exact nT_len
  have smallA : ∀ a : List Bs, (∀ x ∈ a, x = nT ∨ x = nB) → ∀ x ∈ a, x.length ≤ 10000 := fun a ha x hx => by
    rcases ha x hx with rfl | rfl
    · exact nT_len
    · exact nB_len
  refine ⟨fun W => ?_, fun W => ?_, fun W => ?_, fun W hO => ?_, fun W r v hO hs hv => ?_, fun W r v hs hv => ?_, fun W r v hO hs hv => ?_, fun W r v hs hv => ?_, fun W r v a u hO hs hv ha hl hm => ?_, fun W a u hO ha hl hm => ?_, fun W r v hs hv => ?_⟩
  · have h := RId_any 1 [120] (by decide) W
    rw [id_B] at h; exact h
  · have h := RId_any 2 tdT (Nat.le_trans td_len (by omega)) W
    rw [id_T] at h; exact h
  · have h := RPutTree_any _ _ _ (itms_one W itB) smI (by simp)
    rw [putTV_yes right_B, put_B] at h; exact h
  · have hb := below_new W (.cells #[.int .i64 2, .string ⟨tdT.toArray⟩, .int .i64 1, .string ⟨#[120]⟩, .int .i64 1, .string ⟨#[120]⟩, .int .i64 9, .string ⟨#[]⟩] 26)
    have h := Set_any (objs_four W (2, tdT) (1, [120]) (1, [120]) (9, [])) (hO.below hb) (by simp) (fun x hx => by
      simp only [List.mem_cons, List.not_mem_nil, or_false] at hx
      rcases hx with rfl | rfl | rfl | rfl
      · exact td_len
      · decide
      · decide
      · decide) (fun B v' w' hn => by
        rw [set_L0] at hn ⊢
        rcases hn.2 with ⟨_, h0⟩ | ⟨g, cap, cur, rfl, _⟩
        · cases h0
        · exact sort_small hn (by decide))
    rw [set_L0] at h
    refine h.mono ?_
    rintro e w' ⟨u, r, rfl, h1, _, h3, h4⟩
    have h2 := TwoH.len find_L0 h1
    obtain ⟨A, c, rfl⟩ := own_slice h3
    have h5 := h3.rd
    rw [h2] at h5 ⊢
    exact ⟨A, c, r, rfl, h2, h1, h5, h4⟩
  · have hb := below_new W (.cells #[.string ⟨nT.toArray⟩] 9)
    refine (Closure_any (hv.below hb (Nat.le_refl _)) (strs_one W nT) (hO.eb.below hb) (hO.tb.below hb) (by rw [TwoH.len find_L0 hs]; omega) (by simp) (TwoH.small hs) small1).mono ?_
    rintro e w' ⟨va, vb, a, b, rfl, h1, h2, h3, _, _, h4⟩
    obtain ⟨e1, e2, e3⟩ := (two_set hs).clo h3
    obtain ⟨A, c, rfl⟩ := h1.shape
    obtain ⟨B, d, rfl⟩ := h2.shape
    subst e2
    rw [e1] at h1 ⊢
    exact ⟨A, c, B, d, a, rfl, e1, e3, h1, h4⟩
  · have hb := below_new W (.cells #[.string ⟨nT.toArray⟩] 9)
    refine (Pick_any (hv.below hb (Nat.le_refl _)) (strs_one W nT) (by rw [TwoH.len find_L0 hs]; omega) (by simp) (fun x hx => Nat.le_trans (TwoH.small hs x hx).1 (by omega)) (fun x hx => Nat.le_trans (small1 x hx) (by omega))).mono ?_
    rintro e w' ⟨v', rfl, h1, h2⟩
    obtain ⟨A, c, rfl⟩ := own_slice h1
    exact ⟨A, _, c, rfl, h1.rd, h2⟩
  · have hb := below_new W (.cells #[.string ⟨nT.toArray⟩] 9)
    refine (Closure_any (hv.below hb (Nat.le_refl _)) (strs_one W nT) (hO.eb.below hb) (hO.tb.below hb) (Nat.le_trans (pickL_len r [nT]) (by rw [TwoH.len find_L0 hs]; omega)) (by simp) (fun x hx => TwoH.small hs x (List.mem_filter.1 hx).1) small1).mono ?_
    rintro e w' ⟨va, vb, a, b, rfl, h1, h2, h3, _, _, h4⟩
    obtain ⟨e1, e2⟩ := (two_set hs).pick h3
    obtain ⟨A, c, rfl⟩ := h1.shape
    obtain ⟨B, d, rfl⟩ := h2.shape
    subst e2
    rw [e1]
    obtain ⟨g, o, d', e, _, _⟩ := h2.pos (by simp)
    cases e
    have h5 := StrsR.cell h2 0 (by simp)
    exact ⟨A, c, g, o, d, rfl, h5, h4⟩
  · have h := Find_any hv (by rw [TwoH.len find_L0 hs]; omega) nB
    rw [show findV r nB = .tuple #[.agg #[.int .i64 1, .string ⟨#[120]⟩], .bool true] by unfold findV thB; rw [(two_set hs).fb]; rfl] at h
    exact h
  · refine (Sound_any hv ha hO.eb hO.tb (by rw [TwoH.len find_L0 hs]; omega) (by omega) (TwoH.small hs) (smallA a hm)).mono ?_
    rintro e w' ⟨q, rfl, h1, h2⟩
    rw [(two_set hs).sound hm h1]
    exact ⟨rfl, h2⟩
  · refine (Sound_any (L := []) (.inl ⟨⟨none, 0, rfl⟩, rfl⟩) ha hO.eb hO.tb (by simp) (by omega) (fun x hx => by cases hx) (smallA a hm)).mono ?_
    rintro e w' ⟨q, rfl, h1, h2⟩
    rw [sound_nil (by omega) h1]
    exact ⟨rfl, h2⟩
  · have hl := TwoH.len find_L0 hs
    refine (Join_any hv hv (by omega) (by omega) (fun B v' w' hn => by
        rcases hn.2 with ⟨_, h0⟩ | ⟨g, cap, cur, rfl, _⟩
        · simp [hl] at h0
        · exact sort_small hn (by simp [hl]))).mono ?_
    rintro e w' ⟨u, s, rfl, h1, _, h3, h4⟩
    obtain ⟨A, c, rfl⟩ := own_slice h3
    have h5 := (two_set hs).twice.len h1
    exact ⟨A, c, by rw [h5], h4⟩
theorem lookObj {W : World} {g : Nat} {k : Int} {d : Bs} (h : W.heap[g]? = some (.cells #[.int .i64 k, .string ⟨d.toArray⟩] 26 (0, 0))) : W.cell? ⟨g, 0, none⟩ = some (.int .i64 k) ∧ W.cell? ⟨g, 1, none⟩ = some (.string ⟨d.toArray⟩) :=
  ⟨(cell_of_row W g 0 _ _ _ h).trans rfl, (cell_of_row W g 1 _ _ _ h).trans rfl⟩
def HeadPost (w : World) (e : Ending) (w' : World) : Prop := e = .returned (.bool true) ∧ Below w.heap.size w w'
set_option maxHeartbeats 8000000 in
set_option maxRecDepth 100000 in
theorem head_any {w : World} (ho : Ob w) : Calls Tryz.prog 5 #[] w (HeadPost w) := by
  obtain ⟨bn, hbn⟩ : ∃ x, x = nB := ⟨_, rfl⟩
  obtain ⟨tn, htn⟩ : ∃ x, x = nT := ⟨_, rfl⟩
  obtain ⟨td, htd⟩ : ∃ x, x = tdT := ⟨_, rfl⟩
  have HF := headF
  rw [← hbn, ← htn, ← htd] at HF
  have HF := Lib.hid HF; have HO := Lib.hid ho
  clear hbn htn htd ho
  obtain ⟨w1, hw1⟩ : ∃ w1, w1 = w.alloc (.cells #[.int .i64 1, .string ⟨#[120]⟩] 26) := ⟨_, rfl⟩
  have hb1 : Below w.heap.size w w1 := by rw [hw1]; exact below_new w _
  have hk1 : w1.heap[w.heap.size]? = some (.cells #[.int .i64 1, .string ⟨([120] : Bs).toArray⟩] 26 (0, 0)) := by rw [hw1]; exact heap_alloc_new w _
  have HB1 := Lib.hid hb1; have HW1 := Lib.hid hw1
  have HCb : Hid (∀ W, Below w1.heap.size w1 W → W.cell? ⟨w.heap.size, 0, none⟩ = some (.int .i64 1) ∧ W.cell? ⟨w.heap.size, 1, none⟩ = some (.string ⟨#[120]⟩)) := Lib.hid fun W hW => lookObj ((hW.block _ (lt_heap hk1)).trans hk1)
  clear hb1 hw1 hk1
  go_enter Tryz.func5, Tryz.ntmps5
  go_upto_region 2 with fail
  rw [← HW1.out]
  obtain ⟨b0, b1⟩ := HCb.out w1 (Below.refl _ _)
  go_wp2_with fail
  refine (HF.out.idB _).mono ?_
  rintro e w2 ⟨rfl, l9⟩
  have L2 := Lib.hid l9
  clear l9 b0 b1
  go_wp2_with fail
  refine (HF.out.put _).mono ?_
  rintro e w3 ⟨rfl, l9⟩
  have L3 := Lib.hid (L2.out.trans (((below_new w2 _).trans (l9.mono (by simp))).mono L2.out.size))
  clear l9 L2
  obtain ⟨w4, hw4⟩ : ∃ w4, w4 = w3.alloc (.cells #[.int .i64 2, .string ⟨td.toArray⟩] 26) := ⟨_, rfl⟩
  have hk4 : w4.heap[w3.heap.size]? = some (.cells #[.int .i64 2, .string ⟨td.toArray⟩] 26 (0, 0)) := by rw [hw4]; exact heap_alloc_new w3 _
  have L4 : Hid (Below w1.heap.size w1 w4) := Lib.hid (by rw [hw4]; exact L3.out.alloc L3.out.size _)
  have HCt : Hid (∀ W, Below w4.heap.size w4 W → W.cell? ⟨w3.heap.size, 0, none⟩ = some (.int .i64 2) ∧ W.cell? ⟨w3.heap.size, 1, none⟩ = some (.string ⟨td.toArray⟩)) := Lib.hid fun W hW => lookObj ((hW.block _ (lt_heap hk4)).trans hk4)
  have HCb4 : Hid (∀ W, Below w4.heap.size w4 W → W.cell? ⟨w.heap.size, 0, none⟩ = some (.int .i64 1) ∧ W.cell? ⟨w.heap.size, 1, none⟩ = some (.string ⟨#[120]⟩)) := Lib.hid fun W hW => HCb.out W (L4.out.trans (hW.mono L4.out.size))
  have HO4 : Hid (∀ W, Below w4.heap.size w4 W → Ob W) := Lib.hid fun W hW => ((HO.out.below HB1.out).below L4.out).below hW
  have HW4 := Lib.hid hw4
  have HB4 := Lib.hid (HB1.out.trans (L4.out.mono HB1.out.size))
  clear hk4 hw4 L3 L4 HCb HB1 HO HW1
  go_upto_region 4 with fail
  rw [← HW4.out]
  obtain ⟨b0, b1⟩ := HCb4.out w4 (Below.refl _ _)
  obtain ⟨t0, t1⟩ := HCt.out w4 (Below.refl _ _)
  go_wp2_with fail
  refine (HF.out.set _ (HO4.out _ (Below.refl _ _))).mono ?_
  rintro e w5 ⟨Ar, cr, r, rfl, hr2, hrs, hrd, l9⟩
  have L5 := Lib.hid ((below_new w4 _).trans (l9.mono (by simp)))
  have HRd := Lib.hid hrd; have HRs := Lib.hid hrs
  clear l9 hr2 hrs hrd b0 b1 t0 t1
  have HRL : Hid (∀ W, Below w5.heap.size w5 W → HldsR W (.slice Ar 2 cr) r) := Lib.hid fun W hW => HRd.out.below hW (Nat.le_refl _)
  have HB5 := Lib.hid (HB4.out.trans (L5.out.mono HB4.out.size))
  have HCt5 : Hid (∀ W, Below w5.heap.size w5 W → W.cell? ⟨w3.heap.size, 0, none⟩ = some (.int .i64 2) ∧ W.cell? ⟨w3.heap.size, 1, none⟩ = some (.string ⟨td.toArray⟩)) := Lib.hid fun W hW => HCt.out W (L5.out.trans (hW.mono L5.out.size))
  have HCb5 : Hid (∀ W, Below w5.heap.size w5 W → W.cell? ⟨w.heap.size, 0, none⟩ = some (.int .i64 1) ∧ W.cell? ⟨w.heap.size, 1, none⟩ = some (.string ⟨#[120]⟩)) := Lib.hid fun W hW => HCb4.out W (L5.out.trans (hW.mono L5.out.size))
  have HO5 : Hid (∀ W, Below w5.heap.size w5 W → Ob W) := Lib.hid fun W hW => HO4.out W (L5.out.trans (hW.mono L5.out.size))
  clear HCt HCb4 HO4 HB4 L5 HRd HW4
  obtain ⟨t0, t1⟩ := HCt5.out w5 (Below.refl _ _)
  go_wp2_with fail
  refine (HF.out.idT _).mono ?_
  rintro e w6 ⟨rfl, l6⟩
  have L6 := Lib.hid l6
  clear l6 t0 t1
  go_wp2_with fail
  refine (HF.out.clo _ r _ (HO5.out _ L6.out) HRs.out (HRL.out _ L6.out)).mono ?_
  rintro e w7 ⟨Aa, ca, Ab, cb, a, rfl, ha2, hae, had, l9⟩
  have L7 := Lib.hid (L6.out.trans (((below_new w6 _).trans (l9.mono (by simp))).mono L6.out.size))
  have HA2 := Lib.hid ha2; have HAe := Lib.hid hae
  have HAd : Hid (∀ W, Below w7.heap.size w7 W → StrsR W (.slice Aa 2 ca) a) := Lib.hid fun W hW => had.below hW (Nat.le_refl _)
  have hl7 := L7.out.size
  have H7 : Hid (∀ W, Below w7.heap.size w7 W → Below w5.heap.size w5 W) := Lib.hid fun W hW => L7.out.trans (hW.mono L7.out.size)
  clear l9 ha2 hae had hl7 L6
  go_upto_region 6 with fail
  refine AnyK.start w7.heap.size w7 (by kernel_rfl) ?_
  have LD := Lib.hid (show Below w7.heap.size w7 w7.drew from (Below.refl _ _).drew)
  generalize w7.drew = wd at LD ⊢
  refine AnyK.take 0 (.slice Ar 2 cr) LD.out rfl (by kernel_rfl) (by kernel_rfl) (by kernel_rfl) (fun _ _ _ h => h) (by kernel_rfl) (fun W hW => by kernel_rfl) ?_
  refine AnyK.take 1 (.agg #[.int .i64 2, .string ⟨td.toArray⟩]) LD.out rfl (by kernel_rfl) (by kernel_rfl) (by kernel_rfl) (fun _ _ _ h => h) (by kernel_rfl) (fun W hW => y_load (sv := .pointer (some ⟨w3.heap.size, 0, none⟩)) rfl (by kernel_rfl) (l_obj W _ _ _ _ (HCt5.out W (H7.out W hW)).1 (HCt5.out W (H7.out W hW)).2)) ?_
  refine AnyK.take 5 (.agg #[.int .i64 2, .string ⟨td.toArray⟩]) LD.out rfl (by kernel_rfl) (by kernel_rfl) (by kernel_rfl) (fun _ _ _ h => h) (by kernel_rfl) (fun W hW => y_load (sv := .pointer (some ⟨w3.heap.size, 0, none⟩)) rfl (by kernel_rfl) (l_obj W _ _ _ _ (HCt5.out W (H7.out W hW)).1 (HCt5.out W (H7.out W hW)).2)) ?_
  refine AnyK.call 2 14 #[.agg #[.int .i64 2, .string ⟨td.toArray⟩]] (by kernel_rfl) rfl (by kernel_rfl) (by kernel_rfl) ((HF.out.idT wd).mono ?_)
  rintro e law ⟨rfl, l9⟩
  have LA := Lib.hid (LD.out.trans (l9.mono LD.out.size))
  clear l9
  refine ⟨_, rfl, LA.out, ?_⟩
  refine AnyK.op 3 (.slice (some ⟨law.heap.size, 0, none⟩) 1 1) (law.alloc (.cells #[.string ⟨tn.toArray⟩] 9)) (by kernel_rfl) rfl (by kernel_rfl) (y_build rfl (by kernel_rfl) (build1s law tn)) (LA.out.trans ((below_new law _).mono LA.out.size)) ?_
  refine AnyK.call 4 17 #[.slice Ar 2 cr, .slice (some ⟨law.heap.size, 0, none⟩) 1 1] (by kernel_rfl) rfl (by kernel_rfl) (by kernel_rfl) ((HF.out.pick law r _ HRs.out (HRL.out _ (H7.out _ LA.out))).mono ?_)
  rintro e wp ⟨Ap, np, cp, rfl, hpd, l9⟩
  have LP := Lib.hid (LA.out.trans (((below_new law _).trans (l9.mono (by simp))).mono LA.out.size))
  have HPd := Lib.hid hpd
  clear l9 hpd
  refine ⟨_, rfl, LP.out, ?_⟩
  refine AnyK.call 6 14 #[.agg #[.int .i64 2, .string ⟨td.toArray⟩]] (by kernel_rfl) rfl (by kernel_rfl) (by kernel_rfl) ((HF.out.idT wp).mono ?_)
  rintro e lqw ⟨rfl, l9⟩
  have LQ := Lib.hid (LP.out.trans (l9.mono LP.out.size))
  have HPd2 := Lib.hid (HPd.out.below l9 (Nat.le_refl _))
  clear l9
  refine ⟨_, rfl, LQ.out, ?_⟩
  refine AnyK.op 7 (.slice (some ⟨lqw.heap.size, 0, none⟩) 1 1) (lqw.alloc (.cells #[.string ⟨tn.toArray⟩] 9)) (by kernel_rfl) rfl (by kernel_rfl) (y_build rfl (by kernel_rfl) (build1s lqw tn)) (LQ.out.trans ((below_new lqw _).mono LQ.out.size)) ?_
  refine AnyK.call 8 16 #[.slice Ap np cp, .slice (some ⟨lqw.heap.size, 0, none⟩) 1 1] (by kernel_rfl) rfl (by kernel_rfl) (by kernel_rfl) ((HF.out.clo2 lqw r _ (HO5.out _ (H7.out _ LQ.out)) HRs.out HPd2.out).mono ?_)
  rintro e w8 ⟨Au, cu, gv, ov, cv, rfl, hv0, l9⟩
  have L8 := Lib.hid (LQ.out.trans (((below_new lqw _).trans (l9.mono (by simp))).mono LQ.out.size))
  have HV0 := Lib.hid hv0
  clear l9 hv0
  refine ⟨_, rfl, L8.out, ?_⟩
  refine AnyK.take 9 (.tuple #[.slice Au 1 cu, .slice (some ⟨gv, ov, none⟩) 1 cv]) L8.out rfl (by kernel_rfl) (by kernel_rfl) (by kernel_rfl) (fun _ _ _ h => h) (by kernel_rfl) (fun W hW => by kernel_rfl) ?_
  refine AnyK.take 10 (.slice Au 1 cu) L8.out rfl (by kernel_rfl) (by kernel_rfl) (by kernel_rfl) (fun _ _ _ h => h) (by kernel_rfl) (fun W hW => by kernel_rfl) ?_
  refine AnyK.take 11 (.slice (some ⟨gv, ov, none⟩) 1 cv) L8.out rfl (by kernel_rfl) (by kernel_rfl) (by kernel_rfl) (fun _ _ _ h => h) (by kernel_rfl) (fun W hW => by kernel_rfl) ?_
  refine AnyK.take 12 (.slice Au 1 cu) L8.out rfl (by kernel_rfl) (by kernel_rfl) (by kernel_rfl) (fun _ _ _ h => h) (by kernel_rfl) (fun W hW => by kernel_rfl) ?_
  refine AnyK.take 13 (.slice (some ⟨gv, ov, none⟩) 1 cv) L8.out rfl (by kernel_rfl) (by kernel_rfl) (by kernel_rfl) (fun _ _ _ h => h) (by kernel_rfl) (fun W hW => by kernel_rfl) ?_
  refine AnyK.done _ (by kernel_rfl) ?_
  go_simp
  have HV8 : Hid (∀ W, Below w8.heap.size w8 W → W.cell? ⟨gv, ov, none⟩ = some (.string ⟨bn.toArray⟩)) := Lib.hid fun W hW => cell_to HV0.out hW
  have H8 : Hid (∀ W, Below w8.heap.size w8 W → Below w5.heap.size w5 W) := Lib.hid fun W hW => H7.out W (L8.out.trans (hW.mono L8.out.size))
  have HA8 : Hid (∀ W, Below w8.heap.size w8 W → StrsR W (.slice Aa 2 ca) a) := Lib.hid fun W hW => HAd.out W (L8.out.trans (hW.mono L8.out.size))
  obtain ⟨b0, b1⟩ := HCb5.out w8 (H8.out w8 (Below.refl _ _))
  clear LD LA LP LQ HPd HPd2 HV0 H7 HAd
  go_wp2_with fail
  refine (HF.out.idB _).mono ?_
  rintro e w9 ⟨rfl, l9⟩
  have L9 := Lib.hid l9
  clear l9
  go_wp2_with fail
  refine (HF.out.find _ r _ HRs.out (HRL.out _ (H8.out _ L9.out))).mono ?_
  rintro e wf ⟨rfl, l9⟩
  obtain ⟨w10, hw10⟩ : ∃ w10, w10 = wf.alloc (.cells #[.int .i64 1, .string ⟨#[120]⟩] 26) := ⟨_, rfl⟩
  have hk10 : w10.heap[wf.heap.size]? = some (.cells #[.int .i64 1, .string ⟨([120] : Bs).toArray⟩] 26 (0, 0)) := by rw [hw10]; exact heap_alloc_new wf _
  have l10 : Below w8.heap.size w8 w10 := by rw [hw10]; exact (L9.out.trans (l9.mono L9.out.size)).alloc (L9.out.trans (l9.mono L9.out.size)).size _
  have L10 := Lib.hid l10
  have HCo : Hid (∀ W, Below w10.heap.size w10 W → W.cell? ⟨wf.heap.size, 0, none⟩ = some (.int .i64 1) ∧ W.cell? ⟨wf.heap.size, 1, none⟩ = some (.string ⟨#[120]⟩)) := Lib.hid fun W hW => lookObj ((hW.block _ (lt_heap hk10)).trans hk10)
  have HV10 : Hid (∀ W, Below w10.heap.size w10 W → W.cell? ⟨gv, ov, none⟩ = some (.string ⟨bn.toArray⟩)) := Lib.hid fun W hW => HV8.out W (L10.out.trans (hW.mono L10.out.size))
  have HA10 : Hid (∀ W, Below w10.heap.size w10 W → StrsR W (.slice Aa 2 ca) a) := Lib.hid fun W hW => HA8.out W (L10.out.trans (hW.mono L10.out.size))
  have H10 : Hid (∀ W, Below w10.heap.size w10 W → Below w5.heap.size w5 W) := Lib.hid fun W hW => H8.out W (L10.out.trans (hW.mono L10.out.size))
  have HW10 := Lib.hid hw10
  clear l9 hw10 hk10 l10 L9 HV8 HA8 H8 b0 b1
  go_upto_region 8 with fail
  rw [← HW10.out]
  refine AnyK.start w10.heap.size w10 (by kernel_rfl) ?_
  have LD := Lib.hid (show Below w10.heap.size w10 w10.drew from (Below.refl _ _).drew)
  generalize w10.drew = wd at LD ⊢
  refine AnyK.take 0 (.slice Ar 2 cr) LD.out rfl (by kernel_rfl) (by kernel_rfl) (by kernel_rfl) (fun _ _ _ h => h) (by kernel_rfl) (fun W hW => by kernel_rfl) ?_
  refine AnyK.take 1 (.int .i64 2) LD.out rfl (by kernel_rfl) (by kernel_rfl) (by kernel_rfl) (fun _ _ _ h => h) (by kernel_rfl) (fun W hW => by kernel_rfl) ?_
  refine AnyK.take 2 (.bool true) LD.out rfl (by kernel_rfl) (by kernel_rfl) (by kernel_rfl) (fun _ _ _ h => h) (by kernel_rfl) (fun W hW => by kernel_rfl) ?_
  refine AnyK.take 3 (.bool true) LD.out rfl (by kernel_rfl) (by kernel_rfl) (by kernel_rfl) (fun _ _ _ h => h) (by kernel_rfl) (fun W hW => by kernel_rfl) ?_
  refine AnyK.take 4 (.slice Aa 2 ca) LD.out rfl (by kernel_rfl) (by kernel_rfl) (by kernel_rfl) (fun _ _ _ h => h) (by kernel_rfl) (fun W hW => by kernel_rfl) ?_
  refine AnyK.take 5 (.int .i64 2) LD.out rfl (by kernel_rfl) (by kernel_rfl) (by kernel_rfl) (fun _ _ _ h => h) (by kernel_rfl) (fun W hW => by kernel_rfl) ?_
  refine AnyK.take 6 (.bool true) LD.out rfl (by kernel_rfl) (by kernel_rfl) (by kernel_rfl) (fun _ _ _ h => h) (by kernel_rfl) (fun W hW => by kernel_rfl) ?_
  refine AnyK.take 7 (.bool true) LD.out rfl (by kernel_rfl) (by kernel_rfl) (by kernel_rfl) (fun _ _ _ h => h) (by kernel_rfl) (fun W hW => by kernel_rfl) ?_
  refine AnyK.take 8 (.bool true) LD.out rfl (by kernel_rfl) (by kernel_rfl) (by kernel_rfl) (fun _ _ _ h => h) (by kernel_rfl) (fun W hW => by kernel_rfl) ?_
  refine AnyK.take 9 (.slice Ab 0 cb) LD.out rfl (by kernel_rfl) (by kernel_rfl) (by kernel_rfl) (fun _ _ _ h => h) (by kernel_rfl) (fun W hW => by kernel_rfl) ?_
  refine AnyK.take 10 (.int .i64 0) LD.out rfl (by kernel_rfl) (by kernel_rfl) (by kernel_rfl) (fun _ _ _ h => h) (by kernel_rfl) (fun W hW => by kernel_rfl) ?_
  refine AnyK.take 11 (.bool true) LD.out rfl (by kernel_rfl) (by kernel_rfl) (by kernel_rfl) (fun _ _ _ h => h) (by kernel_rfl) (fun W hW => by kernel_rfl) ?_
  refine AnyK.take 12 (.bool true) LD.out rfl (by kernel_rfl) (by kernel_rfl) (by kernel_rfl) (fun _ _ _ h => h) (by kernel_rfl) (fun W hW => by kernel_rfl) ?_
  refine AnyK.take 13 (.bool true) LD.out rfl (by kernel_rfl) (by kernel_rfl) (by kernel_rfl) (fun _ _ _ h => h) (by kernel_rfl) (fun W hW => by kernel_rfl) ?_
  refine AnyK.take 14 (.slice Au 1 cu) LD.out rfl (by kernel_rfl) (by kernel_rfl) (by kernel_rfl) (fun _ _ _ h => h) (by kernel_rfl) (fun W hW => by kernel_rfl) ?_
  refine AnyK.take 15 (.int .i64 1) LD.out rfl (by kernel_rfl) (by kernel_rfl) (by kernel_rfl) (fun _ _ _ h => h) (by kernel_rfl) (fun W hW => by kernel_rfl) ?_
  refine AnyK.take 16 (.bool true) LD.out rfl (by kernel_rfl) (by kernel_rfl) (by kernel_rfl) (fun _ _ _ h => h) (by kernel_rfl) (fun W hW => by kernel_rfl) ?_
  refine AnyK.take 17 (.bool true) LD.out rfl (by kernel_rfl) (by kernel_rfl) (by kernel_rfl) (fun _ _ _ h => h) (by kernel_rfl) (fun W hW => by kernel_rfl) ?_
  refine AnyK.take 18 (.bool true) LD.out rfl (by kernel_rfl) (by kernel_rfl) (by kernel_rfl) (fun _ _ _ h => h) (by kernel_rfl) (fun W hW => by kernel_rfl) ?_
  refine AnyK.take 19 (.slice (some ⟨gv, ov, none⟩) 1 cv) LD.out rfl (by kernel_rfl) (by kernel_rfl) (by kernel_rfl) (fun _ _ _ h => h) (by kernel_rfl) (fun W hW => by kernel_rfl) ?_
  refine AnyK.take 20 (.int .i64 1) LD.out rfl (by kernel_rfl) (by kernel_rfl) (by kernel_rfl) (fun _ _ _ h => h) (by kernel_rfl) (fun W hW => by kernel_rfl) ?_
  refine AnyK.take 21 (.bool true) LD.out rfl (by kernel_rfl) (by kernel_rfl) (by kernel_rfl) (fun _ _ _ h => h) (by kernel_rfl) (fun W hW => by kernel_rfl) ?_
  refine AnyK.take 22 (.bool true) LD.out rfl (by kernel_rfl) (by kernel_rfl) (by kernel_rfl) (fun _ _ _ h => h) (by kernel_rfl) (fun W hW => by kernel_rfl) ?_
  refine AnyK.take 23 (.bool true) LD.out rfl (by kernel_rfl) (by kernel_rfl) (by kernel_rfl) (fun _ _ _ h => h) (by kernel_rfl) (fun W hW => by kernel_rfl) ?_
  refine AnyK.take 24 (.slice (some ⟨gv, ov, none⟩) 1 cv) LD.out rfl (by kernel_rfl) (by kernel_rfl) (by kernel_rfl) (fun _ _ _ h => h) (by kernel_rfl) (fun W hW => by kernel_rfl) ?_
  refine AnyK.take 25 (.pointer (some ⟨gv, ov + 0, none⟩)) LD.out rfl (by kernel_rfl) (by kernel_rfl) (by kernel_rfl) (fun _ _ _ h => h) (by kernel_rfl) (fun W hW => y_index (sv := .slice (some ⟨gv, ov, none⟩) 1 cv) (iv := .int .i64 0) rfl (by kernel_rfl) (by kernel_rfl) (at_str W gv ov 1 cv 0 (by omega))) ?_
  refine AnyK.take 26 (.string ⟨bn.toArray⟩) LD.out rfl (by kernel_rfl) (by kernel_rfl) (by kernel_rfl) (fun _ _ _ h => h) (by kernel_rfl) (fun W hW => y_load (sv := .pointer (some ⟨gv, ov + 0, none⟩)) rfl (by kernel_rfl) (l_str W _ _ _ (HV10.out W hW))) ?_
  refine AnyK.take 27 (.agg #[.int .i64 1, .string ⟨#[120]⟩]) LD.out rfl (by kernel_rfl) (by kernel_rfl) (by kernel_rfl) (fun _ _ _ h => h) (by kernel_rfl) (fun W hW => y_load (sv := .pointer (some ⟨w.heap.size, 0, none⟩)) rfl (by kernel_rfl) (l_obj W _ _ _ _ (HCb5.out W (H10.out W hW)).1 (HCb5.out W (H10.out W hW)).2)) ?_
  refine AnyK.call 28 14 #[.agg #[.int .i64 1, .string ⟨#[120]⟩]] (by kernel_rfl) rfl (by kernel_rfl) (by kernel_rfl) ((HF.out.idB wd).mono ?_)
  rintro e lew ⟨rfl, l9⟩
  have LE := Lib.hid (LD.out.trans (l9.mono LD.out.size))
  clear l9
  refine ⟨_, rfl, LE.out, ?_⟩
  refine AnyK.take 29 (.bool true) LE.out rfl (by kernel_rfl) (by kernel_rfl) (by kernel_rfl) (fun _ _ _ h => h) (by kernel_rfl) (fun W hW => y_bin (x := .string ⟨bn.toArray⟩) (y := .string ⟨bn.toArray⟩) rfl (by kernel_rfl) (by kernel_rfl) rfl (e_strH W _)) ?_
  refine AnyK.take 30 (.bool true) LE.out rfl (by kernel_rfl) (by kernel_rfl) (by kernel_rfl) (fun _ _ _ h => h) (by kernel_rfl) (fun W hW => by kernel_rfl) ?_
  refine AnyK.take 31 (.bool true) LE.out rfl (by kernel_rfl) (by kernel_rfl) (by kernel_rfl) (fun _ _ _ h => h) (by kernel_rfl) (fun W hW => by kernel_rfl) ?_
  refine AnyK.take 32 (.bool true) LE.out rfl (by kernel_rfl) (by kernel_rfl) (by kernel_rfl) (fun _ _ _ h => h) (by kernel_rfl) (fun W hW => by kernel_rfl) ?_
  refine AnyK.take 33 (.bool true) LE.out rfl (by kernel_rfl) (by kernel_rfl) (by kernel_rfl) (fun _ _ _ h => h) (by kernel_rfl) (fun W hW => by kernel_rfl) ?_
  refine AnyK.take 34 (.bool true) LE.out rfl (by kernel_rfl) (by kernel_rfl) (by kernel_rfl) (fun _ _ _ h => h) (by kernel_rfl) (fun W hW => by kernel_rfl) ?_
  refine AnyK.take 35 (.agg #[.int .i64 1, .string ⟨#[120]⟩]) LE.out rfl (by kernel_rfl) (by kernel_rfl) (by kernel_rfl) (fun _ _ _ h => h) (by kernel_rfl) (fun W hW => y_load (sv := .pointer (some ⟨wf.heap.size, 0, none⟩)) rfl (by kernel_rfl) (l_obj W _ _ _ _ (HCo.out W hW).1 (HCo.out W hW).2)) ?_
  refine AnyK.take 36 (.agg #[.int .i64 1, .string ⟨#[120]⟩]) LE.out rfl (by kernel_rfl) (by kernel_rfl) (by kernel_rfl) (fun _ _ _ h => h) (by kernel_rfl) (fun W hW => y_load (sv := .pointer (some ⟨w.heap.size, 0, none⟩)) rfl (by kernel_rfl) (l_obj W _ _ _ _ (HCb5.out W (H10.out W hW)).1 (HCb5.out W (H10.out W hW)).2)) ?_
  refine AnyK.take 37 (.bool true) LE.out rfl (by kernel_rfl) (by kernel_rfl) (by kernel_rfl) (fun _ _ _ h => h) (by kernel_rfl) (fun W hW => by kernel_rfl) ?_
  refine AnyK.take 38 (.bool true) LE.out rfl (by kernel_rfl) (by kernel_rfl) (by kernel_rfl) (fun _ _ _ h => h) (by kernel_rfl) (fun W hW => by kernel_rfl) ?_
  refine AnyK.take 39 (.bool true) LE.out rfl (by kernel_rfl) (by kernel_rfl) (by kernel_rfl) (fun _ _ _ h => h) (by kernel_rfl) (fun W hW => by kernel_rfl) ?_
  refine AnyK.take 40 (.slice Ar 2 cr) LE.out rfl (by kernel_rfl) (by kernel_rfl) (by kernel_rfl) (fun _ _ _ h => h) (by kernel_rfl) (fun W hW => by kernel_rfl) ?_
  refine AnyK.take 41 (.slice Aa 2 ca) LE.out rfl (by kernel_rfl) (by kernel_rfl) (by kernel_rfl) (fun _ _ _ h => h) (by kernel_rfl) (fun W hW => by kernel_rfl) ?_
  refine AnyK.call 42 18 #[.slice Ar 2 cr, .slice Aa 2 ca] (by kernel_rfl) rfl (by kernel_rfl) (by kernel_rfl) ((HF.out.sou lew r _ a _ (HO5.out _ (H10.out _ LE.out)) HRs.out (HRL.out _ (H10.out _ LE.out)) (HA10.out _ LE.out) HA2.out HAe.out).mono ?_)
  rintro e lfw ⟨rfl, l9⟩
  have LF := Lib.hid (LE.out.trans (l9.mono LE.out.size))
  clear l9
  refine ⟨_, rfl, LF.out, ?_⟩
  refine AnyK.take 43 (.bool true) LF.out rfl (by kernel_rfl) (by kernel_rfl) (by kernel_rfl) (fun _ _ _ h => h) (by kernel_rfl) (fun W hW => by kernel_rfl) ?_
  refine AnyK.take 44 (.bool true) LF.out rfl (by kernel_rfl) (by kernel_rfl) (by kernel_rfl) (fun _ _ _ h => h) (by kernel_rfl) (fun W hW => by kernel_rfl) ?_
  refine AnyK.take 45 (.bool true) LF.out rfl (by kernel_rfl) (by kernel_rfl) (by kernel_rfl) (fun _ _ _ h => h) (by kernel_rfl) (fun W hW => by kernel_rfl) ?_
  refine AnyK.take 46 (.slice Aa 2 ca) LF.out rfl (by kernel_rfl) (by kernel_rfl) (by kernel_rfl) (fun _ _ _ h => h) (by kernel_rfl) (fun W hW => by kernel_rfl) ?_
  refine AnyK.call 47 18 #[.slice none 0 0, .slice Aa 2 ca] (by kernel_rfl) rfl (by kernel_rfl) (by kernel_rfl) ((HF.out.sou2 lfw a _ (HO5.out _ (H10.out _ LF.out)) (HA10.out _ LF.out) HA2.out HAe.out).mono ?_)
  rintro e lgw ⟨rfl, l9⟩
  have LG := Lib.hid (LF.out.trans (l9.mono LF.out.size))
  clear l9
  refine ⟨_, rfl, LG.out, ?_⟩
  refine AnyK.take 48 (.bool true) LG.out rfl (by kernel_rfl) (by kernel_rfl) (by kernel_rfl) (fun _ _ _ h => h) (by kernel_rfl) (fun W hW => by kernel_rfl) ?_
  refine AnyK.take 49 (.bool true) LG.out rfl (by kernel_rfl) (by kernel_rfl) (by kernel_rfl) (fun _ _ _ h => h) (by kernel_rfl) (fun W hW => by kernel_rfl) ?_
  refine AnyK.take 50 (.bool true) LG.out rfl (by kernel_rfl) (by kernel_rfl) (by kernel_rfl) (fun _ _ _ h => h) (by kernel_rfl) (fun W hW => by kernel_rfl) ?_
  refine AnyK.take 51 (.slice Ar 2 cr) LG.out rfl (by kernel_rfl) (by kernel_rfl) (by kernel_rfl) (fun _ _ _ h => h) (by kernel_rfl) (fun W hW => by kernel_rfl) ?_
  refine AnyK.take 52 (.slice Ar 2 cr) LG.out rfl (by kernel_rfl) (by kernel_rfl) (by kernel_rfl) (fun _ _ _ h => h) (by kernel_rfl) (fun W hW => by kernel_rfl) ?_
  refine AnyK.call 53 10 #[.slice Ar 2 cr, .slice Ar 2 cr] (by kernel_rfl) rfl (by kernel_rfl) (by kernel_rfl) ((HF.out.join lgw r _ HRs.out (HRL.out _ (H10.out _ LG.out))).mono ?_)
  rintro e wj ⟨Aj, cj, rfl, l9⟩
  have LJ := Lib.hid (LG.out.trans (l9.mono LG.out.size))
  clear l9
  refine ⟨_, rfl, LJ.out, ?_⟩
  refine AnyK.take 54 (.int .i64 2) LJ.out rfl (by kernel_rfl) (by kernel_rfl) (by kernel_rfl) (fun _ _ _ h => h) (by kernel_rfl) (fun W hW => by kernel_rfl) ?_
  refine AnyK.take 55 (.bool true) LJ.out rfl (by kernel_rfl) (by kernel_rfl) (by kernel_rfl) (fun _ _ _ h => h) (by kernel_rfl) (fun W hW => by kernel_rfl) ?_
  refine AnyK.take 56 (.bool true) LJ.out rfl (by kernel_rfl) (by kernel_rfl) (by kernel_rfl) (fun _ _ _ h => h) (by kernel_rfl) (fun W hW => by kernel_rfl) ?_
  refine AnyK.take 57 (.bool true) LJ.out rfl (by kernel_rfl) (by kernel_rfl) (by kernel_rfl) (fun _ _ _ h => h) (by kernel_rfl) (fun W hW => by kernel_rfl) ?_
  refine AnyK.done _ (by kernel_rfl) ?_
  go_simp
  have HE := Lib.hid (HB5.out.trans ((H10.out _ LJ.out).mono HB5.out.size))
  go_wp2_with fail
  go_ret
  exact ⟨rfl, HE.out⟩
end Go.Proofs.YthbmaloajgkhmaaGreatDoor


namespace Go.Proofs.YthbmaloajgkhmaaGreatDoor
open Go Go.RowKit Go.Maps

theorem small_len {l : List Hld} (h : SmallH l) : l.length ≤ 100000 := by have := h.1; omega
theorem dec_same {α : Type} [DecidableEq α] {r r' : List α} (h : r = r') : decide (r = r') = true := decide_eq_true h
set_option maxHeartbeats 16000000 in
set_option maxRecDepth 100000 in
theorem Sets_law (w : World) (ho : Ob w) {v va vb : Value} {ob : List (Int × Bs)} {a b : List Hld} (h : ObjsR w v ob) (hl : ob.length ≤ limW) (h1 : HldsR w va a) (hl1 : a.length ≤ limW) (h2 : HldsR w vb b) (hl2 : b.length ≤ limW) :
    Calls Tryz.prog 3 #[v, va, vb] w (RetBelow (.bool true) w) := by
  obtain ⟨A, c, rfl⟩ := h.shape
  obtain ⟨Aa, ca, rfl⟩ := h1.shape
  obtain ⟨Ab, cb, rfl⟩ := h2.shape
  obtain ⟨N, hN⟩ : ∃ N, N = ob.length := ⟨_, rfl⟩
  have hNl : N ≤ 140737488355328 := by unfold limW at hl; omega
  rw [← hN] at h ⊢
  have HH := Lib.hid (head_any ho); have HOb := Lib.hid ho; have HO := Lib.hid h; have Ha := Lib.hid h1; have Hb := Lib.hid h2; have HN := Lib.hid hN; have Hl1 := Lib.hid hl1; have Hl2 := Lib.hid hl2
  clear h h1 h2 hl hl1 hl2 ho hN
  go_enter Tryz.func3, Tryz.ntmps3
  go_wp2_with fail
  refine HH.out.mono ?_
  rintro e w1 ⟨rfl, l9⟩
  have L1 := Lib.hid l9
  clear l9
  go_wp2_with fail
  go_loopw [8, 9] (fun nv iv wr => Hid (Below w.heap.size w wr) ∧ ∃ k m : Nat, k ≤ N ∧ m ≤ N + 20000 ∧ iv = .int .i64 k ∧ nv = .int .i64 m ∧ Hid (∀ x ∈ ob.take k, min x.2.length 9000 ≤ m)) (fun _ iv _ => N - (intOf iv).toNat)
  case atStart => exact ⟨L1, 0, N, Nat.zero_le _, by omega, rfl, rfl, Lib.hid (fun x hx => by simp at hx)⟩
  case round =>
    obtain ⟨hB, k, m, hk, hm, rfl, rfl, hS⟩ := hrel
    by_cases hm9 : m < 9000
    · by_cases hlt : k < N
      · obtain ⟨g, o, c', e, _, hg⟩ := HO.out.pos (by have := HN.out; omega)
        obtain rfl : A = some ⟨g, o, none⟩ := by rw [← HN.out] at e; cases e; rfl
        clear e
        have hkl : k < ob.length := by have := HN.out; omega
        obtain ⟨c0, c1⟩ := ObjsR.cells (HO.out.below hB.out (Nat.le_refl _)) k hkl
        have hsn := take_getD ob (0, []) k hkl
        obtain ⟨d, hd⟩ : ∃ d, d = (ob.getD k (0, [])).2 := ⟨_, rfl⟩
        rw [← hd] at c1
        unfold SV at c1
        obtain ⟨m2, hm2⟩ : ∃ m2, m2 = m + min d.length 9000 := ⟨_, rfl⟩
        have HS2 : Hid (∀ x ∈ ob.take (k + 1), min x.2.length 9000 ≤ m2) := Lib.hid (by
          rw [hsn]
          intro x hx
          rcases List.mem_append.1 hx with hx | hx
          · have := hS.out x hx; omega
          · rw [List.mem_singleton.1 hx, ← hd]; omega)
        have t1 : IntKind.i64.wrap ((m : Int) + min (d.length : Int) 9000) = (m2 : Int) := by rw [show ((m : Int) + min (d.length : Int) 9000) = (m2 : Int) by omega]; exact IntWalk.i64_in _ (by omega)
        have t2 : (m : Int) + min (d.length : Int) 9000 = (m2 : Int) := by omega
        have hm2b : m2 ≤ N + 20000 := by omega
        have hmI : (m : Int) < 9000 := by omega
        have T2 := Lib.hid t2
        clear t2 hsn hd hm2 hg hkl c0 hS
        go_wp2_with fail
        go_roundw
        case rel => exact ⟨hB, k + 1, m2, hlt, hm2b, by go_num, by first | rfl | (rw [T2.out]) | go_num, HS2⟩
        case measure => simp [intOf]; omega
      have hSm : ∀ x ∈ ob, x.2.length < 9000 := fun x hx => by
        have h := hS.out x (by rw [show k = N by omega, HN.out, List.take_length]; exact hx)
        omega
      have HSm := Lib.hid hSm
      have hmI : (m : Int) < 9000 := by omega
      have hmI2 : ¬ (9000 : Int) ≤ (m : Int) := by omega
      have hkI : ¬ (k : Int) < (N : Int) := by omega
      have HB5 := Lib.hid hB.out
      clear hS hSm hB hm9
      by_cases hN6 : 60 < N
      · have hNI : (60 : Int) < (N : Int) := by omega
        go_wp2_with fail
        go_ret
        exact ⟨rfl, HB5.out⟩
      have hNI : ¬ (60 : Int) < (N : Int) := by omega
      have hN60 : N ≤ 60 := by omega
      clear hN6
      go_wp2_with fail
      refine (Great_any (Ha.out.below HB5.out (Nat.le_refl _)) Hl1.out).mono ?_
      rintro e w2 ⟨gr, rfl, l9, hg⟩
      have L2 := Lib.hid (HB5.out.trans (l9.mono HB5.out.size))
      clear l9
      cases gr with
      | true =>
        clear hg
        go_wp2_with fail
        go_ret
        exact ⟨rfl, L2.out⟩
      | false =>
      have HG2 := Lib.hid (hg rfl)
      clear hg
      go_wp2_with fail
      refine (Great_any (Hb.out.below L2.out (Nat.le_refl _)) Hl2.out).mono ?_
      rintro e w3 ⟨gr, rfl, l9, hg⟩
      have L3 := Lib.hid (L2.out.trans (l9.mono L2.out.size))
      clear l9
      cases gr with
      | true =>
        clear hg
        go_wp2_with fail
        go_ret
        exact ⟨rfl, L3.out⟩
      | false =>
      have HG3 := Lib.hid (hg rfl)
      clear hg
      have HSet := Lib.hid (Set_any (w := w3) (HO.out.below L3.out (Nat.le_refl _)) (HOb.out.below L3.out) (by have := HN.out; omega) (fun x hx => by have := HSm.out x hx; omega) fun B v' w' hn => sort_any hn (by have := setL_len ob; have := HN.out; omega))
      go_wp2_with fail
      refine HSet.out.mono ?_
      rintro e w4 ⟨u4, r4, rfl, s4, k4, n4, b4⟩
      obtain ⟨A4, c4, rfl⟩ := own_slice n4
      have L4 := Lib.hid (L3.out.trans (b4.mono L3.out.size)); have HS4 := Lib.hid s4; have HR4 := Lib.hid (n4.rd)
      have HK4 : Hid (r4.length ≤ 1000000) := Lib.hid (by have := setL_len ob; have := HN.out; omega)
      clear s4 k4 n4 b4 HSet
      have HRS := Lib.hid (Ct.Set_p (w := w4) (HO.out.below L4.out (Nat.le_refl _)) (by have := HN.out; omega) (fun x hx => by have := HSm.out x hx; omega))
      go_wp2_with fail
      refine HRS.out.mono ?_
      rintro e w5 ⟨u5, r5, rfl, h5, s5, k5, b5⟩
      have L5 := Lib.hid (L4.out.trans (b5.mono L4.out.size))
      have hsm := Same_any (HR4.out.below b5 (Nat.le_refl _)) h5 HK4.out
      rw [dec_same (HS4.out.unique s5)] at hsm
      obtain ⟨A5, c5, rfl⟩ := h5.shape
      have HSame := Lib.hid hsm
      clear h5 s5 k5 b5 hsm HRS HS4 HR4
      go_wp2_with fail
      refine HSame.out.mono ?_
      rintro e w6 ⟨rfl, b6⟩
      have L6 := Lib.hid (L5.out.trans (b6.mono L5.out.size))
      clear b6 HSame
      have HJn := Lib.hid (Join_any (w := w6) (Ha.out.below L6.out (Nat.le_refl _)) (Hb.out.below L6.out (Nat.le_refl _)) (small_len HG2.out) (small_len HG3.out) fun B v' w' hn => sort_any hn (by rw [List.length_append]; have := small_len HG2.out; have := small_len HG3.out; omega))
      go_wp2_with fail
      refine HJn.out.mono ?_
      rintro e w7 ⟨u7, r7, rfl, s7, k7, n7, b7⟩
      obtain ⟨A7, c7, rfl⟩ := own_slice n7
      have L7 := Lib.hid (L6.out.trans (b7.mono L6.out.size)); have HS7 := Lib.hid s7; have HR7 := Lib.hid (n7.rd)
      have HK7 : Hid (r7.length ≤ 1000000) := Lib.hid (by rw [List.length_append] at k7; have := small_len HG2.out; have := small_len HG3.out; omega)
      clear s7 k7 n7 b7 HJn
      have HRJ := Lib.hid (Ct.Join_p (w := w7) (Ha.out.below L7.out (Nat.le_refl _)) (Hb.out.below L7.out (Nat.le_refl _)) (small_len HG2.out) (small_len HG3.out))
      go_wp2_with fail
      refine HRJ.out.mono ?_
      rintro e w8 ⟨u8, r8, rfl, h8, s8, k8, b8⟩
      have L8 := Lib.hid (L7.out.trans (b8.mono L7.out.size))
      have hsm := Same_any (HR7.out.below b8 (Nat.le_refl _)) h8 HK7.out
      rw [dec_same (HS7.out.unique s8)] at hsm
      obtain ⟨A8, c8, rfl⟩ := h8.shape
      have HSame := Lib.hid hsm
      clear h8 s8 k8 b8 hsm HRJ HS7 HR7
      go_wp2_with fail
      refine HSame.out.mono ?_
      rintro e w9 ⟨rfl, b9⟩
      have L9 := Lib.hid (L8.out.trans (b9.mono L8.out.size))
      clear b9 HSame
      go_wp2_with fail
      go_ret
      exact ⟨rfl, L9.out⟩
    · have hmI : ¬ (m : Int) < 9000 := by omega
      have hmI2 : (9000 : Int) ≤ (m : Int) := by omega
      have HB5 := Lib.hid hB.out
      clear hS hB hm9
      by_cases hlt : k < N
      · have hkI : (k : Int) < (N : Int) := by omega
        go_wp2_with fail
        go_ret
        exact ⟨rfl, HB5.out⟩
      · have hkI : ¬ (k : Int) < (N : Int) := by omega
        go_wp2_with fail
        go_ret
        exact ⟨rfl, HB5.out⟩
end Go.Proofs.YthbmaloajgkhmaaGreatDoor


namespace Go.Proofs.YthbmaloajgkhmaaGreatDoor
open Go Go.RowKit Go.Deep

theorem add_at (b off k : Nat) : (⟨b, off, none⟩ : Addr).add k = ⟨b, off + k, none⟩ := by
  unfold Addr.add; split <;> simp_all

section
variable {H : Type} {enc : TypeId × Value → H} {W : World} {base : Nat} {held : Bool}

/-- What came in is no greater than a reach. -/
def Fits (t : TypeId) (d : DataW H) : Prop := ∀ n ∈ d.weights Tryz.prog t, n ≤ reachBytes
theorem Fits.slice {t e : TypeId} {el sp : List (DataW H)} (h : Fits t (.slice el sp)) (hu : Tryz.prog.underlying t = some (.slice e)) : (el.length + sp.length) * Tryz.prog.bytesOf e ≤ reachBytes := h _ (by simp [DataW.weights, hu])
theorem mem_all {P : Program} {e : TypeId} {n : Nat} {d : DataW H} : ∀ {l : List (DataW H)}, d ∈ l → n ∈ d.weights P e → n ∈ DataW.weightsAll P e l
  | x :: l, hd, hn => by
    rw [DataW.weightsAll, List.mem_append]
    rcases List.mem_cons.1 hd with rfl | hd
    · exact .inl hn
    · exact .inr (mem_all hd hn)
theorem Fits.elem {t e : TypeId} {el sp : List (DataW H)} {d : DataW H} (h : Fits t (.slice el sp)) (hu : Tryz.prog.underlying t = some (.slice e)) (hd : d ∈ el) : Fits e d := fun n hn =>
  h _ (by simp only [DataW.weights, hu]; exact List.mem_cons_of_mem _ (List.mem_append_left _ (mem_all hd hn)))
theorem Fits.field {t : TypeId} {fs : Array Field} {xs : List (DataW H × List MemPlace)} {y : DataW H × List MemPlace} {i : Nat} {f : Field} (h : Fits t (.agg (xs.map (·.1)))) (hu : Tryz.prog.underlying t = some (.struct fs)) (hf : fs[i]? = some f) (hy : xs[i]? = some y) : Fits f.type y.1 := fun n hn =>
  h _ (by simp only [DataW.weights, hu]; exact DataW.weights_mem_each (j := i) (t := f.type) (d := y.1) (by simp [hf]) (by simp [hy]) n hn)

/-- A slice, opened. -/
theorem open_rd {α : Type} [Inhabited α] {t e : TypeId} {k fuel : Nat} {v : Value} {x : DataW H × List MemPlace} (f : α → List Value) (Q : α → Prop) (ht : Tryz.prog.underlying t = some (.slice e)) (hs : Tryz.prog.cellsOf e = k)
    (h : DataW.trod enc Tryz.prog W base (fun _ => true) held fuel t [v] = some x) (h0 : 0 < k) (hF : Fits t x.1) (hby : 0 < Tryz.prog.bytesOf e)
    (hel : ∀ b off n cs y, W.cells? base ⟨b, off, none⟩ k = some cs → DataW.trod enc Tryz.prog W base (fun _ => true) held n e cs = some y → Fits e y.1 → ∃ o, Q o ∧ ∀ i, i < k → W.cell? ⟨b, off + i, none⟩ = (f o)[i]?) :
    ∃ l : List α, l.length ≤ limW ∧ (∀ o ∈ l, Q o) ∧ RdK k f W v l := by
  rcases open_slice ht h with ⟨h0, _⟩ | ⟨a, len, cap, m, n, D, Pl, h0', hb, hl, hm, hmm, rfl, hx⟩
  · cases h0
    exact ⟨[], by simp, fun o ho => by simp at ho, .inl ⟨⟨_, _, rfl⟩, rfl⟩⟩
  · cases h0'
    have hlm : len ≤ m := by rw [hmm]; split <;> omega
    rw [hs] at hx
    by_cases hl0 : len = 0
    · subst hl0
      exact ⟨[], by simp, fun o ho => by simp at ho, .inl ⟨⟨_, _, rfl⟩, rfl⟩⟩
    have hsp : a.spot = none := by
      obtain ⟨cs, h1, _⟩ := hx 0 (by omega)
      obtain ⟨_, h3, h4⟩ := World.cells?_some h1
      have hc0 := h4 0 h0
      rw [List.getElem?_eq_getElem (by omega)] at hc0
      have hsp := World.cell?_spot hc0
      simpa [Addr.add] using hsp
    obtain ⟨b, off, sp⟩ := a
    cases hsp
    have each : ∀ i, i < len → ∃ o, Q o ∧ ∀ j, j < k → W.cell? ⟨b, off + i * k + j, none⟩ = (f o)[j]? := fun i hi => by
      obtain ⟨cs, h1, h2⟩ := hx i (by omega)
      rw [add_at] at h1
      exact hel _ _ _ _ _ h1 h2 (hF.elem ht (List.mem_map.2 ⟨i, List.mem_range.2 hi, rfl⟩))
    obtain ⟨g, hg⟩ := choose_lt each
    have hlen : ((List.range len).map g).length = len := by simp
    have hw := hF.slice ht
    have hw2 : len ≤ reachBytes := by
      refine Nat.le_trans ?_ hw
      simp only [List.length_map, List.length_range]
      exact Nat.le_trans (Nat.le_add_right _ _) (Nat.le_mul_of_pos_right _ hby)
    have hlt : b < W.heap.size := by
      obtain ⟨cs, h1, _⟩ := hx 0 (by omega)
      obtain ⟨_, h3, h4⟩ := World.cells?_some h1
      have hc0 := h4 0 h0
      rw [List.getElem?_eq_getElem (by omega), add_at, add_at] at hc0
      exact World.block_lt_of_cell? W _ hc0
    refine ⟨(List.range len).map g, by rw [hlen]; simp [reachBytes] at hw2; unfold limW; omega, fun o ho => ?_, .inr ⟨b, off, cap, by rw [hlen], by rw [hlen]; exact hl, hlt, fun j hj x hx i hi => ?_⟩⟩
    · obtain ⟨i, hi, rfl⟩ := List.mem_map.1 ho
      exact (hg i (List.mem_range.1 hi)).1
    · rw [hlen] at hj
      have eo : g j = x := by simpa [hj] using hx
      subst eo
      exact (hg j hj).2 i hi

theorem cell1S : Tryz.prog.cellsOf 9 = 1 := by kernel_rfl
theorem cell1I : Tryz.prog.cellsOf 3 = 1 := by kernel_rfl
theorem cell1L : Tryz.prog.cellsOf 44 = 1 := by kernel_rfl
theorem fld {n off k : Nat} {t : TypeId} {cs : List Value} {y : Option (DataW H × List MemPlace)} (hc : Tryz.prog.cellsOf t = k) (h : DataW.trod enc Tryz.prog W base (fun _ => true) held n t ((cs.drop off).take (Tryz.prog.cellsOf t)) = y) : DataW.trod enc Tryz.prog W base (fun _ => true) held n t ((cs.drop off).take k) = y := hc ▸ h

set_option maxRecDepth 100000 in
theorem open_S {fuel : Nat} {v : Value} {x : DataW H × List MemPlace} (h : DataW.trod enc Tryz.prog W base (fun _ => true) held fuel 9 [v] = some x) (hF : Fits 9 x.1) : ∃ p : List UInt8, p.length ≤ limW ∧ v = SV p := by
  obtain ⟨s, h1, rfl, h3⟩ := DataW.trod_string Tryz.underlying9 h
  cases h1
  have hw := hF s.data.toList.length (by simp [DataW.weights])
  exact ⟨s.data.toList, by simp [reachBytes] at hw; rw [Array.length_toList]; unfold limW; show s.size ≤ _; omega, rfl⟩
set_option maxRecDepth 100000 in
theorem open_I {fuel : Nat} {v : Value} {x : DataW H × List MemPlace} (h : DataW.trod enc Tryz.prog W base (fun _ => true) held fuel 3 [v] = some x) : ∃ n : Int, v = .int .i64 n := by
  obtain ⟨n, h1, _⟩ := DataW.trod_int Tryz.underlying3 h
  exact ⟨n, by simpa using h1⟩

set_option maxRecDepth 100000 in
theorem open_str (b off n : Nat) (cs : List Value) (y : DataW H × List MemPlace) (h1 : W.cells? base ⟨b, off, none⟩ 1 = some cs) (h2 : DataW.trod enc Tryz.prog W base (fun _ => true) held n 9 cs = some y) (hF : Fits 9 y.1) :
    ∃ o : List UInt8, o.length ≤ limW ∧ ∀ i, i < 1 → W.cell? ⟨b, off + i, none⟩ = (strC o)[i]? := by
  obtain ⟨_, h3, h4⟩ := World.cells?_some h1
  match cs, h3 with
  | [v0], _ =>
    obtain ⟨p, hp, rfl⟩ := open_S (v := v0) h2 hF
    refine ⟨p, hp, fun i hi => ?_⟩
    have c := h4 i hi
    rw [add_at] at c
    rw [c]
    match i, hi with
    | 0, _ => rfl
theorem open_strs {fuel : Nat} {v : Value} {x : DataW H × List MemPlace} (h : DataW.trod enc Tryz.prog W base (fun _ => true) held fuel 44 [v] = some x) (hF : Fits 44 x.1) : ∃ l : List (List UInt8), l.length ≤ limW ∧ (∀ o ∈ l, o.length ≤ limW) ∧ StrsR W v l :=
  open_rd strC (fun o => o.length ≤ limW) Tryz.underlying44 (by kernel_rfl) h (by omega) hF (of_decide_eq_true (by kernel_rfl)) open_str

set_option maxRecDepth 100000 in
theorem open_obj {fuel : Nat} {cs : List Value} {y : DataW H × List MemPlace} (h3 : cs.length = 2) (h2 : DataW.trod enc Tryz.prog W base (fun _ => true) held fuel 26 cs = some y) (hF : Fits 26 y.1) :
    ∃ k d, d.length ≤ limW ∧ cs = [.int .i64 k, SV d] := by
  obtain ⟨xs, n', _, rfl, _, hlen, hf⟩ := DataW.trod_struct Tryz.underlying26 h2
  match cs, h3 with
  | [v0, v1], _ =>
    match xs, hlen with
    | [y0, y1], _ =>
      have f0 := fld (cs := [v0, v1]) (off := 0) cell1I (hf 0 _ rfl)
      have f1 := fld (cs := [v0, v1]) (off := 1) cell1S (hf 1 _ rfl)
      obtain ⟨k, rfl⟩ := open_I (v := v0) f0
      obtain ⟨p, hp, rfl⟩ := open_S (v := v1) f1 (hF.field Tryz.underlying26 (i := 1) rfl rfl)
      exact ⟨k, p, hp, rfl⟩

theorem cell2O : Tryz.prog.cellsOf 26 = 2 := by kernel_rfl
set_option maxRecDepth 100000 in
theorem open_held (b off n : Nat) (cs : List Value) (y : DataW H × List MemPlace) (h1 : W.cells? base ⟨b, off, none⟩ 3 = some cs) (h2 : DataW.trod enc Tryz.prog W base (fun _ => true) held n 35 cs = some y) (hF : Fits 35 y.1) :
    ∃ o : Hld, True ∧ ∀ i, i < 3 → W.cell? ⟨b, off + i, none⟩ = (heldC o)[i]? := by
  obtain ⟨_, h3, h4⟩ := World.cells?_some h1
  obtain ⟨xs, n', _, rfl, _, hlen, hf⟩ := DataW.trod_struct Tryz.underlying35 h2
  match cs, h3 with
  | [v0, v1, v2], _ =>
    match xs, hlen with
    | [y0, y1], _ =>
      have f0 := fld (cs := [v0, v1, v2]) (off := 0) cell1S (hf 0 _ rfl)
      have f1 := fld (cs := [v0, v1, v2]) (off := 1) cell2O (hf 1 _ rfl)
      obtain ⟨p, hp, rfl⟩ := open_S (v := v0) f0 (hF.field Tryz.underlying35 (i := 0) rfl rfl)
      obtain ⟨k, d, hd, e⟩ := open_obj (cs := [v1, v2]) rfl f1 (hF.field Tryz.underlying35 (i := 1) rfl rfl)
      cases e
      refine ⟨⟨p, k, d⟩, trivial, fun i hi => ?_⟩
      have c := h4 i hi
      rw [add_at] at c
      rw [c]
      match i, hi with
      | 0, _ => rfl
      | 1, _ => rfl
      | 2, _ => rfl
theorem open_helds {fuel : Nat} {v : Value} {x : DataW H × List MemPlace} (h : DataW.trod enc Tryz.prog W base (fun _ => true) held fuel 23 [v] = some x) (hF : Fits 23 x.1) : ∃ l : List Hld, l.length ≤ limW ∧ HldsR W v l := by
  obtain ⟨l, h1, _, h2⟩ := open_rd heldC (fun _ => True) Tryz.underlying23 (by kernel_rfl) h (by omega) hF (of_decide_eq_true (by kernel_rfl)) open_held
  exact ⟨l, h1, h2⟩
set_option maxRecDepth 100000 in
theorem open_ob (b off n : Nat) (cs : List Value) (y : DataW H × List MemPlace) (h1 : W.cells? base ⟨b, off, none⟩ 2 = some cs) (h2 : DataW.trod enc Tryz.prog W base (fun _ => true) held n 26 cs = some y) (hF : Fits 26 y.1) :
    ∃ o : Int × Bs, True ∧ ∀ i, i < 2 → W.cell? ⟨b, off + i, none⟩ = (obC o)[i]? := by
  obtain ⟨_, h3, h4⟩ := World.cells?_some h1
  obtain ⟨k, d, hd, rfl⟩ := open_obj h3 h2 hF
  refine ⟨(k, d), trivial, fun i hi => ?_⟩
  have c := h4 i hi
  rw [add_at] at c
  rw [c]
  match i, hi with
  | 0, _ => rfl
  | 1, _ => rfl
theorem open_objs {fuel : Nat} {v : Value} {x : DataW H × List MemPlace} (h : DataW.trod enc Tryz.prog W base (fun _ => true) held fuel 22 [v] = some x) (hF : Fits 22 x.1) : ∃ l : List (Int × Bs), l.length ≤ limW ∧ ObjsR W v l := by
  obtain ⟨l, h1, _, h2⟩ := open_rd obC (fun _ => True) Tryz.underlying22 (by kernel_rfl) h (by omega) hF (of_decide_eq_true (by kernel_rfl)) open_ob
  exact ⟨l, h1, h2⟩
end
end Go.Proofs.YthbmaloajgkhmaaGreatDoor
