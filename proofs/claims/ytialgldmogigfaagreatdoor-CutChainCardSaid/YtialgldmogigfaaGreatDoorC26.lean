/-
  Come, Send and Union, at every argument.
-/
import Derived.Test.YtialgldmogigfaaGreatDoorC25

namespace Go.Proofs.YtialgldmogigfaaGreatDoor.Ct
open Go.Proofs.YtialgldmogigfaaGreatDoor
open Go Go.RowKit Go.Maps

structure OkL (L : List Hld) : Prop where
  len : L.length ≤ 2000
  el : ∀ x ∈ L, x.id.length ≤ 10000 ∧ x.data.length ≤ 10000
structure OkT (t : List Bs) : Prop where
  len : t.length ≤ 2000
  el : ∀ x ∈ t, x.length ≤ 10000
theorem reach_congr {wf : Bs → List (Bs × Int)} {a b : List Bs} (h : ∀ x, x ∈ a ↔ x ∈ b) {x : Bs} : Reach wf a x ↔ Reach wf b x :=
  ⟨fun hx => Reach.trans (fun y hy => .tip ((h y).1 hy)) hx, fun hx => Reach.trans (fun y hy => .tip ((h y).2 hy)) hx⟩
theorem clo_okT {L : List Hld} {tips a b : List Bs} (hL : OkL L) (h : IsClo (wfL L) (thB L) tips a b) : OkT a :=
  ⟨Nat.le_trans (IsClo.few h) hL.len, fun x hx => by
    obtain ⟨u, hu, rfl⟩ := th_mem ((h.ma x).1 hx).2
    exact (hL.el u hu).1⟩
theorem OkT.filter {t : List Bs} (h : OkT t) (p : Bs → Bool) : OkT (t.filter p) :=
  ⟨Nat.le_trans (List.length_filter_le _ _) h.len, fun x hx => h.el x (List.mem_filter.1 hx).1⟩
/-- What come answers. -/
def ComeP (L : List Hld) (tips : List Bs) (w : World) (e : Ending) (w' : World) : Prop :=
  Below w.heap.size w w' ∧ ((∃ A n c a, e = .returned (.tuple #[.slice A n c, .int .i64 0]) ∧ n = a.length ∧ StrsR w' (.slice A n c) a ∧ IsClo (wfL L) (thB L) tips a []) ∨
    (e = .returned (.tuple #[.slice none 0 0, .int .i64 51]) ∧ ∃ x, Reach (wfL L) tips x ∧ thB L x = false))
set_option maxHeartbeats 4000000 in
set_option maxRecDepth 100000 in
theorem come_p {w : World} {v rv : Value} {L : List Hld} {rows : List (List Bs)} (h : HldsR w v L) (hr : RowsR w rv rows) (ho : Ob w) (hL : OkL L) (hn : rows.length ≤ 1000) (hT : OkT rows.flatten) :
    Calls Tryz.prog 26 #[v, rv] w (ComeP L rows.flatten w) := by
  have HC := Lib.hid (Concat_p hr hn (by rw [← flat_len]; have := hT.len; omega))
  obtain ⟨A0, c0, rfl⟩ := h.shape
  obtain ⟨A1, c1, rfl⟩ := hr.shape
  obtain ⟨n0, hn0⟩ : ∃ n, n = L.length := ⟨_, rfl⟩
  obtain ⟨n1, hn1⟩ : ∃ n, n = rows.length := ⟨_, rfl⟩
  rw [← hn0] at h ⊢
  rw [← hn1] at HC ⊢
  have H := Lib.hid h; have HO := Lib.hid ho; have HL := Lib.hid hL; have HT := Lib.hid hT
  clear h hr ho hL hn hT hn0 hn1
  go_enter Tryz.func26, Tryz.ntmps26
  go_wp2_with fail
  refine HC.out.mono ?_
  rintro e w1 ⟨v1, rfl, ho1, hb1⟩
  have hr1 := OwK.rd strC_len ho1
  obtain ⟨A2, c2, rfl⟩ := hr1.shape
  have HCl := Lib.hid (Closure_any (H.out.below hb1 (Nat.le_refl _)) hr1 (HO.out.eb.below hb1) (HO.out.tb.below hb1) HL.out.len HT.out.len HL.out.el HT.out.el)
  have HB1 := Lib.hid hb1
  obtain ⟨n2, hn2⟩ : ∃ n, n = rows.flatten.length := ⟨_, rfl⟩
  rw [← hn2] at HCl ⊢
  clear ho1 hb1 hr1 HC hn2
  go_wp2_with fail
  refine HCl.out.mono ?_
  rintro e w2 ⟨va, vb, a, b, rfl, ha, hb, hc, _, _, hb2⟩
  obtain ⟨A3, c3, rfl⟩ := ha.shape
  obtain ⟨A4, c4, rfl⟩ := hb.shape
  obtain ⟨n3, hn3⟩ : ∃ n, n = a.length := ⟨_, rfl⟩
  obtain ⟨n4, hn4⟩ : ∃ n, n = b.length := ⟨_, rfl⟩
  rw [← hn3] at ha ⊢
  rw [← hn4] at hb ⊢
  have HA := Lib.hid ha; have HCo := Lib.hid hc; have HB2 := Lib.hid (HB1.out.trans (hb2.mono HB1.out.size)); have HN3 := Lib.hid hn3; have HN4 := Lib.hid hn4
  clear ha hb hc hb2 hn3 hn4 HCl
  rcases Nat.eq_zero_or_pos n4 with h4 | h4
  · subst h4
    go_wp2_with fail
    go_ret2
    refine ⟨HB2.out, .inl ⟨_, _, _, a, rfl, HN3.out, HA.out, ?_⟩⟩
    have e : b = [] := List.eq_nil_of_length_eq_zero HN4.out.symm
    have h := HCo.out
    rw [e] at h; exact h
  · have h4I : (0 : Int) < (n4 : Int) := by omega
    have HX : Hid (∃ x, Reach (wfL L) rows.flatten x ∧ thB L x = false) := Lib.hid (by
      obtain ⟨x, hx⟩ := List.exists_mem_of_length_pos (l := b) (by rw [← HN4.out]; exact h4)
      exact ⟨x, (HCo.out.mb x).1 hx⟩)
    clear h4
    go_wp2_with fail
    go_ret2
    exact ⟨HB2.out, .inr ⟨rfl, HX.out⟩⟩
/-- What is sent, or why nothing is. -/
def IsSend (L : List Hld) (tips wants haves out : List Bs) (ec : Int) : Prop :=
  (ec = 1 ∧ out = [] ∧ (wants = [] ∨ ∃ x ∈ wants, x ∉ tips)) ∨
  (ec = 51 ∧ out = [] ∧ wants ≠ [] ∧ (∀ x ∈ wants, x ∈ tips) ∧ ∃ x, Reach (wfL L) tips x ∧ thB L x = false) ∨
  (ec = 0 ∧ wants ≠ [] ∧ (∀ x ∈ wants, x ∈ tips) ∧ (∀ x, Reach (wfL L) tips x → thB L x = true) ∧ Rising out ∧
    ∃ cm, (∀ h, h ∈ cm ↔ h ∈ haves ∧ Reach (wfL L) tips h) ∧ ∀ x, x ∈ out ↔ Reach (wfL L) wants x ∧ ¬ Reach (wfL L) cm x)
def SendP (L : List Hld) (tips wants haves : List Bs) (w : World) (e : Ending) (w' : World) : Prop :=
  ∃ A n c out ec, e = .returned (.tuple #[.slice A n c, .int .i64 ec]) ∧ n = out.length ∧ StrsR w' (.slice A n c) out ∧ IsSend L tips wants haves out ec ∧ Below w.heap.size w w'
theorem clo_all {wf : Bs → List (Bs × Int)} {th : Bs → Bool} {tips a : List Bs} (h : IsClo wf th tips a []) {x : Bs} : x ∈ a ↔ Reach wf tips x := by
  rw [h.ma]
  constructor
  · exact fun h => h.1
  · intro hx
    refine ⟨hx, ?_⟩
    cases ht : th x with
    | true => rfl
    | false => exact absurd ((h.mb x).2 ⟨hx, ht⟩) (by simp)
theorem clo_th {wf : Bs → List (Bs × Int)} {th : Bs → Bool} {tips a : List Bs} (h : IsClo wf th tips a []) {x : Bs} (hx : Reach wf tips x) : th x = true := ((h.ma x).1 ((clo_all h).2 hx)).2
theorem strs_nil (w : World) : StrsR w (.slice none 0 0) ([] : List Bs) := .inl ⟨⟨_, _, rfl⟩, rfl⟩
set_option maxHeartbeats 8000000 in
set_option maxRecDepth 100000 in
theorem Send_p {w : World} {v tv wv hv : Value} {L : List Hld} {tips wants haves : List Bs} (h : HldsR w v L) (ht : StrsR w tv tips) (hw : StrsR w wv wants) (hh : StrsR w hv haves) (ho : Ob w) (hL : OkL L) (hT : OkT tips) (hW : OkT wants) (hH : OkT haves) :
    Calls Tryz.prog 13 #[v, tv, wv, hv] w (SendP L tips wants haves w) := by
  have HBt := Lib.hid (beside_p ht (by have := hT.len; omega) (fun x hx => by have := hT.el x hx; omega))
  obtain ⟨A0, c0, rfl⟩ := h.shape
  obtain ⟨A1, c1, rfl⟩ := ht.shape
  obtain ⟨A2, c2, rfl⟩ := hw.shape
  obtain ⟨A3, c3, rfl⟩ := hh.shape
  obtain ⟨n0, hn0⟩ : ∃ n, n = L.length := ⟨_, rfl⟩
  obtain ⟨n1, hn1⟩ : ∃ n, n = tips.length := ⟨_, rfl⟩
  obtain ⟨n2, hn2⟩ : ∃ n, n = wants.length := ⟨_, rfl⟩
  obtain ⟨n3, hn3⟩ : ∃ n, n = haves.length := ⟨_, rfl⟩
  rw [← hn0] at h ⊢
  rw [← hn1] at HBt ht ⊢
  rw [← hn2] at hw ⊢
  rw [← hn3] at hh ⊢
  have H := Lib.hid h; have HTi := Lib.hid ht; have HWa := Lib.hid hw; have HHa := Lib.hid hh; have HO := Lib.hid ho; have HL := Lib.hid hL; have HT := Lib.hid hT; have HW := Lib.hid hW; have HH := Lib.hid hH; have HN2 := Lib.hid hn2
  clear h ht hw hh ho hL hT hW hH hn0 hn1 hn2 hn3
  rcases Nat.eq_zero_or_pos n2 with h2 | h2
  · have HE : Hid (IsSend L tips wants haves [] 1) := Lib.hid (.inl ⟨rfl, rfl, .inl (List.eq_nil_of_length_eq_zero (by rw [← HN2.out]; exact h2))⟩)
    subst h2
    go_enter Tryz.func13, Tryz.ntmps13
    go_wp2_with fail
    go_ret2
    exact ⟨_, _, _, [], 1, rfl, rfl, strs_nil _, HE.out, Below.refl _ _⟩
  have h2I : ((n2 : Int) == 0) = false := by simp; omega
  have h2J : ¬ (n2 : Int) = 0 := by omega
  have HNe : Hid (wants ≠ []) := Lib.hid fun e => by have := HN2.out; rw [e] at this; simp at this; omega
  clear h2
  go_enter Tryz.func13, Tryz.ntmps13
  go_wp2_with fail
  refine HBt.out.mono ?_
  rintro e w1 ⟨F, b, rfl, htl, hb1⟩
  have HCt := Lib.hid (contains_p (HWa.out.below hb1 (Nat.le_refl _)) (by have := HW.out.len; omega) (fun x hx => by have := HW.out.el x hx; omega) htl)
  have L1 := Lib.hid hb1
  obtain ⟨q, hq⟩ : ∃ q, q = wants.any fun x => !decide (x ∈ tips) := ⟨_, rfl⟩
  rw [← hq] at HCt
  have HQ := Lib.hid hq
  clear htl hb1 hq HBt
  go_wp2_with fail
  refine HCt.out.mono ?_
  rintro e w2 ⟨rfl, hb2⟩
  have L2 := Lib.hid (L1.out.trans (hb2.mono L1.out.size))
  clear hb2 HCt
  cases q with
  | true =>
    have HE : Hid (IsSend L tips wants haves [] 1) := Lib.hid (by
      obtain ⟨x, hx, hp⟩ := List.any_eq_true.1 HQ.out.symm
      exact .inl ⟨rfl, rfl, .inr ⟨x, hx, by simpa using hp⟩⟩)
    go_wp2_with fail
    go_ret2
    exact ⟨_, _, _, [], 1, rfl, rfl, strs_nil _, HE.out, L2.out⟩
  | false =>
  have HSub : Hid (∀ x ∈ wants, x ∈ tips) := Lib.hid fun x hx => by
    have h := HQ.out.symm
    rw [List.any_eq_false] at h
    simpa using h x hx
  obtain ⟨w3, hw3⟩ : ∃ y, y = w2.alloc (.cells #[.slice A1 n1 c1] 23) := ⟨_, rfl⟩
  have l3 : Below w2.heap.size w2 w3 := by rw [hw3]; exact below_new _ _
  have k3 : w3.heap[w2.heap.size]? = some (.cells #[.slice A1 n1 c1] 23 (0, 0)) := by rw [hw3]; exact heap_alloc_new _ _
  have L3 := Lib.hid (L2.out.trans (l3.mono L2.out.size))
  have hcm := come_p (H.out.below L3.out (Nat.le_refl _)) (RowsR.one (HTi.out.below L3.out (Nat.le_refl _)) k3) (HO.out.below L3.out) HL.out (by simp) (by simpa using HT.out)
  rw [show ([tips] : List (List Bs)).flatten = tips by simp] at hcm
  have HCm := Lib.hid hcm
  have HW3 := Lib.hid hw3
  clear hcm hw3 l3 k3 HQ
  go_wp2_with (rw [← HW3.out])
  refine HCm.out.mono ?_
  rintro e w4 ⟨hb4, ⟨A4, n4, c4, a, rfl, hn4, ha, hca⟩ | ⟨rfl, x, hx, hxt⟩⟩
  case inr =>
    have L4 := Lib.hid (L3.out.trans (hb4.mono L3.out.size))
    have HE : Hid (IsSend L tips wants haves [] 51) := Lib.hid (.inr (.inl ⟨rfl, rfl, HNe.out, HSub.out, x, hx, hxt⟩))
    clear hb4 HCm hx hxt
    go_wp2_with fail
    go_ret2
    exact ⟨_, _, _, [], 51, rfl, rfl, strs_nil _, HE.out, L4.out⟩
  have L4 := Lib.hid (L3.out.trans (hb4.mono L3.out.size))
  have HA := Lib.hid ha; have HCa := Lib.hid hca; have HOa := Lib.hid (clo_okT HL.out hca)
  have HAm := Lib.hid (among_p (HHa.out.below L4.out (Nat.le_refl _)) (by have := HH.out.len; omega) (fun x hx => by have := HH.out.el x hx; omega))
  clear hb4 ha hca hn4 HCm HW3
  go_wp2_with fail
  refine HAm.out.mono ?_
  rintro e w5 ⟨F5, b5, rfl, htl, hb5⟩
  have L5 := Lib.hid (L4.out.trans (hb5.mono L4.out.size))
  have HOn := Lib.hid (only_p (HA.out.below hb5 (Nat.le_refl _)) (by have := HOa.out.len; omega) (fun x hx => by have := HOa.out.el x hx; omega) htl)
  clear htl hb5 HAm
  go_wp2_with fail
  refine HOn.out.mono ?_
  rintro e w6 ⟨v6, rfl, ho6, hb6⟩
  have L6 := Lib.hid (L5.out.trans (hb6.mono L5.out.size))
  have hr6 := OwK.rd strC_len ho6
  obtain ⟨cm, hcmd⟩ : ∃ cm, cm = a.filter fun x => decide (x ∈ haves) := ⟨_, rfl⟩
  rw [← hcmd] at hr6
  obtain ⟨A6, c6, rfl⟩ := hr6.shape
  obtain ⟨n6, hn6⟩ : ∃ n, n = cm.length := ⟨_, rfl⟩
  rw [← hn6] at hr6 ⊢
  have HCmm : Hid (∀ h, h ∈ cm ↔ h ∈ haves ∧ Reach (wfL L) tips h) := Lib.hid fun x => by
    rw [hcmd, List.mem_filter, clo_all HCa.out, decide_eq_true_iff]; exact And.comm
  have HOc : Hid (OkT cm) := Lib.hid (by rw [hcmd]; exact HOa.out.filter _)
  obtain ⟨w7, hw7⟩ : ∃ y, y = w6.alloc (.cells #[.slice A6 n6 c6] 23) := ⟨_, rfl⟩
  have l7 : Below w6.heap.size w6 w7 := by rw [hw7]; exact below_new _ _
  have k7 : w7.heap[w6.heap.size]? = some (.cells #[.slice A6 n6 c6] 23 (0, 0)) := by rw [hw7]; exact heap_alloc_new _ _
  have L7 := Lib.hid (L6.out.trans (l7.mono L6.out.size))
  have hco := come_p (H.out.below L7.out (Nat.le_refl _)) (RowsR.one (RdK.below hr6 l7 (Nat.le_refl _)) k7) (HO.out.below L7.out) HL.out (by simp) (by simpa using HOc.out)
  rw [show ([cm] : List (List Bs)).flatten = cm by simp] at hco
  have HCo := Lib.hid hco
  have HW7 := Lib.hid hw7
  clear hco hw7 l7 k7 ho6 hb6 hr6 hcmd hn6 HOn
  go_wp2_with (rw [← HW7.out])
  refine HCo.out.mono ?_
  rintro e w8 ⟨hb8, ⟨A8, n8, c8, own, rfl, hn8, hown, hcown⟩ | ⟨_, x, hx, hxt⟩⟩
  case inr =>
    have h1 : Reach (wfL L) tips x := Reach.trans (fun y hy => ((HCmm.out y).1 hy).2) hx
    rw [clo_th HCa.out h1] at hxt; cases hxt
  have L8 := Lib.hid (L7.out.trans (hb8.mono L7.out.size))
  have HOw := Lib.hid hown; have HCow := Lib.hid hcown; have HOo := Lib.hid (clo_okT HL.out hcown)
  obtain ⟨w9, hw9⟩ : ∃ y, y = w8.alloc (.cells #[.slice A2 n2 c2] 23) := ⟨_, rfl⟩
  have l9 : Below w8.heap.size w8 w9 := by rw [hw9]; exact below_new _ _
  have k9 : w9.heap[w8.heap.size]? = some (.cells #[.slice A2 n2 c2] 23 (0, 0)) := by rw [hw9]; exact heap_alloc_new _ _
  have L9 := Lib.hid (L8.out.trans (l9.mono L8.out.size))
  have HOw9 := Lib.hid (RdK.below hown l9 (Nat.le_refl _))
  have hcw := come_p (H.out.below L9.out (Nat.le_refl _)) (RowsR.one (HWa.out.below L9.out (Nat.le_refl _)) k9) (HO.out.below L9.out) HL.out (by simp) (by simpa using HW.out)
  rw [show ([wants] : List (List Bs)).flatten = wants by simp] at hcw
  have HCw := Lib.hid hcw
  have HW9 := Lib.hid hw9
  clear hcw hw9 l9 k9 hb8 hn8 hown hcown HCo HW7 HOw
  go_wp2_with (rw [← HW9.out])
  refine HCw.out.mono ?_
  rintro e w10 ⟨hb10, ⟨A10, n10, c10, need, rfl, hn10, hneed, hcneed⟩ | ⟨_, x, hx, hxt⟩⟩
  case inr =>
    have h1 : Reach (wfL L) tips x := Reach.trans (fun y hy => .tip (HSub.out y hy)) hx
    rw [clo_th HCa.out h1] at hxt; cases hxt
  have L10 := Lib.hid (L9.out.trans (hb10.mono L9.out.size))
  have HNd := Lib.hid hneed; have HCn := Lib.hid hcneed; have HOn2 := Lib.hid (clo_okT HL.out hcneed)
  have HBs := Lib.hid (beside_p (HOw9.out.below hb10 (Nat.le_refl _)) (by have := HOo.out.len; omega) (fun x hx => by have := HOo.out.el x hx; omega))
  clear hb10 hn10 hneed hcneed HCw HW9
  go_wp2_with fail
  refine HBs.out.mono ?_
  rintro e w11 ⟨F11, b11, rfl, htl, hb11⟩
  have L11 := Lib.hid (L10.out.trans (hb11.mono L10.out.size))
  have HOl := Lib.hid (only_p (HNd.out.below hb11 (Nat.le_refl _)) (by have := HOn2.out.len; omega) (fun x hx => by have := HOn2.out.el x hx; omega) htl)
  clear htl hb11 HBs
  go_wp2_with fail
  refine HOl.out.mono ?_
  rintro e w12 ⟨v12, rfl, ho12, hb12⟩
  have L12 := Lib.hid (L11.out.trans (hb12.mono L11.out.size))
  have hr12 := OwK.rd strC_len ho12
  obtain ⟨out, hout⟩ : ∃ o, o = need.filter fun x => !decide (x ∈ own) := ⟨_, rfl⟩
  rw [← hout] at hr12
  obtain ⟨A12, c12, rfl⟩ := hr12.shape
  have HE : Hid (IsSend L tips wants haves out 0) := Lib.hid (.inr (.inr ⟨rfl, HNe.out, HSub.out, fun x hx => clo_th HCa.out hx, by
      rw [hout]; exact HCn.out.ra.sublist List.filter_sublist, cm, HCmm.out, fun x => by
      rw [hout, List.mem_filter, clo_all HCn.out, Bool.not_eq_true', decide_eq_false_iff_not, clo_all HCow.out]⟩))
  have HR12 := Lib.hid hr12
  obtain ⟨n12, hn12⟩ : ∃ n, n = out.length := ⟨_, rfl⟩
  rw [← hn12] at HR12 ⊢
  have HN12 := Lib.hid hn12
  clear ho12 hb12 hr12 hout hn12 HOl
  go_wp2_with fail
  go_ret2
  exact ⟨_, _, _, out, 0, rfl, HN12.out, HR12.out, HE.out, L12.out⟩
theorem Union_p {w : World} {v rv : Value} {L : List Hld} {rows : List (List Bs)} (h : HldsR w v L) (hr : RowsR w rv rows) (ho : Ob w) (hL : OkL L) (hn : rows.length ≤ 1000) (hT : OkT rows.flatten) :
    Calls Tryz.prog 15 #[v, rv] w (ComeP L rows.flatten w) := by
  have HC := Lib.hid (come_p h hr ho hL hn hT)
  obtain ⟨A0, c0, rfl⟩ := h.shape
  obtain ⟨A1, c1, rfl⟩ := hr.shape
  obtain ⟨n0, hn0⟩ : ∃ n, n = L.length := ⟨_, rfl⟩
  obtain ⟨n1, hn1⟩ : ∃ n, n = rows.length := ⟨_, rfl⟩
  rw [← hn0, ← hn1] at HC ⊢
  clear h hr ho hL hn hT hn0 hn1
  go_enter Tryz.func15, Tryz.ntmps15
  go_wp2_with fail
  refine HC.out.mono ?_
  rintro e w1 ⟨hb1, ⟨A, n, c, a, rfl, hn, ha, hc⟩ | ⟨rfl, hx⟩⟩
  · have HR : Hid (ComeP L rows.flatten w (.returned (.tuple #[.slice A n c, .int .i64 0])) w1) := Lib.hid ⟨hb1, .inl ⟨A, n, c, a, rfl, hn, ha, hc⟩⟩
    clear hb1 hn ha hc HC
    go_wp2_with fail
    go_ret2
    exact HR.out
  · have HR : Hid (ComeP L rows.flatten w (.returned (.tuple #[.slice none 0 0, .int .i64 51])) w1) := Lib.hid ⟨hb1, .inr ⟨rfl, hx⟩⟩
    clear hb1 hx HC
    go_wp2_with fail
    go_ret2
    exact HR.out
end Go.Proofs.YtialgldmogigfaaGreatDoor.Ct
