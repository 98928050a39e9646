/-
  Send, with what it gives in new blocks.
-/
import Derived.Test.YtialgldmogigfaaGreatDoorC30
namespace Go.Proofs.YtialgldmogigfaaGreatDoor.Ct
open Go.Proofs.YtialgldmogigfaaGreatDoor
open Go Go.RowKit Go.Maps

def SendO (L : List Hld) (tips wants haves : List Bs) (w : World) (e : Ending) (w' : World) : Prop :=
  ∃ A n c out ec, e = .returned (.tuple #[.slice A n c, .int .i64 ec]) ∧ n = out.length ∧ OwK 9 1 strC w' w.heap.size (.slice A n c) out ∧ IsSend L tips wants haves out ec ∧ Below w.heap.size w w'
set_option maxHeartbeats 8000000 in
set_option maxRecDepth 100000 in
theorem Send_o {w : World} {v tv wv hv : Value} {L : List Hld} {tips wants haves : List Bs} (h : HldsR w v L) (ht : StrsR w tv tips) (hw : StrsR w wv wants) (hh : StrsR w hv haves) (ho : Ob w) (hL : OkL L) (hT : OkT tips) (hW : OkT wants) (hH : OkT haves) :
    Calls Tryz.prog 13 #[v, tv, wv, hv] w (SendO L tips wants haves w) := by
  have HBt := Lib.hid (beside_p ht (by have := hT.len; omega) (fun x hx => by have := hT.el x hx; omega))
  obtain ⟨A0, c0, rfl⟩ := h.shape
  obtain ⟨A1, c1, rfl⟩ := ht.shape
  obtain ⟨A2, c2, rfl⟩ := hw.shape
  obtain ⟨A3, c3, rfl⟩ := hh.shape
  obtain ⟨n0, hn0⟩ : ∃ n, n = L.length := ⟨_, rfl⟩
  obtain ⟨n1, hn1⟩ : ∃ n, n = tips.length := ⟨_, rfl⟩
  obtain ⟨n2, hn2⟩ : ∃ n, n = wants.length := ⟨_, rfl⟩
  obtain ⟨n3, hn3⟩ : ∃ n, n = haves.length := ⟨_, rfl⟩
  rw [← hn0] at h ⊢
  rw [← hn1] at HBt ht ⊢
  rw [← hn2] at hw ⊢
  rw [← hn3] at hh ⊢
  have H := Lib.hid h; have HTi := Lib.hid ht; have HWa := Lib.hid hw; have HHa := Lib.hid hh; have HO := Lib.hid ho; have HL := Lib.hid hL; have HT := Lib.hid hT; have HW := Lib.hid hW; have HH := Lib.hid hH; have HN2 := Lib.hid hn2
  clear h ht hw hh ho hL hT hW hH hn0 hn1 hn2 hn3
  rcases Nat.eq_zero_or_pos n2 with h2 | h2
  · have HE : Hid (IsSend L tips wants haves [] 1) := Lib.hid (.inl ⟨rfl, rfl, .inl (List.eq_nil_of_length_eq_zero (by rw [← HN2.out]; exact h2))⟩)
    subst h2
    go_enter Tryz.func13, Tryz.ntmps13
    go_wp2_with fail
    go_ret2
    exact ⟨_, _, _, [], 1, rfl, rfl, OwK.nil _ _ _ _ _, HE.out, Below.refl _ _⟩
  have h2I : ((n2 : Int) == 0) = false := by simp; omega
  have h2J : ¬ (n2 : Int) = 0 := by omega
  have HNe : Hid (wants ≠ []) := Lib.hid fun e => by have := HN2.out; rw [e] at this; simp at this; omega
  clear h2
  go_enter Tryz.func13, Tryz.ntmps13
  go_wp2_with fail
  refine HBt.out.mono ?_
  rintro e w1 ⟨F, b, rfl, htl, hb1⟩
  have HCt := Lib.hid (contains_p (HWa.out.below hb1 (Nat.le_refl _)) (by have := HW.out.len; omega) (fun x hx => by have := HW.out.el x hx; omega) htl)
  have L1 := Lib.hid hb1
  obtain ⟨q, hq⟩ : ∃ q, q = wants.any fun x => !decide (x ∈ tips) := ⟨_, rfl⟩
  rw [← hq] at HCt
  have HQ := Lib.hid hq
  clear htl hb1 hq HBt
  go_wp2_with fail
  refine HCt.out.mono ?_
  rintro e w2 ⟨rfl, hb2⟩
  have L2 := Lib.hid (L1.out.trans (hb2.mono L1.out.size))
  clear hb2 HCt
  cases q with
  | true =>
    have HE : Hid (IsSend L tips wants haves [] 1) := Lib.hid (by
      obtain ⟨x, hx, hp⟩ := List.any_eq_true.1 HQ.out.symm
      exact .inl ⟨rfl, rfl, .inr ⟨x, hx, by simpa using hp⟩⟩)
    go_wp2_with fail
    go_ret2
    exact ⟨_, _, _, [], 1, rfl, rfl, OwK.nil _ _ _ _ _, HE.out, L2.out⟩
  | false =>
  have HSub : Hid (∀ x ∈ wants, x ∈ tips) := Lib.hid fun x hx => by
    have h := HQ.out.symm
    rw [List.any_eq_false] at h
    simpa using h x hx
  obtain ⟨w3, hw3⟩ : ∃ y, y = w2.alloc (.cells #[.slice A1 n1 c1] 23) := ⟨_, rfl⟩
  have l3 : Below w2.heap.size w2 w3 := by rw [hw3]; exact below_new _ _
  have k3 : w3.heap[w2.heap.size]? = some (.cells #[.slice A1 n1 c1] 23 (0, 0)) := by rw [hw3]; exact heap_alloc_new _ _
  have L3 := Lib.hid (L2.out.trans (l3.mono L2.out.size))
  have hcm := come_p (H.out.below L3.out (Nat.le_refl _)) (RowsR.one (HTi.out.below L3.out (Nat.le_refl _)) k3) (HO.out.below L3.out) HL.out (by simp) (by simpa using HT.out)
  rw [show ([tips] : List (List Bs)).flatten = tips by simp] at hcm
  have HCm := Lib.hid hcm
  have HW3 := Lib.hid hw3
  clear hcm hw3 l3 k3 HQ
  go_wp2_with (rw [← HW3.out])
  refine HCm.out.mono ?_
  rintro e w4 ⟨hb4, ⟨A4, n4, c4, a, rfl, hn4, ha, hca⟩ | ⟨rfl, x, hx, hxt⟩⟩
  case inr =>
    have L4 := Lib.hid (L3.out.trans (hb4.mono L3.out.size))
    have HE : Hid (IsSend L tips wants haves [] 51) := Lib.hid (.inr (.inl ⟨rfl, rfl, HNe.out, HSub.out, x, hx, hxt⟩))
    clear hb4 HCm hx hxt
    go_wp2_with fail
    go_ret2
    exact ⟨_, _, _, [], 51, rfl, rfl, OwK.nil _ _ _ _ _, HE.out, L4.out⟩
  have L4 := Lib.hid (L3.out.trans (hb4.mono L3.out.size))
  have HA := Lib.hid ha; have HCa := Lib.hid hca; have HOa := Lib.hid (clo_okT HL.out hca)
  have HAm := Lib.hid (among_p (HHa.out.below L4.out (Nat.le_refl _)) (by have := HH.out.len; omega) (fun x hx => by have := HH.out.el x hx; omega))
  clear hb4 ha hca hn4 HCm HW3
  go_wp2_with fail
  refine HAm.out.mono ?_
  rintro e w5 ⟨F5, b5, rfl, htl, hb5⟩
  have L5 := Lib.hid (L4.out.trans (hb5.mono L4.out.size))
  have HOn := Lib.hid (only_p (HA.out.below hb5 (Nat.le_refl _)) (by have := HOa.out.len; omega) (fun x hx => by have := HOa.out.el x hx; omega) htl)
  clear htl hb5 HAm
  go_wp2_with fail
  refine HOn.out.mono ?_
  rintro e w6 ⟨v6, rfl, ho6, hb6⟩
  have L6 := Lib.hid (L5.out.trans (hb6.mono L5.out.size))
  have hr6 := OwK.rd strC_len ho6
  obtain ⟨cm, hcmd⟩ : ∃ cm, cm = a.filter fun x => decide (x ∈ haves) := ⟨_, rfl⟩
  rw [← hcmd] at hr6
  obtain ⟨A6, c6, rfl⟩ := hr6.shape
  obtain ⟨n6, hn6⟩ : ∃ n, n = cm.length := ⟨_, rfl⟩
  rw [← hn6] at hr6 ⊢
  have HCmm : Hid (∀ h, h ∈ cm ↔ h ∈ haves ∧ Reach (wfL L) tips h) := Lib.hid fun x => by
    rw [hcmd, List.mem_filter, clo_all HCa.out, decide_eq_true_iff]; exact And.comm
  have HOc : Hid (OkT cm) := Lib.hid (by rw [hcmd]; exact HOa.out.filter _)
  obtain ⟨w7, hw7⟩ : ∃ y, y = w6.alloc (.cells #[.slice A6 n6 c6] 23) := ⟨_, rfl⟩
  have l7 : Below w6.heap.size w6 w7 := by rw [hw7]; exact below_new _ _
  have k7 : w7.heap[w6.heap.size]? = some (.cells #[.slice A6 n6 c6] 23 (0, 0)) := by rw [hw7]; exact heap_alloc_new _ _
  have L7 := Lib.hid (L6.out.trans (l7.mono L6.out.size))
  have hco := come_p (H.out.below L7.out (Nat.le_refl _)) (RowsR.one (RdK.below hr6 l7 (Nat.le_refl _)) k7) (HO.out.below L7.out) HL.out (by simp) (by simpa using HOc.out)
  rw [show ([cm] : List (List Bs)).flatten = cm by simp] at hco
  have HCo := Lib.hid hco
  have HW7 := Lib.hid hw7
  clear hco hw7 l7 k7 ho6 hb6 hr6 hcmd hn6 HOn
  go_wp2_with (rw [← HW7.out])
  refine HCo.out.mono ?_
  rintro e w8 ⟨hb8, ⟨A8, n8, c8, own, rfl, hn8, hown, hcown⟩ | ⟨_, x, hx, hxt⟩⟩
  case inr =>
    have h1 : Reach (wfL L) tips x := Reach.trans (fun y hy => ((HCmm.out y).1 hy).2) hx
    rw [clo_th HCa.out h1] at hxt; cases hxt
  have L8 := Lib.hid (L7.out.trans (hb8.mono L7.out.size))
  have HOw := Lib.hid hown; have HCow := Lib.hid hcown; have HOo := Lib.hid (clo_okT HL.out hcown)
  obtain ⟨w9, hw9⟩ : ∃ y, y = w8.alloc (.cells #[.slice A2 n2 c2] 23) := ⟨_, rfl⟩
  have l9 : Below w8.heap.size w8 w9 := by rw [hw9]; exact below_new _ _
  have k9 : w9.heap[w8.heap.size]? = some (.cells #[.slice A2 n2 c2] 23 (0, 0)) := by rw [hw9]; exact heap_alloc_new _ _
  have L9 := Lib.hid (L8.out.trans (l9.mono L8.out.size))
  have HOw9 := Lib.hid (RdK.below hown l9 (Nat.le_refl _))
  have hcw := come_p (H.out.below L9.out (Nat.le_refl _)) (RowsR.one (HWa.out.below L9.out (Nat.le_refl _)) k9) (HO.out.below L9.out) HL.out (by simp) (by simpa using HW.out)
  rw [show ([wants] : List (List Bs)).flatten = wants by simp] at hcw
  have HCw := Lib.hid hcw
  have HW9 := Lib.hid hw9
  clear hcw hw9 l9 k9 hb8 hn8 hown hcown HCo HW7 HOw
  go_wp2_with (rw [← HW9.out])
  refine HCw.out.mono ?_
  rintro e w10 ⟨hb10, ⟨A10, n10, c10, need, rfl, hn10, hneed, hcneed⟩ | ⟨_, x, hx, hxt⟩⟩
  case inr =>
    have h1 : Reach (wfL L) tips x := Reach.trans (fun y hy => .tip (HSub.out y hy)) hx
    rw [clo_th HCa.out h1] at hxt; cases hxt
  have L10 := Lib.hid (L9.out.trans (hb10.mono L9.out.size))
  have HNd := Lib.hid hneed; have HCn := Lib.hid hcneed; have HOn2 := Lib.hid (clo_okT HL.out hcneed)
  have HBs := Lib.hid (beside_p (HOw9.out.below hb10 (Nat.le_refl _)) (by have := HOo.out.len; omega) (fun x hx => by have := HOo.out.el x hx; omega))
  clear hb10 hn10 hneed hcneed HCw HW9
  go_wp2_with fail
  refine HBs.out.mono ?_
  rintro e w11 ⟨F11, b11, rfl, htl, hb11⟩
  have L11 := Lib.hid (L10.out.trans (hb11.mono L10.out.size))
  have HOl := Lib.hid (only_p (HNd.out.below hb11 (Nat.le_refl _)) (by have := HOn2.out.len; omega) (fun x hx => by have := HOn2.out.el x hx; omega) htl)
  clear htl hb11 HBs
  go_wp2_with fail
  refine HOl.out.mono ?_
  rintro e w12 ⟨v12, rfl, ho12, hb12⟩
  have L12 := Lib.hid (L11.out.trans (hb12.mono L11.out.size))
  have hr12 := OwK.rd strC_len ho12
  obtain ⟨out, hout⟩ : ∃ o, o = need.filter fun x => !decide (x ∈ own) := ⟨_, rfl⟩
  rw [← hout] at hr12 ho12
  obtain ⟨A12, c12, rfl⟩ := hr12.shape
  have HE : Hid (IsSend L tips wants haves out 0) := Lib.hid (.inr (.inr ⟨rfl, HNe.out, HSub.out, fun x hx => clo_th HCa.out hx, by
      rw [hout]; exact HCn.out.ra.sublist List.filter_sublist, cm, HCmm.out, fun x => by
      rw [hout, List.mem_filter, clo_all HCn.out, Bool.not_eq_true', decide_eq_false_iff_not, clo_all HCow.out]⟩))
  have HR12 : Hid (OwK 9 1 strC w12 w.heap.size (.slice A12 out.length c12) out) := Lib.hid (OwK.mono ho12 L11.out.size)
  obtain ⟨n12, hn12⟩ : ∃ n, n = out.length := ⟨_, rfl⟩
  rw [← hn12] at HR12 ⊢
  have HN12 := Lib.hid hn12
  clear ho12 hb12 hr12 hout hn12 HOl
  go_wp2_with fail
  go_ret2
  exact ⟨_, _, _, out, 0, rfl, HN12.out, HR12.out, HE.out, L12.out⟩

theorem Win.rd {B : Nat} {w : World} {v : Value} {l : List Bs} (h : Win B w v l) : StrsR w v l := by
  rcases h with ⟨A, rfl, rfl⟩ | ⟨g, o, c, cur, rfl, _, h2, h3, _, _, hc⟩
  · exact .inl ⟨⟨_, _, rfl⟩, rfl⟩
  · refine .inr ⟨g, o, c, rfl, h3, (Array.getElem?_eq_some_iff.1 h2).1, fun j hj x hx i hi => ?_⟩
    obtain rfl : i = 0 := by omega
    rw [Nat.mul_one, Nat.add_zero, cell_of_row w g _ cur _ _ h2, hc j hj]
    have : l.getD j [] = x := by rw [List.getD_eq_getElem?_getD, hx]; rfl
    rw [this]; rfl
/-- A list that grows in a loop. -/
structure Gr (B : Nat) (ws wr : World) (v0 v : Value) (l : List Bs) : Prop where
  nt : Win B wr v l
  bt : But (fun k => v0.ownBlock = some k) ws wr
  hB : Below B ws wr
  at_ : ∀ g, v.ownBlock = some g → v0.ownBlock = some g ∨ (ws.heap.size ≤ g ∧ g < wr.heap.size)
theorem Gr.start {B : Nat} {ws : World} {v : Value} {l : List Bs} (h : Win B ws v l) : Gr B ws ws v v l := ⟨h, But.refl _ _, Below.refl _ _, fun _ hg => .inl hg⟩
theorem Gr.step {B : Nat} {ws wr w6 : World} {v0 v v' : Value} {l : List Bs} {x : Bs} (h : Gr B ws wr v0 v l) (hN : Win B w6 v' (l ++ [x])) (hb : But (fun k => v.ownBlock = some k) wr w6) (ha : ∀ g, v'.ownBlock = some g → v.ownBlock = some g ∨ (wr.heap.size ≤ g ∧ g < w6.heap.size)) (hB : Below B wr w6) :
    Gr B ws w6 v0 v' (l ++ [x]) := by
  refine ⟨hN, h.bt.trans2 hb (fun i hi ht => ?_), h.hB.trans hB, fun g hg => ?_⟩
  · rcases h.at_ i ht with e | e
    · exact e
    · omega
  · rcases ha g hg with e | e
    · rcases h.at_ g e with e | e
      · exact .inl e
      · exact .inr ⟨e.1, Nat.lt_of_lt_of_le e.2 hB.size⟩
    · exact .inr ⟨Nat.le_trans h.hB.size e.1, e.2⟩
/-- What is got, round by round. -/
structure ChI (L : List Hld) (b g : List Bs) : Prop where
  th : ∀ x, Reach (wfL L) b x → thB L x = true
  nd : g.Nodup
  mem : ∀ x, x ∈ g ↔ Reach (wfL L) b x
theorem ChI.nil (L : List Hld) : ChI L [] [] := by
  have h : ∀ x, ¬ Reach (wfL L) [] x := fun x hx => by obtain ⟨h, hm, _⟩ := reach_one.1 hx; cases hm
  exact ⟨fun x hx => absurd hx (h x), List.nodup_nil, fun x => ⟨fun hx => (by cases hx), fun hx => absurd hx (h x)⟩⟩
theorem ChI.few {L : List Hld} {b g : List Bs} (h : ChI L b g) : g.length ≤ L.length := by
  have := nodup_len (b := L.map Hld.id) h.nd fun x hx => by
    obtain ⟨u, hu, e⟩ := th_mem (h.th x ((h.mem x).1 hx))
    exact List.mem_map.2 ⟨u, hu, e⟩
  rwa [List.length_map] at this
theorem ChI.apart {L : List Hld} {b t g a : List Bs} (h : ChI L b g) (hs : IsSend L (b ++ t) (b ++ t) b a 0) {x : Bs} (hx : x ∈ g) : x ∉ a := fun ha => by
  obtain ⟨y, hy, hr⟩ := reach_one.1 ((h.mem x).1 hx)
  exact ((hs.ok.2.2.2.2 x).1 ha).2 y hy (.tip (List.mem_append_left _ hy)) hr
theorem ChI.step {L : List Hld} {b t g a : List Bs} (h : ChI L b g) (hs : IsSend L (b ++ t) (b ++ t) b a 0) : ChI L (b ++ t) (g ++ a) := by
  refine ⟨hs.ok.2.2.1, List.nodup_append.2 ⟨h.nd, hs.ok.2.2.2.1.nodup, fun x hx y hy e => h.apart hs hx (e ▸ hy)⟩, fun x => ?_⟩
  rw [List.mem_append, h.mem, hs.ok.2.2.2.2]
  have hb : Reach (wfL L) b x → Reach (wfL L) (b ++ t) x := fun hx => reach_append.2 (.inl hx)
  constructor
  · rintro (hx | hx)
    · exact hb hx
    · exact hx.1
  · intro hx
    by_cases e : Reach (wfL L) b x
    · exact .inl e
    · exact .inr ⟨hx, fun y hy _ hr => e (reach_one.2 ⟨y, hy, hr⟩)⟩
theorem ChI.fresh {L : List Hld} {b t g a : List Bs} (h : ChI L b g) (hs : IsSend L (b ++ t) (b ++ t) b a 0) {k : Nat} (hk : k < a.length) : a.getD k [] ∉ g ++ a.take k := fun hm => by
  have hnd : (g ++ a).Nodup := (h.step hs).nd
  have e : g ++ a = (g ++ a.take k) ++ (a.getD k [] :: a.drop (k + 1)) := by
    rw [List.append_assoc]
    congr 1
    have h2 : a.drop k = a.getD k [] :: a.drop (k + 1) := by
      rw [List.drop_eq_getElem_cons hk, List.getD_eq_getElem?_getD, List.getElem?_eq_getElem hk]; rfl
    rw [← h2, List.take_append_drop]
  rw [e] at hnd
  exact (List.nodup_append.1 hnd).2.2 _ hm _ (by simp) rfl
theorem ChI.done {L : List Hld} {b g all : List Bs} (h : ChI L b g) (hc : IsClo (wfL L) (thB L) b all []) : all.length = g.length :=
  Nat.le_antisymm (nodup_len hc.ra.nodup fun x hx => (h.mem x).2 ((clo_all hc).1 hx)) (nodup_len h.nd fun x hx => (clo_all hc).2 ((h.mem x).1 hx))
end Go.Proofs.YtialgldmogigfaaGreatDoor.Ct
