/-
  RefsLines: what is put and got, as the document says.
-/
import Derived.Test.YtfnepffccenebaaGreatDoorRDoc
import Derived.Test.YtfnepffccenebaaGreatDoorROrd
import Derived.Test.YtfnepffccenebaaGreatDoorRHead
import Derived.Test.YtfnepffccenebaaGreatDoorRMap
namespace Go.Proofs.YtfnepffccenebaaGreatDoor.Rf
open Go.Proofs.YtfnepffccenebaaGreatDoor
open Go Go.RowKit

open Classical in
noncomputable def getL (s : Bs) : List Ref := if h : ∃ l, IsGet s l then h.choose else []
open Classical in
noncomputable def getB (s : Bs) : Bool := decide (∃ l, IsGet s l)
theorem PutP.one {l : List Ref} {w w' : World} {e : Ending} (h : PutP l w e w') : ∃ tx b, tx = (if rightB l = true then linesL l else []) ∧ b = rightB l ∧ e = .returned (.tuple #[.string ⟨tx.toArray⟩, .bool b]) ∧ Below w.heap.size w w' := by
  obtain ⟨⟨rfl, hr⟩ | ⟨rfl, hr⟩, hb⟩ := h
  · exact ⟨_, _, rfl, rfl, by rw [rightB_yes hr, if_pos rfl]; rfl, hb⟩
  · exact ⟨_, _, rfl, rfl, by rw [rightB_no hr]; rfl, hb⟩
theorem GetP.one {s : Bs} {w w' : World} {e : Ending} (h : GetP s w e w') : ∃ A n c, e = .returned (.tuple #[.slice A n c, .bool (getB s)]) ∧ RefsR w' (.slice A n c) (getL s) ∧ Below w.heap.size w w' := by
  obtain ⟨⟨v, l, rfl, ho, hg⟩ | ⟨rfl, hn⟩, hb⟩ := h
  · obtain ⟨A, n, c, rfl, _⟩ := OwK.shape ho
    have hex : ∃ l, IsGet s l := ⟨l, hg⟩
    have e1 : getB s = true := by unfold getB; simp; exact hex
    have e2 : getL s = l := by unfold getL; rw [dif_pos hex]; exact hex.choose_spec.unique hg
    exact ⟨A, n, c, by rw [e1], by rw [e2]; exact OwK.rd refC_len ho, hb⟩
  · have hex : ¬ ∃ l, IsGet s l := fun ⟨l, hg⟩ => hn l hg
    have e1 : getB s = false := by unfold getB; simp; exact fun l hl => hex ⟨l, hl⟩
    have e2 : getL s = [] := by unfold getL; rw [dif_neg hex]
    exact ⟨none, 0, 0, by rw [e1], by rw [e2]; exact .inl ⟨⟨_, _, rfl⟩, rfl⟩, hb⟩
theorem getL_len (s : Bs) : (getL s).length ≤ 64 := by
  unfold getL
  split
  · rename_i h; exact h.choose_spec.1.len
  · exact Nat.zero_le _
set_option maxRecDepth 100000 in
set_option maxHeartbeats 8000000 in
theorem Lines_law (w : World) (lv : Value) (l : List Ref) (hv : RefsR w lv l) (hf : Fit l) (hl : l.length ≤ lim) (s : Bs) (hs : s.length ≤ maxLen) :
    Calls Tryz.prog 4 #[lv, SV s] w (BoolB true w) := by
  unfold maxLen at hs
  unfold SV
  obtain ⟨A, c, rfl⟩ := hv.shape
  obtain ⟨M, hM⟩ : ∃ M, M = l.length := ⟨_, rfl⟩
  rw [← hM] at hv ⊢
  have HH := Lib.hid (head_p w)
  have HV := Lib.hid hv; have HF := Lib.hid hf; have HM := Lib.hid hM
  have Hl := Lib.hid hl
  clear hv hf hM hl
  go_enter Tryz.func4, Tryz.ntmps4
  go_wp2_with fail
  refine HH.out.mono ?_
  rintro e w1 ⟨rfl, hb⟩
  have L1 := Lib.hid hb
  have HG1 := Lib.hid (GreatR_any (RdK.below HV.out hb (Nat.le_refl _)) Hl.out)
  clear hb HH
  go_wp2_with fail
  refine HG1.out.mono ?_
  rintro e w2 ⟨g1, rfl, hb, hg1⟩
  have L2 := Lib.hid (L1.out.trans (hb.mono L1.out.size))
  clear hb HG1
  cases g1 with
  | true =>
    clear hg1
    go_wp2_with fail
    go_ret
    exact ⟨rfl, L2.out⟩
  | false =>
  have HS1 := Lib.hid (hg1 rfl)
  clear hg1
  by_cases h9 : s.length ≤ 9000
  case neg =>
    have hI : (9000 : Int) < (s.length : Int) := by omega
    clear h9
    go_wp2_with fail
    go_ret
    exact ⟨rfl, L2.out⟩
  have hI : ¬ (9000 : Int) < (s.length : Int) := by omega
  have HPt := Lib.hid (Put_p l _ w2 (RdK.below HV.out L2.out (Nat.le_refl _)) HF.out (by have := HS1.out.1; omega))
  go_wp2_with fail
  refine HPt.out.mono ?_
  rintro e w3 h
  obtain ⟨tx, b, htx, hbb, rfl, hb⟩ := h.one
  have L3 := Lib.hid (L2.out.trans (hb.mono L2.out.size))
  have HTx := Lib.hid htx; have HBb := Lib.hid hbb
  have HPr := Lib.hid (RPut_any l _ w3 (RdK.below HV.out L3.out (Nat.le_refl _)) HF.out (by have := HS1.out.1; omega))
  clear hb h HPt htx hbb
  go_wp2_with fail
  refine HPr.out.mono ?_
  rintro e w4 h
  obtain ⟨tx', b', htx', hbb', rfl, hb⟩ := h.one
  obtain rfl : tx' = tx := by rw [htx', HTx.out]
  obtain rfl : b' = b := by rw [hbb', HBb.out]
  have L4 := Lib.hid (L3.out.trans (hb.mono L3.out.size))
  have HGt := Lib.hid (Get_p s w4 (by omega))
  clear hb h HPr htx' hbb'
  go_wp2_with fail
  refine HGt.out.mono ?_
  rintro e w5 h
  obtain ⟨A5, n5, c5, rfl, h5, hb⟩ := h.one
  have L5 := Lib.hid (L4.out.trans (hb.mono L4.out.size))
  have H5 := Lib.hid h5
  obtain ⟨g, hg⟩ : ∃ g, g = getB s := ⟨_, rfl⟩
  rw [← hg]
  have HG := Lib.hid hg
  have HGr := Lib.hid (RGet_any s w5 (by omega))
  clear hb h HGt h5 hg
  go_wp2_with fail
  refine HGr.out.mono ?_
  rintro e w6 h
  obtain ⟨A6, n6, c6, rfl, h6, hb⟩ := h.one
  have L6 := Lib.hid (L5.out.trans (hb.mono L5.out.size))
  rw [← HG.out]
  have HSm := Lib.hid (Same_p (RdK.below H5.out hb (Nat.le_refl _)) h6 (by have := getL_len s; omega))
  rw [decide_eq_true rfl] at HSm
  clear hb h HGr h6 h9 hI
  cases b' <;> cases g
  · go_wp2_with fail
    refine HSm.out.mono ?_
    rintro e w7 ⟨rfl, hb⟩
    have L7 := Lib.hid (L6.out.trans (hb.mono L6.out.size))
    clear hb
    go_wp2_with fail
    go_ret
    exact ⟨rfl, L7.out⟩
  · go_wp2_with fail
    refine HSm.out.mono ?_
    rintro e w7 ⟨rfl, hb⟩
    have L7 := Lib.hid (L6.out.trans (hb.mono L6.out.size))
    clear hb
    go_wp2_with fail
    go_ret
    exact ⟨rfl, L7.out⟩
  · go_wp2_with fail
    refine HSm.out.mono ?_
    rintro e w7 ⟨rfl, hb⟩
    have L7 := Lib.hid (L6.out.trans (hb.mono L6.out.size))
    clear hb
    go_wp2_with fail
    go_ret
    exact ⟨rfl, L7.out⟩
  · go_wp2_with fail
    refine HSm.out.mono ?_
    rintro e w7 ⟨rfl, hb⟩
    have L7 := Lib.hid (L6.out.trans (hb.mono L6.out.size))
    clear hb
    go_wp2_with fail
    go_ret
    exact ⟨rfl, L7.out⟩
end Go.Proofs.YtfnepffccenebaaGreatDoor.Rf
