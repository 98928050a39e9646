/-
  The document's root: counted.
-/
import Derived.Test.YtnboagmibhllpaaGreatDoorC20
import Derived.Test.YtnboagmibhllpaaGreatDoorZRDecimal
import Derived.Test.YtnboagmibhllpaaGreatDoorOTelP
import Derived.Test.YtnboagmibhllpaaGreatDoorODocB
import Derived.Test.YtnboagmibhllpaaGreatDoorODocC
namespace Go.Proofs.YtnboagmibhllpaaGreatDoor.Ro
open Go.Proofs.YtnboagmibhllpaaGreatDoor
open Go.Proofs.YtnboagmibhllpaaGreatDoor.Rf (BoolB Ref RefsR nameB)
open Go.Proofs.YtnboagmibhllpaaGreatDoor.Rf (OwS)
open Go Go.RowKit

theorem cnt_lo {word x : Bs} (h : x.length < word.length + 1) : cntO word (some x) = none := by
  unfold cntO
  simp only
  rw [if_neg fun hp => ?_]
  have := (List.isPrefixOf_iff_prefix.1 hp).length_le
  rw [List.length_append] at this
  simp at this; omega
theorem cnt_wd {word x : Bs} (h : x.take word.length ≠ word) : cntO word (some x) = none := by
  unfold cntO
  simp only
  rw [if_neg fun hp => ?_]
  obtain ⟨t, ht⟩ := List.isPrefixOf_iff_prefix.1 hp
  refine h ?_
  rw [← ht, List.append_assoc, List.take_left]
theorem cnt_bl {word x : Bs} {c : UInt8} (hc : x[word.length]? = some c) (h : c ≠ 32) : cntO word (some x) = none := by
  unfold cntO
  simp only
  rw [if_neg fun hp => ?_]
  obtain ⟨t, ht⟩ := List.isPrefixOf_iff_prefix.1 hp
  rw [← ht, List.append_assoc, List.getElem?_append_right (Nat.le_refl _), Nat.sub_self] at hc
  exact h (Option.some.inj hc).symm
theorem cnt_ok {word x : Bs} (h1 : x.take word.length = word) (h2 : x[word.length]? = some 32) : cntO word (some x) = Nu.decL (x.drop (word.length + 1)) := by
  unfold cntO
  simp only
  rw [if_pos (List.isPrefixOf_iff_prefix.2 ⟨x.drop (word.length + 1), ?_⟩)]
  have hlt := (List.getElem?_eq_some_iff.1 h2).1
  have hx := (List.getElem?_eq_some_iff.1 h2).2
  have h3 := List.drop_eq_getElem_cons hlt
  rw [hx] at h3
  conv => rhs; rw [← List.take_append_drop word.length x, h1, h3]
  simp
set_option maxRecDepth 100000 in
set_option maxHeartbeats 8000000 in
theorem RCounted10 (l : List Bs) (v : Value) (i : Nat) (word : Bs) (w : World) (hv : StrsR w v l) (hm : ∀ x ∈ l, x.length ≤ 900000) (hl : l.length ≤ 1000000) (hi : i ≤ 1000000) (hw : word.length ≤ 1000) : Calls Tryz.prog 31 #[v, .int .i64 (i : Int), .string ⟨word.toArray⟩] w fun e w' => e = .returned (Nu.decV (cntO word l[i]?)) ∧ w = w' := by
  obtain ⟨A, c, rfl⟩ := hv.shape
  obtain ⟨n, hn⟩ : ∃ n, n = l.length := ⟨_, rfl⟩
  have hnl : n ≤ 1000000 := by omega
  obtain ⟨q, hq⟩ : ∃ q, word.length = q := ⟨_, rfl⟩
  have hql : q ≤ 1000 := by omega
  rw [← hn] at hv ⊢
  have HV := Lib.hid hv; have HN := Lib.hid hn; have HQ := Lib.hid hq
  by_cases hlt : i < n
  · obtain ⟨g, o, c', e, _, hg⟩ := HV.out.pos (by have := HN.out; omega)
    obtain rfl : A = some ⟨g, o, none⟩ := by rw [← HN.out] at e; cases e; rfl
    obtain ⟨x, hx⟩ : ∃ x, l[i]? = some x := ⟨_, List.getElem?_eq_getElem (by omega)⟩
    have hcell : w.cell? ⟨g, o + i, none⟩ = some (.string ⟨x.toArray⟩) := by
      have h := Rf.RdK.at hv hx (i := 0) (by decide) rfl
      rw [Nat.mul_one, Nat.add_zero] at h
      exact h
    obtain ⟨m, hmm⟩ : ∃ m, x.length = m := ⟨_, rfl⟩
    have hml : m ≤ 900000 := by have := hm x (List.mem_of_getElem? hx); omega
    have HX := Lib.hid hx; have HM := Lib.hid hmm
    have hltI : (i : Int) < (n : Int) := by omega
    have hgeI : ¬ (n : Int) ≤ (i : Int) := by omega
    clear hv hn hm hl hi hw e hg
    by_cases hsh : m < q + 1
    · have hshI : (m : Int) < (q : Int) + 1 := by omega
      go_enter Tryz.func31, Tryz.ntmps31
      have HE : Hid (cntO word l[i]? = none) := Lib.hid (by rw [HX.out]; exact cnt_lo (by rw [HM.out, HQ.out]; exact hsh))
      clear HN HV HX HQ HM hx
      go_wp2_with fail
      go_ret2
      exact ⟨by rw [HE.out]; rfl, rfl⟩
    have hshI : ¬ (m : Int) < (q : Int) + 1 := by omega
    obtain ⟨p, hp⟩ : ∃ p, p = x.take q := ⟨_, rfl⟩
    have hxp : (⟨x.toArray⟩ : ByteArray).extract 0 q = ⟨p.toArray⟩ := by rw [extract_S, hp]; rfl
    have HP := Lib.hid hp
    clear hp
    by_cases hpw : p = word
    · obtain ⟨y, hy⟩ : ∃ y, x[q]? = some y := ⟨_, List.getElem?_eq_getElem (by omega)⟩
      have hyi : ∀ hh, (⟨x.toArray⟩ : ByteArray)[q]'hh = y := fun hh => by
        have := (List.getElem?_eq_some_iff.1 hy).2
        show x.toArray[q] = _; simpa using this
      have HY := Lib.hid hy
      by_cases hyb : y = 32
      · subst hyb
        obtain ⟨t, ht⟩ : ∃ t, t = x.drop (q + 1) := ⟨_, rfl⟩
        have hxt : (⟨x.toArray⟩ : ByteArray).extract (q + 1) m = ⟨t.toArray⟩ := by rw [extract_S, ht, ← HM.out, List.take_length]
        have HD := Lib.hid (Nu.RDecimal_any t (by unfold maxLen; rw [ht, List.length_drop]; omega) w)
        have HE : Hid (cntO word l[i]? = Nu.decL t) := Lib.hid (by rw [HX.out, cnt_ok (by rw [HQ.out, ← HP.out]; exact hpw) (by rw [HQ.out]; exact HY.out), HQ.out, ht])
        obtain ⟨da, db, hd⟩ : ∃ a b, Nu.decV (Nu.decL t) = .tuple #[.int .i64 ((a : Nat) : Int), .bool b] := ⟨_, _, rfl⟩
        rw [hd] at HD
        have hm1 : (q : Int) + 1 ≤ (m : Int) := by omega
        have HDv := Lib.hid hd
        subst hpw
        clear HN HV HX HQ HM HP HY ht hy hlt hd hx
        unfold Nu.SV at HD
        go_enter Tryz.func31, Tryz.ntmps31
        go_wp2_with fail
        refine HD.out.mono ?_
        rintro e w2 ⟨rfl, rfl⟩
        go_wp2_with fail
        go_ret2
        exact ⟨by rw [HE.out, HDv.out]; rfl, rfl⟩
      · have hyI : ((y.toNat : Int) != 32) = true := by
          have h5 : ((y.toNat : Int) == 32) = decide (y = 32) := u8_eqR y 32
          show (!((y.toNat : Int) == 32)) = true
          rw [h5, decide_eq_false hyb]; rfl
        subst hpw
        go_enter Tryz.func31, Tryz.ntmps31
        have HE : Hid (cntO p l[i]? = none) := Lib.hid (by rw [HX.out]; exact cnt_bl (by rw [HQ.out]; exact HY.out) hyb)
        clear HN HV HX HQ HM hx
        go_wp2_with fail
        go_ret2
        exact ⟨by rw [HE.out]; rfl, rfl⟩
    · have hpn : (p == word) = false := beq_eq_false_iff_ne.2 hpw
      go_enter Tryz.func31, Tryz.ntmps31
      have HE : Hid (cntO word l[i]? = none) := Lib.hid (by rw [HX.out]; exact cnt_wd (by rw [HQ.out, ← HP.out]; exact hpw))
      clear HN HV HX HQ HM hx
      go_wp2_with fail
      go_ret2
      exact ⟨by rw [HE.out]; rfl, rfl⟩
  · have hgeI : (n : Int) ≤ (i : Int) := by omega
    have HX : Hid (l[i]? = none) := Lib.hid (by rw [List.getElem?_eq_none]; omega)
    have HM := HN
    clear hv hn hm hl hi hw
    go_enter Tryz.func31, Tryz.ntmps31
    have HE : Hid (cntO word l[i]? = none) := Lib.hid (by rw [HX.out]; rfl)
    clear HN HV HX HQ HM
    go_wp2_with fail
    go_ret2
    exact ⟨by rw [HE.out]; rfl, rfl⟩
end Go.Proofs.YtnboagmibhllpaaGreatDoor.Ro
