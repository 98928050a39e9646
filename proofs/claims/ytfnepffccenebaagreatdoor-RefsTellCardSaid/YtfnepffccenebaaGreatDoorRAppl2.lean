/-
  Apply, whole.
-/
import Derived.Test.YtfnepffccenebaaGreatDoorRApply
namespace Go.Proofs.YtfnepffccenebaaGreatDoor.Rf
open Go.Proofs.YtfnepffccenebaaGreatDoor
open Go Go.RowKit Go.Maps

section
variable {α : Type} {st t : TypeId} {k bt : Nat} {f : α → List Value}
theorem wpList_appK (E : ElK st t k bt f) {ops : Array Oper} {rest : List Oper} {o : Oper} {a : Go.Act} {w : World} {Q : Exit → Go.Act → World → Prop} (hgd : o.guard = none) (s y : Operand)
    (ho : o.op = .call { callee := .builtin .append, args := #[s, y], argTypes := #[st, st] }) (base : Nat) (v : Value) (l m : List α) (adr : Addr) (n c : Nat) (hn : n = m.length) (hs : a.eval s = v) (hy : a.eval y = .slice (some adr) n c)
    (h : OwK t k f w base v l) (hc : ∀ j u, (m.flatMap f)[j]? = some u → w.cell? (adr.add j) = some u) (hl : l.length + m.length ≤ 1000000) (hbt : bt ≤ 1000) (hb : base ≤ w.heap.size)
    (kk : ∀ v' w', OwK t k f w' base v' (l ++ m) → Below base w w' → wpList Tryz.prog ops Q rest (a.put o.dst v') w') : wpList Tryz.prog ops Q (o :: rest) a w := by
  obtain ⟨v', w', h1, h2, h3, _⟩ := run_appK E h adr n c hn hc hl hbt hb o.type
  refine wpList_plain hgd fun K hK => ?_
  unfold Oper.wp
  simp [execOp, ho, resolve, invoke, builtin, hs, hy, h1, Result.andThen]
  exact hK _ _ (kk v' w' h2 h3)
end
set_option maxRecDepth 100000 in
set_option maxHeartbeats 1000000 in
theorem Clone_0 (p : Addr) (c : Nat) (w : World) : Calls Tryz.prog 33 #[.slice (some p) 0 c] w (ListP [] w) := by
  have O1 := Lib.hid (OwK.new0 (t := 45) (k := 2) (f := refC) w w.heap.size (Nat.le_refl _))
  have B1 := Lib.hid (below_al w (.cells #[] 45))
  obtain ⟨w1, hw1⟩ : ∃ w1, w1 = w.alloc (.cells #[] 45) := ⟨_, rfl⟩
  rw [← hw1] at O1 B1
  have HW := Lib.hid hw1
  have q22 : ∀ (w : World) (a : Option Addr) (n c n' c' : Nat), (binOp .eql 22 (.slice a n c) (.slice none n' c')).run Tryz.prog w = .ok (.bool a.isNone) w := fun w a n c n' c' => Lib.run_eql_slice_nil w _ _ a n c n' c' Tryz.underlying22
  clear hw1
  go_enter Tryz.func33, Tryz.ntmps33
  go_wp2_with (rw [← HW.out]; refine wpList_appK elRef (o := ⟨some 7, _, _, _, _, _⟩) rfl _ _ rfl w.heap.size (.slice (some ⟨w.heap.size, 0, none⟩) 0 0) [] [] p 0 c rfl rfl rfl O1.out (fun j u hj => by simp at hj) (by decide) (by decide) B1.out.size ?_)
  intro v' w2 h1 h2
  have H1 := Lib.hid h1; have H2 := Lib.hid (B1.out.trans h2)
  clear h1 h2
  go_wp2_with fail
  go_ret
  exact ⟨_, rfl, H1.out, H2.out⟩
theorem Clone_p (l : List Ref) (v : Value) (w : World) (hv : RefsR w v l) (hl : l.length ≤ 100000) : Calls Tryz.prog 33 #[v] w (ListP l w) := by
  obtain ⟨A, c, rfl⟩ := hv.shape
  cases A with
  | none =>
    have hl0 : l = [] := by
      rcases Nat.eq_zero_or_pos l.length with h | h
      · exact List.eq_nil_of_length_eq_zero h
      · obtain ⟨g, o, c', e, _⟩ := hv.pos h; cases e
    subst hl0
    refine (AnyE.slices_Clone_nil Tryz.cloA 0 c w).mono ?_
    rintro e w' ⟨rfl, rfl⟩
    exact ⟨_, rfl, OwK.nil _ _ _ _ _, Below.refl _ _⟩
  | some p =>
    obtain ⟨i0, hi⟩ : ∃ i0, Tryz.prog.info? 45 = some i0 := by
      cases h : Tryz.prog.info? 45 with
      | none => have h2 : (Tryz.prog.info? 45).isSome = true := by kernel_rfl
                rw [h] at h2; cases h2
      | some i => exact ⟨i, rfl⟩
    obtain ⟨z, hz, hzs⟩ := elRef.info
    rw [hi] at hz
    simp only [Option.map_some, Option.some.injEq, Prod.mk.injEq] at hz
    obtain ⟨g, o, hp⟩ : ∃ g o, l = [] ∨ p = ⟨g, o, none⟩ := by
      rcases Nat.eq_zero_or_pos l.length with h | h
      · exact ⟨0, 0, .inl (List.eq_nil_of_length_eq_zero h)⟩
      · obtain ⟨g, o, c', e, _⟩ := hv.pos h
        cases e; exact ⟨g, o, .inr rfl⟩
    rcases hp with rfl | rfl
    · exact Clone_0 p c w
    · refine (AnyE.slices_Clone Tryz.cloA i0 z 2 32 hi hz.1 hz.2.1 hz.2.2 hzs (by decide) (fun w => by kernel_rfl) g o l.length c (l.flatMap refC) w (flat_length refC_len l) (by unfold maxLen; omega) (by omega) (fun j u hj => ?_) (fun u hu => ?_)).mono ?_
      · have hlt : j < l.length * 2 := by rw [← flat_length refC_len]; exact (List.getElem?_eq_some_iff.1 hj).1
        have hq : j / 2 < l.length := by omega
        have hx : l[j / 2]? = some l[j / 2] := List.getElem?_eq_getElem hq
        have h1 := flat_get refC_len l (j / 2) _ hx (j % 2) (by omega)
        have e1 : j / 2 * 2 + j % 2 = j := by omega
        rw [e1, hj] at h1
        have h2 := RdK.at hv hx (i := j % 2) (by omega) h1.symm
        have e2 : o + j / 2 * 2 + j % 2 = o + j := by omega
        rw [e2] at h2; exact h2
      · obtain ⟨x, _, hx⟩ := List.mem_flatMap.1 hu
        exact refC_one x u hx
      · rintro e w' ⟨v', rfl, h1, _, h2⟩
        exact ⟨v', rfl, h1, h2⟩
/-- What Apply answers, in memory. -/
def ApplyP (l : List Ref) (u : List Upd) (w : World) (e : Ending) (w' : World) : Prop :=
  ∃ v r ec pl, e = .returned (.tuple #[v, .int .i64 ((ec : Nat) : Int), .int .i64 ((pl : Nat) : Int)]) ∧ RefsR w' v r ∧ IsApply l u (r, ec, pl) ∧ Below w.heap.size w w'
theorem isApply_no {l : List Ref} {u : List Upd} (h : ¬ Asked l u) : IsApply l u ([], 1, 0) := .inr ⟨h, rfl⟩
theorem isApply_err {l : List Ref} {u : List Upd} (h : Asked l u) (he : (errL l u).1 ≠ 0) : IsApply l u (l, (errL l u).1, (errL l u).2) := .inl ⟨h, by rw [applyL_err, if_neg he]⟩
theorem errL_zero {l : List Ref} {u : List Upd} (he : (errL l u).1 = 0) : (errL l u).2 = 0 := by
  unfold errL at he ⊢
  cases h1 : firstN (badI u) u.length with
  | some i => rw [h1] at he; cases he
  | none =>
    rw [h1] at he
    cases h2 : firstN (staleI l u) u.length with
    | some i => rw [h2] at he; cases he
    | none =>
      rw [h2] at he
      cases h3 : firstN (clashI (outL l u) u) u.length with
      | some i => rw [h3] at he; cases he
      | none => rw [h3] at he; simp only at he ⊢; split <;> rfl
theorem errL_le {l : List Ref} {u : List Upd} : (errL l u).1 ≤ 92 := by
  unfold errL
  split
  · exact (by decide : (1 : Nat) ≤ 92)
  · split
    · exact Nat.le_refl _
    · split
      · exact (by decide : (91 : Nat) ≤ 92)
      · split <;> decide
theorem isApply_ok {l : List Ref} {u : List Upd} (h : Asked l u) (he : (errL l u).1 = 0) : IsApply l u (outL l u, 0, 0) := .inl ⟨h, by rw [applyL_err, if_pos he]⟩
set_option maxRecDepth 100000 in
set_option maxHeartbeats 8000000 in
theorem Apply_p (l : List Ref) (lv : Value) (u : List Upd) (uv : Value) (w : World) (hv : RefsR w lv l) (hu : UpdsR w uv u) (hf : Fit l) (hfu : FitU u) (hl : l.length ≤ 100000) (hul : u.length ≤ 100000) :
    Calls Tryz.prog 13 #[lv, uv] w (ApplyP l u w) := by
  have HR := Lib.hid (Right_p l lv w hv hf (by omega))
  obtain ⟨A, c, rfl⟩ := hu.shape
  obtain ⟨N, hN⟩ : ∃ N, N = u.length := ⟨_, rfl⟩
  rw [← hN] at hu hul ⊢
  have HV := Lib.hid hv; have HU := Lib.hid hu; have HF := Lib.hid hfu; have HN := Lib.hid hN
  clear hv hf hfu hN
  obtain ⟨A2, c2, rfl⟩ := HV.out.shape
  obtain ⟨M, hM⟩ : ∃ M, M = l.length := ⟨_, rfl⟩
  rw [← hM] at HV HR hl ⊢
  have HM := Lib.hid hM
  clear hM hu
  by_cases hr : Right l
  case neg =>
    rw [rightB_no hr] at HR
    have HA := Lib.hid (isApply_no (l := l) (u := u) fun h => hr h.1)
    clear hr
    go_enter Tryz.func13, Tryz.ntmps13
    go_wp2_with fail
    refine HR.out.mono ?_
    rintro e w1 ⟨rfl, hb⟩
    have HB := Lib.hid hb
    clear hb
    go_wp2_with fail
    go_ret3
    exact ⟨.slice none 0 0, [], 1, 0, rfl, .inl ⟨⟨none, 0, rfl⟩, rfl⟩, HA.out, HB.out⟩
  rw [rightB_yes hr] at HR
  by_cases h1 : 1 ≤ N
  case neg =>
    have hI : (N : Int) < 1 := by omega
    have HA := Lib.hid (isApply_no (l := l) (u := u) fun h => h1 (by rw [HN.out]; exact h.2.1))
    clear hr h1
    go_enter Tryz.func13, Tryz.ntmps13
    go_wp2_with fail
    refine HR.out.mono ?_
    rintro e w1 ⟨rfl, hb⟩
    have HB := Lib.hid hb
    clear hb
    go_wp2_with fail
    go_ret3
    exact ⟨.slice none 0 0, [], 1, 0, rfl, .inl ⟨⟨none, 0, rfl⟩, rfl⟩, HA.out, HB.out⟩
  have hI1 : ¬ (N : Int) < 1 := by omega
  by_cases h16 : N ≤ 16
  case neg =>
    have hI : (16 : Int) < (N : Int) := by omega
    have HA := Lib.hid (isApply_no (l := l) (u := u) fun h => h16 (by rw [HN.out]; exact h.2.2))
    clear hr h1 h16
    go_enter Tryz.func13, Tryz.ntmps13
    go_wp2_with fail
    refine HR.out.mono ?_
    rintro e w1 ⟨rfl, hb⟩
    have HB := Lib.hid hb
    clear hb
    go_wp2_with fail
    go_ret3
    exact ⟨.slice none 0 0, [], 1, 0, rfl, .inl ⟨⟨none, 0, rfl⟩, rfl⟩, HA.out, HB.out⟩
  have hI16 : ¬ (16 : Int) < (N : Int) := by omega
  have HAsk : Hid (Asked l u) := Lib.hid ⟨hr, by rw [← HN.out]; exact h1, by rw [← HN.out]; exact h16⟩
  have HRt := Lib.hid hr
  have H16 := Lib.hid h16
  clear hr h1 h16
  go_enter Tryz.func13, Tryz.ntmps13
  go_wp2_with fail
  refine HR.out.mono ?_
  rintro e w1 ⟨rfl, hb⟩
  have HB1 := Lib.hid hb
  have HNm := Lib.hid (nameMap_p l _ w1 (RdK.below HV.out hb (Nat.le_refl _)) HRt.out)
  clear hb HR
  go_wp2_with fail
  refine HNm.out.mono ?_
  rintro e w2 ⟨b, n, rfl, hbb, hn, hm, hb⟩
  have HB2 := Lib.hid (HB1.out.trans (hb.mono HB1.out.size))
  have HC := Lib.hid (change_p l u _ b n w w2 HU.out HF.out (by rw [← HN.out]; exact H16.out) (by have := HRt.out.len; omega) HRt.out.rise HRt.out.len HB2.out (Nat.le_trans HB1.out.size hbb) hm)
  clear hbb hn hm hb HNm
  go_wp2_with fail
  refine HC.out.mono ?_
  rintro e w3 ⟨rfl, hb3, hok⟩
  have HB3 := Lib.hid (HB2.out.trans hb3)
  have Hok := Lib.hid hok
  obtain ⟨ec, hec⟩ : ∃ ec, ec = (errL l u).1 := ⟨_, rfl⟩
  obtain ⟨pl, hpl⟩ : ∃ pl, pl = (errL l u).2 := ⟨_, rfl⟩
  rw [← hec] at Hok ⊢
  rw [← hpl]
  have Hec := Lib.hid hec; have Hpl := Lib.hid hpl
  have hle : ec ≤ 92 := by rw [hec]; exact errL_le
  clear hec hpl hb3 hok HC
  by_cases h0 : ec = 0
  · subst h0
    have hp0 : pl = 0 := by rw [Hpl.out]; exact errL_zero Hec.out.symm
    obtain ⟨n3, hm3⟩ := Hok.out rfl
    have HA := Lib.hid (isApply_ok HAsk.out Hec.out.symm)
    have hlen := outL_len HRt.out.rise u
    have HLs := Lib.hid (list_p (outL l u) b n3 w3 (rise_outL HRt.out.rise) (by have := HRt.out.len; have := HN.out; have := H16.out; omega) hm3)
    clear hlen hm3 hp0 Hpl Hok
    go_wp2_with fail
    refine HLs.out.mono ?_
    rintro e w4 ⟨v4, rfl, ho4, hb4⟩
    have HO4 := Lib.hid ho4; have HB4 := Lib.hid (HB3.out.trans (hb4.mono HB3.out.size))
    clear ho4 hb4
    go_wp2_with fail
    go_ret3
    exact ⟨v4, outL l u, 0, 0, rfl, OwK.rd refC_len HO4.out, HA.out, HB4.out⟩
  · have hne : ((ec : Int) != 0) = true := by simp; omega
    have HA : Hid (IsApply l u (l, ec, pl)) := Lib.hid (by rw [Hec.out, Hpl.out]; exact isApply_err HAsk.out (by rw [← Hec.out]; exact h0))
    have HCl := Lib.hid (Clone_p l _ w3 (RdK.below HV.out HB3.out (Nat.le_refl _)) (by rw [← HM.out]; exact hl))
    have HCl : Hid (Calls Tryz.prog 33 #[.slice A2 M c2] w3 (ListP l w3)) := HCl
    clear h0 Hok
    go_wp2_with fail
    refine HCl.out.mono ?_
    rintro e w4 ⟨v4, rfl, ho4, hb4⟩
    have HO4 := Lib.hid ho4; have HB4 := Lib.hid (HB3.out.trans (hb4.mono HB3.out.size))
    clear ho4 hb4
    go_wp2_with fail
    go_ret3
    exact ⟨v4, l, ec, pl, rfl, OwK.rd refC_len HO4.out, HA.out, HB4.out⟩
end Go.Proofs.YtfnepffccenebaaGreatDoor.Rf
