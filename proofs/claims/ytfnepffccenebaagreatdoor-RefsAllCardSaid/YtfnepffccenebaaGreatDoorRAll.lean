/-
  RefsAll, walked.
-/
import Derived.Test.YtfnepffccenebaaGreatDoorROrd
import Derived.Test.YtfnepffccenebaaGreatDoorRHead
import Derived.Test.YtfnepffccenebaaGreatDoorRLawP
namespace Go.Proofs.YtfnepffccenebaaGreatDoor.Rf
open Go.Proofs.YtfnepffccenebaaGreatDoor
open Go Go.RowKit

/-- What a slice of refs holds, behind one of one's own. -/
theorem wpList_appR {ops : Array Oper} {rest : List Oper} {o : Oper} {a : Act} {w : World} {Q : Exit → Act → World → Prop} (hgd : o.guard = none) (s y : Operand)
    (ho : o.op = .call { callee := .builtin .append, args := #[s, y], argTypes := #[22, 22] }) (base : Nat) (v u : Value) (l m : List Ref) (hs : a.eval s = v) (hy : a.eval y = u)
    (h : OwR w base v l) (hu : RefsR w u m) (hl : l.length + m.length ≤ 1000000) (hb : base ≤ w.heap.size)
    (kk : ∀ A n c w', n = (l ++ m).length → OwR w' base (.slice A n c) (l ++ m) → Below base w w' → wpList Tryz.prog ops Q rest (a.put o.dst (.slice A n c)) w') : wpList Tryz.prog ops Q (o :: rest) a w := by
  have hrun : ∃ v' w', (Builtin.append_ #[22, 22] o.type #[v, u]).run Tryz.prog w = .ok v' w' ∧ OwR w' base v' (l ++ m) ∧ Below base w w' := by
    by_cases h0 : m.length = 0
    · obtain rfl : m = [] := List.eq_nil_of_length_eq_zero h0
      obtain ⟨A, c, rfl⟩ := hu.shape
      obtain ⟨A', c', rfl⟩ : ∃ A c, v = .slice A l.length c := (OwK.rd refC_len h).shape
      cases A with
      | none =>
        have hle : l.length ≤ c' := by
          by_cases hl0 : l.length = 0
          · omega
          · obtain ⟨g2, o2, c2, e2, hc2, _⟩ := (OwK.rd refC_len h).pos (by omega)
            obtain rfl : c' = c2 := by cases e2; rfl
            exact hc2
        refine ⟨_, w, ?_, by rw [List.append_nil]; exact h, Below.refl _ _⟩
        cases A' <;> simp [go_sem, hle]
      | some p =>
        obtain ⟨v', w', h1, h2, h3, _⟩ := run_appK elRef h p 0 c (m := []) rfl (by simp) hl (by decide) hb o.type
        exact ⟨v', w', h1, h2, h3⟩
    · obtain ⟨g, o', c', rfl, hc, hg⟩ := hu.pos (by omega)
      obtain ⟨v', w', h1, h2, h3, _⟩ := run_appK elRef h ⟨g, o', none⟩ m.length c' (m := m) rfl (fun j x hj => by
        have hlt : j < m.length * 2 := by rw [← flat_length refC_len]; exact (List.getElem?_eq_some_iff.1 hj).1
        have hq : j / 2 < m.length := by omega
        have hx : m[j / 2]? = some m[j / 2] := List.getElem?_eq_getElem hq
        have h1 := flat_get refC_len m (j / 2) _ hx (j % 2) (by omega)
        have e1 : j / 2 * 2 + j % 2 = j := by omega
        rw [e1, hj] at h1
        have h2 := RdK.at hu hx (i := j % 2) (by omega) h1.symm
        have e2 : o' + j / 2 * 2 + j % 2 = o' + j := by omega
        rw [e2] at h2; rw [Addr.add_lit]; exact h2) hl (by decide) hb o.type
      exact ⟨v', w', h1, h2, h3⟩
  obtain ⟨v', w', h1, h2, h3⟩ := hrun
  obtain ⟨A', n', c', rfl, hn⟩ := OwK.shape h2
  refine wpList_plain hgd fun K hK => ?_
  unfold Oper.wp
  simp [execOp, ho, resolve, invoke, builtin, hs, hy, h1, Result.andThen]
  exact hK _ _ (kk A' n' c' w' hn h2 h3)
theorem Done.fit' {l a : List Ref} {u : List Upd} (h : Done l a u) : Fit a := fun r hr => by
  have h1 := nameB_len (h.right'.name r hr); have h2 := named_len64 (h.right'.id r hr)
  unfold maxLen; omega
set_option maxRecDepth 100000 in
set_option maxHeartbeats 8000000 in
theorem All_law (w : World) (lv : Value) (l : List Ref) (hv : RefsR w lv l) (hf : Fit l) (hl : l.length ≤ lim) (uv : Value) (u : List Upd) (hu : UpdsR w uv u) (hfu : FitU u) (hul : u.length ≤ lim) :
    Calls Tryz.prog 5 #[lv, uv] w (BoolB true w) := by
  obtain ⟨A, c, rfl⟩ := hv.shape
  obtain ⟨B, d, rfl⟩ := hu.shape
  obtain ⟨N, hN⟩ : ∃ N, N = u.length := ⟨_, rfl⟩
  obtain ⟨M, hM⟩ : ∃ M, M = l.length := ⟨_, rfl⟩
  rw [← hM] at hv
  rw [← hN] at hu
  rw [← hM, ← hN]
  have HH := Lib.hid (head_p w)
  have HV := Lib.hid hv; have HU := Lib.hid hu; have HF := Lib.hid hf; have HFU := Lib.hid hfu; have HN := Lib.hid hN; have HM := Lib.hid hM
  have Hl := Lib.hid hl; have Hul := Lib.hid hul
  clear hv hu hf hfu hN hM hl hul
  go_enter Tryz.func5, Tryz.ntmps5
  go_wp2_with fail
  refine HH.out.mono ?_
  rintro e w1 ⟨rfl, hb⟩
  have L1 := Lib.hid hb
  have HG1 := Lib.hid (GreatR_any (RdK.below HV.out hb (Nat.le_refl _)) Hl.out)
  clear hb HH
  go_wp2_with fail
  refine HG1.out.mono ?_
  rintro e w2 ⟨g1, rfl, hb, hg1⟩
  have L2 := Lib.hid (L1.out.trans (hb.mono L1.out.size))
  clear hb HG1
  cases g1 with
  | true =>
    clear hg1
    go_wp2_with fail
    go_ret
    exact ⟨rfl, L2.out⟩
  | false =>
  have HS1 := Lib.hid (hg1 rfl)
  have HG2 := Lib.hid (GreatU_any (RdK.below HU.out L2.out (Nat.le_refl _)) Hul.out)
  clear hg1
  go_wp2_with fail
  refine HG2.out.mono ?_
  rintro e w3 ⟨g2, rfl, hb, hg2⟩
  have L3 := Lib.hid (L2.out.trans (hb.mono L2.out.size))
  clear hb HG2
  cases g2 with
  | true =>
    clear hg2
    go_wp2_with fail
    go_ret
    exact ⟨rfl, L3.out⟩
  | false =>
  have HS2 := Lib.hid (hg2 rfl)
  have HAp := Lib.hid (Apply_p l _ u _ w3 (RdK.below HV.out L3.out (Nat.le_refl _)) (RdK.below HU.out L3.out (Nat.le_refl _)) HF.out HFU.out (by have := HS1.out.1; omega) (by have := HS2.out.1; omega))
  clear hg2
  go_wp2_with fail
  refine HAp.out.mono ?_
  rintro e w4 ⟨va, a, ec, pl, rfl, hra, hia, hb⟩
  have L4 := Lib.hid (L3.out.trans (hb.mono L3.out.size))
  obtain ⟨A4, c4, rfl⟩ := hra.shape
  obtain ⟨Ma, hMa⟩ : ∃ z, z = a.length := ⟨_, rfl⟩
  rw [← hMa] at hra ⊢
  have HRa := Lib.hid hra; have HIa := Lib.hid hia; have HMa := Lib.hid hMa
  clear hra hia hb HAp hMa
  by_cases h0 : ec = 0
  case neg =>
    have hne : ((ec : Int) != 0) = true := by simp; omega
    have hpl : pl ≤ N := by rw [HN.out]; exact (HIa.out.err h0).2
    have hpI : (0 : Int) ≤ (pl : Int) := by omega
    have hpI2 : (pl : Int) ≤ (N : Int) := by omega
    have hal : a = [] ∨ a = l := (HIa.out.err h0).1
    rcases hal with hal | hal
    · have hM0 : Ma = 0 := by rw [HMa.out, hal]; rfl
      subst hM0
      clear h0 hal
      go_wp2_with fail
      go_ret
      exact ⟨rfl, L4.out⟩
    · have HSm := Lib.hid (Same_p HRa.out (RdK.below HV.out L4.out (Nat.le_refl _)) (by rw [hal]; have := HS1.out.1; omega))
      rw [decide_eq_true hal] at HSm
      clear h0 hal
      by_cases hM0 : Ma = 0
      · subst hM0
        clear HSm
        go_wp2_with fail
        go_ret
        exact ⟨rfl, L4.out⟩
      · have hMI : ((Ma : Int) == 0) = false := by simp; omega
        clear hM0
        go_wp2_with fail
        refine HSm.out.mono ?_
        rintro e w5 ⟨rfl, hb⟩
        have L5 := Lib.hid (L4.out.trans (hb.mono L4.out.size))
        clear hb
        go_wp2_with fail
        go_ret
        exact ⟨rfl, L5.out⟩
  subst h0
  have HD := Lib.hid HIa.out.done
  have hNb : N ≤ 40 := by rw [HN.out]; exact HS2.out.1
  have hMab : Ma ≤ 64 := by rw [HMa.out]; exact HD.out.right'.len
  have hMb : M ≤ 100 := by rw [HM.out]; exact HS1.out.1
  clear HIa
  go_wp2_with fail
  go_loopw [9] (fun i wr => ∃ k : Nat, k ≤ N ∧ i = .int .i64 k ∧ Hid (Below w4.heap.size w4 wr)) (fun i _ => N - (intOf i).toNat)
  case atStart => exact ⟨0, Nat.zero_le _, rfl, Lib.hid (Below.refl _ _)⟩
  case round =>
    obtain ⟨k, hk, rfl, hB⟩ := hrel
    by_cases hlt : k < N
    · obtain ⟨g, o, c', e, _, hg⟩ := HU.out.pos (by have := HN.out; omega)
      obtain rfl : B = some ⟨g, o, none⟩ := by rw [← HN.out] at e; cases e; rfl
      clear e
      obtain ⟨x, hx⟩ : ∃ x, u[k]? = some x := ⟨_, List.getElem?_eq_getElem (by have := HN.out; omega)⟩
      have hcell := fun W (hW : Below w.heap.size w W) => UpdsR.cells (RdK.below HU.out hW (Nat.le_refl _)) hx
      have hnew := HD.out.new x (List.mem_of_getElem? hx)
      have hold := HD.out.old x (List.mem_of_getElem? hx)
      obtain ⟨nm, od, nw⟩ := x
      unfold SV at hcell
      simp only at hcell hnew hold
      have C0 := Lib.hid fun W hW => (hcell W hW).1
      have C1 := Lib.hid fun W hW => (hcell W hW).2.1
      have C2 := Lib.hid fun W hW => (hcell W hW).2.2
      have HI := Lib.hid fun W => at_u W g o N d k hlt
      have L5 := L4.out.trans (hB.out.mono L4.out.size)
      have LD : Hid (Below w.heap.size w wr.drew) := Lib.hid L5.drew
      have B4 : Hid (Below w4.heap.size w4 wr.drew) := Lib.hid hB.out.drew
      have HF1 := Lib.hid (Find_p a _ nm wr.drew (RdK.below HRa.out B4.out (Nat.le_refl _)) (by have := HD.out.right'.len; omega))
      rw [hnew] at HF1
      have HF2 := fun W (hW : Below w.heap.size w W) => Lib.hid (Find_p l _ nm W (RdK.below HV.out hW (Nat.le_refl _)) (by have := HS1.out.1; omega))
      rw [hold] at HF2
      clear hx hcell L5 hB hg hnew hold
      go_wp2_with fail
      refine AnyB.start (by kernel_rfl) ?_
      refine AnyB.take 0 (.slice A4 Ma c4) rfl (by kernel_rfl) (by kernel_rfl) (by kernel_rfl) (fun _ _ _ h => h) (by kernel_rfl) (fun W hW => by kernel_rfl) ?_
      refine AnyB.take 1 (.slice (some ⟨g, o, none⟩) N d) rfl (by kernel_rfl) (by kernel_rfl) (by kernel_rfl) (fun _ _ _ h => h) (by kernel_rfl) (fun W hW => by kernel_rfl) ?_
      refine AnyB.take 2 (.int .i64 (k : Int)) rfl (by kernel_rfl) (by kernel_rfl) (by kernel_rfl) (fun _ _ _ h => h) (by kernel_rfl) (fun W hW => by kernel_rfl) ?_
      refine AnyB.take 3 (.pointer (some ⟨g, o + k * 3, none⟩)) rfl (by kernel_rfl) (by kernel_rfl) (by kernel_rfl) (fun _ _ _ h => h) (by kernel_rfl) (fun W hW => y_index (sv := .slice (some ⟨g, o, none⟩) N d) (iv := .int .i64 (k : Int)) rfl (by kernel_rfl) (by kernel_rfl) (HI.out W)) ?_
      refine AnyB.take 4 (.pointer (some ⟨g, o + k * 3, none⟩)) rfl (by kernel_rfl) (by kernel_rfl) (by kernel_rfl) (fun _ _ _ h => h) (by kernel_rfl) (fun W hW => y_field (sv := .pointer (some ⟨g, o + k * 3, none⟩)) rfl (by kernel_rfl) (f_u0 W g (o + k * 3))) ?_
      refine AnyB.take 5 (.string ⟨nm.toArray⟩) rfl (by kernel_rfl) (by kernel_rfl) (by kernel_rfl) (fun _ _ _ h => h) (by kernel_rfl) (fun W hW => y_load (sv := .pointer (some ⟨g, o + k * 3, none⟩)) rfl (by kernel_rfl) (l_S W g (o + k * 3) nm (C0.out W (LD.out.trans (hW.mono LD.out.size))))) ?_
      refine AnyB.take 7 (.slice (some ⟨g, o, none⟩) N d) rfl (by kernel_rfl) (by kernel_rfl) (by kernel_rfl) (fun _ _ _ h => h) (by kernel_rfl) (fun W hW => by kernel_rfl) ?_
      refine AnyB.take 8 (.int .i64 (k : Int)) rfl (by kernel_rfl) (by kernel_rfl) (by kernel_rfl) (fun _ _ _ h => h) (by kernel_rfl) (fun W hW => by kernel_rfl) ?_
      refine AnyB.take 9 (.pointer (some ⟨g, o + k * 3, none⟩)) rfl (by kernel_rfl) (by kernel_rfl) (by kernel_rfl) (fun _ _ _ h => h) (by kernel_rfl) (fun W hW => y_index (sv := .slice (some ⟨g, o, none⟩) N d) (iv := .int .i64 (k : Int)) rfl (by kernel_rfl) (by kernel_rfl) (HI.out W)) ?_
      refine AnyB.take 10 (.pointer (some ⟨g, o + k * 3 + 2, none⟩)) rfl (by kernel_rfl) (by kernel_rfl) (by kernel_rfl) (fun _ _ _ h => h) (by kernel_rfl) (fun W hW => y_field (sv := .pointer (some ⟨g, o + k * 3, none⟩)) rfl (by kernel_rfl) (f_u2 W g (o + k * 3))) ?_
      refine AnyB.take 11 (.string ⟨nw.toArray⟩) rfl (by kernel_rfl) (by kernel_rfl) (by kernel_rfl) (fun _ _ _ h => h) (by kernel_rfl) (fun W hW => y_load (sv := .pointer (some ⟨g, o + k * 3 + 2, none⟩)) rfl (by kernel_rfl) (l_S W g (o + k * 3 + 2) nw (C2.out W (LD.out.trans (hW.mono LD.out.size))))) ?_
      refine AnyB.call 6 19 #[.slice A4 Ma c4, .string ⟨nm.toArray⟩] (by kernel_rfl) rfl (by kernel_rfl) (by kernel_rfl) ?_
      refine HF1.out.mono ?_
      rintro e w6 ⟨rfl, hb⟩
      refine ⟨_, rfl, hb, ?_⟩
      have L6 := Lib.hid (LD.out.trans (hb.mono LD.out.size))
      have B6 := Lib.hid (B4.out.trans (hb.mono B4.out.size))
      clear hb HF1
      refine AnyB.take 12 (.bool false) rfl (by kernel_rfl) (by kernel_rfl) (by kernel_rfl) (fun _ _ _ h => h) (by kernel_rfl) (fun W hW => y_bin (x := .string ⟨nw.toArray⟩) (y := .string ⟨nw.toArray⟩) rfl (by kernel_rfl) (by kernel_rfl) rfl (neq_S W nw nw false (by rw [decide_eq_true rfl]; rfl))) ?_
      refine AnyB.take 13 (.bool false) rfl (by kernel_rfl) (by kernel_rfl) (by kernel_rfl) (fun _ _ _ h => h) (by kernel_rfl) (fun W hW => by kernel_rfl) ?_
      refine AnyB.take 14 (.slice A M c) rfl (by kernel_rfl) (by kernel_rfl) (by kernel_rfl) (fun _ _ _ h => h) (by kernel_rfl) (fun W hW => by kernel_rfl) ?_
      refine AnyB.take 15 (.slice (some ⟨g, o, none⟩) N d) rfl (by kernel_rfl) (by kernel_rfl) (by kernel_rfl) (fun _ _ _ h => h) (by kernel_rfl) (fun W hW => by kernel_rfl) ?_
      refine AnyB.take 16 (.int .i64 (k : Int)) rfl (by kernel_rfl) (by kernel_rfl) (by kernel_rfl) (fun _ _ _ h => h) (by kernel_rfl) (fun W hW => by kernel_rfl) ?_
      refine AnyB.take 17 (.pointer (some ⟨g, o + k * 3, none⟩)) rfl (by kernel_rfl) (by kernel_rfl) (by kernel_rfl) (fun _ _ _ h => h) (by kernel_rfl) (fun W hW => y_index (sv := .slice (some ⟨g, o, none⟩) N d) (iv := .int .i64 (k : Int)) rfl (by kernel_rfl) (by kernel_rfl) (HI.out W)) ?_
      refine AnyB.take 18 (.pointer (some ⟨g, o + k * 3, none⟩)) rfl (by kernel_rfl) (by kernel_rfl) (by kernel_rfl) (fun _ _ _ h => h) (by kernel_rfl) (fun W hW => y_field (sv := .pointer (some ⟨g, o + k * 3, none⟩)) rfl (by kernel_rfl) (f_u0 W g (o + k * 3))) ?_
      refine AnyB.take 19 (.string ⟨nm.toArray⟩) rfl (by kernel_rfl) (by kernel_rfl) (by kernel_rfl) (fun _ _ _ h => h) (by kernel_rfl) (fun W hW => y_load (sv := .pointer (some ⟨g, o + k * 3, none⟩)) rfl (by kernel_rfl) (l_S W g (o + k * 3) nm (C0.out W (L6.out.trans (hW.mono L6.out.size))))) ?_
      refine AnyB.take 21 (.slice (some ⟨g, o, none⟩) N d) rfl (by kernel_rfl) (by kernel_rfl) (by kernel_rfl) (fun _ _ _ h => h) (by kernel_rfl) (fun W hW => by kernel_rfl) ?_
      refine AnyB.take 22 (.int .i64 (k : Int)) rfl (by kernel_rfl) (by kernel_rfl) (by kernel_rfl) (fun _ _ _ h => h) (by kernel_rfl) (fun W hW => by kernel_rfl) ?_
      refine AnyB.take 23 (.pointer (some ⟨g, o + k * 3, none⟩)) rfl (by kernel_rfl) (by kernel_rfl) (by kernel_rfl) (fun _ _ _ h => h) (by kernel_rfl) (fun W hW => y_index (sv := .slice (some ⟨g, o, none⟩) N d) (iv := .int .i64 (k : Int)) rfl (by kernel_rfl) (by kernel_rfl) (HI.out W)) ?_
      refine AnyB.take 24 (.pointer (some ⟨g, o + k * 3 + 1, none⟩)) rfl (by kernel_rfl) (by kernel_rfl) (by kernel_rfl) (fun _ _ _ h => h) (by kernel_rfl) (fun W hW => y_field (sv := .pointer (some ⟨g, o + k * 3, none⟩)) rfl (by kernel_rfl) (f_u1 W g (o + k * 3))) ?_
      refine AnyB.take 25 (.string ⟨od.toArray⟩) rfl (by kernel_rfl) (by kernel_rfl) (by kernel_rfl) (fun _ _ _ h => h) (by kernel_rfl) (fun W hW => y_load (sv := .pointer (some ⟨g, o + k * 3 + 1, none⟩)) rfl (by kernel_rfl) (l_S W g (o + k * 3 + 1) od (C1.out W (L6.out.trans (hW.mono L6.out.size))))) ?_
      have HF3 := HF2 w6 L6.out
      refine AnyB.call 20 19 #[.slice A M c, .string ⟨nm.toArray⟩] (by kernel_rfl) rfl (by kernel_rfl) (by kernel_rfl) ?_
      refine HF3.out.mono ?_
      rintro e w7 ⟨rfl, hb⟩
      refine ⟨_, rfl, hb, ?_⟩
      have B7 := Lib.hid (B6.out.trans (hb.mono B6.out.size))
      clear hb HF2 HF3
      refine AnyB.take 26 (.bool false) rfl (by kernel_rfl) (by kernel_rfl) (by kernel_rfl) (fun _ _ _ h => h) (by kernel_rfl) (fun W hW => y_bin (x := .string ⟨od.toArray⟩) (y := .string ⟨od.toArray⟩) rfl (by kernel_rfl) (by kernel_rfl) rfl (neq_S W od od false (by rw [decide_eq_true rfl]; rfl))) ?_
      refine AnyB.take 27 (.bool false) rfl (by kernel_rfl) (by kernel_rfl) (by kernel_rfl) (fun _ _ _ h => h) (by kernel_rfl) (fun W hW => by kernel_rfl) ?_
      refine AnyB.done _ (by kernel_rfl) ?_
      go_simp
      clear HI C0 C1 C2
      go_wp2_with fail
      go_roundw
      case rel => exact ⟨k + 1, hlt, by go_num, B7⟩
      case measure => simp [intOf]; omega
    have L5 := Lib.hid (L4.out.trans (hB.out.mono L4.out.size))
    have HRa5 := Lib.hid (RdK.below HRa.out hB.out (Nat.le_refl _))
    have O1 := Lib.hid (OwK.new0 (t := 45) (k := 2) (f := refC) wr wr.heap.size (Nat.le_refl _))
    have b1 := below_al wr (.cells #[] 45)
    have HVr := Lib.hid (RdK.below (RdK.below HV.out L5.out (Nat.le_refl _)) b1 (Nat.le_refl _))
    have HRr := Lib.hid (RdK.below HRa5.out b1 (Nat.le_refl _))
    obtain ⟨w5, hw5⟩ : ∃ z, z = wr.alloc (.cells #[] 45) := ⟨_, rfl⟩
    obtain ⟨wq, hwq⟩ : ∃ z, z = wr := ⟨_, rfl⟩
    rw [← hw5] at O1 b1 HVr HRr
    have B1 := Lib.hid b1
    have HB4r := Lib.hid hB.out
    have HW := Lib.hid hw5
    have Hl1 : Hid (([] : List Ref).length + l.length ≤ 1000000) := Lib.hid (by have := HM.out; simp; omega)
    have Hl2 : Hid (([] ++ l).length + a.length ≤ 1000000) := Lib.hid (by have := HM.out; have := HMa.out; simp; omega)
    clear hB b1 hw5
    subst hwq
    go_wp2_with (first
      | (rw [← HW.out]; refine wpList_appR (o := ⟨some 89, _, _, _, _, _⟩) rfl _ _ rfl wq.heap.size (.slice (some ⟨wq.heap.size, 0, none⟩) 0 0) (.slice A M c) [] l rfl rfl O1.out HVr.out Hl1.out B1.out.size ?_; intro A6 n6 c6 w6 hn6 ho6 hb6; have O6 := Lib.hid ho6; have B6 := Lib.hid (B1.out.trans hb6); have HR6 := Lib.hid (RdK.below HRa5.out B6.out (Nat.le_refl _)); clear hn6 ho6 hb6)
      | (refine wpList_appR (o := ⟨some 91, _, _, _, _, _⟩) rfl _ _ rfl wq.heap.size (.slice A6 n6 c6) (.slice A4 Ma c4) ([] ++ l) a rfl rfl O6.out HR6.out Hl2.out B6.out.size ?_; intro A7 n7 c7 w7 hn7 ho7 hb7; have HN7 := Lib.hid hn7; have O7 := Lib.hid (OwK.rd refC_len ho7); have B7 := Lib.hid (B6.out.trans hb7); clear hn7 ho7 hb7))
    have L7 := Lib.hid (L5.out.trans (B7.out.mono L5.out.size))
    have B47 := Lib.hid (HB4r.out.trans (B7.out.mono HB4r.out.size))
    obtain ⟨bo, hbo⟩ : ∃ z, z = l ++ a := ⟨_, rfl⟩
    have HBo := Lib.hid hbo
    have O7' : Hid (RefsR w7 (.slice A7 n7 c7) bo) := Lib.hid (by rw [hbo]; exact O7.out)
    have HN7' : Hid (n7 = bo.length) := Lib.hid (by rw [hbo]; exact HN7.out)
    have hn7b : n7 ≤ 200 := by have := HN7'.out; rw [hbo, List.length_append, ← HM.out, ← HMa.out] at this; omega
    have hrest : ∀ n, (∀ x ∈ u, x.name ≠ n) → findL a n = findL l n := HD.out.rest
    have HRest := Lib.hid hrest
    clear hbo O7 HN7 HW O1 HVr HRr O6 HR6 B6 hrest
    go_wp2_with fail
    go_loopw [11] (fun i wr => ∃ k : Nat, k ≤ n7 ∧ i = .int .i64 k ∧ Hid (Below w7.heap.size w7 wr)) (fun i _ => n7 - (intOf i).toNat)
    case atStart => exact ⟨0, Nat.zero_le _, rfl, Lib.hid (Below.refl _ _)⟩
    case round =>
      obtain ⟨k2, hk2, rfl, hB2⟩ := hrel
      by_cases hlt2 : k2 < n7
      case neg =>
        have L8 := Lib.hid (L7.out.trans (hB2.out.mono L7.out.size))
        have B8 := Lib.hid (B47.out.trans (hB2.out.mono B47.out.size))
        have HRt1 := Lib.hid (Right_p a _ wr (RdK.below HRa.out B8.out (Nat.le_refl _)) HD.out.fit' (by have := HMa.out; omega))
        rw [rightB_yes HD.out.right'] at HRt1
        clear hB2
        go_wp2_with fail
        refine HRt1.out.mono ?_
        rintro e w8 ⟨rfl, hb⟩
        have L9 := Lib.hid (L8.out.trans (hb.mono L8.out.size))
        have HRt2 := Lib.hid (Right_p l _ w8 (RdK.below HV.out L9.out (Nat.le_refl _)) HF.out (by have := HM.out; omega))
        rw [rightB_yes HD.out.right] at HRt2
        clear hb HRt1
        go_wp2_with fail
        refine HRt2.out.mono ?_
        rintro e w9 ⟨rfl, hb⟩
        have L10 := Lib.hid (L9.out.trans (hb.mono L9.out.size))
        clear hb
        go_wp2_with fail
        go_ret
        exact ⟨rfl, L10.out⟩
      obtain ⟨g, o, c', e, _, hg⟩ := O7'.out.pos (by have := HN7'.out; omega)
      obtain rfl : A7 = some ⟨g, o, none⟩ := by rw [← HN7'.out] at e; cases e; rfl
      clear e
      obtain ⟨x, hx⟩ : ∃ x, bo[k2]? = some x := ⟨_, List.getElem?_eq_getElem (by have := HN7'.out; omega)⟩
      obtain ⟨c0, _⟩ := RefsR.cells (RdK.below O7'.out hB2.out (Nat.le_refl _)) hx
      obtain ⟨nm, id⟩ := x
      unfold SV at c0
      simp only at c0
      have L8 := Lib.hid (L7.out.trans (hB2.out.mono L7.out.size))
      have B8 := Lib.hid (B47.out.trans (hB2.out.mono B47.out.size))
      have HB2 := Lib.hid hB2.out
      obtain ⟨wo, hwo⟩ : ∃ z, z = wr := ⟨_, rfl⟩
      subst hwo
      clear hx hg hB2
      go_wp2_with fail
      go_loop [13, 14] (fun v13 i => ∃ k3 : Nat, ∃ b : Bool, k3 ≤ N ∧ i = .int .i64 k3 ∧ v13 = .bool b ∧ Hid (b = (u.take k3).any fun y => y.name == nm)) (fun _ i => N - (intOf i).toNat)
      case atStart => exact ⟨0, false, Nat.zero_le _, rfl, rfl, Lib.hid rfl⟩
      case round =>
        obtain ⟨k3, b, hk3, rfl, rfl, hbv⟩ := hrel
        clear c0
        by_cases hlt3 : k3 < N
        · obtain ⟨g2, o2, c2, e, _, hg2⟩ := HU.out.pos (by have := HN.out; omega)
          obtain rfl : B = some ⟨g2, o2, none⟩ := by rw [← HN.out] at e; cases e; rfl
          clear e
          obtain ⟨y, hy⟩ : ∃ y, u[k3]? = some y := ⟨_, List.getElem?_eq_getElem (by have := HN.out; omega)⟩
          obtain ⟨p0, _, _⟩ := UpdsR.cells (RdK.below HU.out L8.out (Nat.le_refl _)) hy
          have hsn : (u.take (k3 + 1)).any (fun y => y.name == nm) = (b || (y.name == nm)) := by
            rw [List.take_add_one, hy, Option.toList_some, List.any_append, ← hbv.out]; simp
          obtain ⟨yn, yo, yw⟩ := y
          unfold SV at p0
          simp only at p0 hsn
          clear hy hbv hg2
          cases b with
          | true =>
            have HMs : Hid (true = (u.take (k3 + 1)).any fun y => y.name == nm) := Lib.hid (by rw [hsn]; rfl)
            clear hsn
            go_wp2_with fail
            go_round
            case rel => exact ⟨k3 + 1, true, hlt3, by go_num, rfl, HMs⟩
            case measure => simp [intOf]; omega
          | false =>
            by_cases he : yn = nm
            · have HMs : Hid (true = (u.take (k3 + 1)).any fun y => y.name == nm) := Lib.hid (by rw [hsn]; simp [he])
              subst he
              clear hsn
              go_wp2_with fail
              go_round
              case rel => exact ⟨k3 + 1, true, hlt3, by go_num, by simp, HMs⟩
              case measure => simp [intOf]; omega
            · have HMs : Hid (false = (u.take (k3 + 1)).any fun y => y.name == nm) := Lib.hid (by rw [hsn]; simp [he])
              have hne : (yn == nm) = false := by simpa using he
              clear hsn he
              go_wp2_with fail
              go_round
              case rel => exact ⟨k3 + 1, false, hlt3, by go_num, by simp, HMs⟩
              case measure => simp [intOf]; omega
        have hkN3 : k3 = N := by omega
        have HOw : Hid (b = false → findL a nm = findL l nm) := Lib.hid fun hb => HRest.out nm fun x hx e => by
          have h := hbv.out
          rw [hkN3, HN.out, List.take_length, hb] at h
          have h2 := List.any_eq_false.1 h.symm x hx
          simp [e] at h2
        clear hkN3 hbv
        cases b with
        | true =>
          go_wp2_with fail
          go_roundw
          case rel => exact ⟨k2 + 1, hlt2, by go_num, HB2⟩
          case measure => simp [intOf]; omega
        | false =>
          have HEq := Lib.hid (HOw.out rfl)
          obtain ⟨f, hf⟩ : ∃ z, z = findL l nm := ⟨_, rfl⟩
          have HF1 := Lib.hid (Find_p a _ nm wo (RdK.below HRa.out B8.out (Nat.le_refl _)) (by have := HMa.out; omega))
          rw [HEq.out, ← hf] at HF1
          have HF2 := fun W (hW : Below w.heap.size w W) => Lib.hid (Find_p l _ nm W (RdK.below HV.out hW (Nat.le_refl _)) (by have := HM.out; omega))
          rw [← hf] at HF2
          clear hf HOw HEq
          go_wp2_with fail
          refine HF1.out.mono ?_
          rintro e w8 ⟨rfl, hb⟩
          have L9 := Lib.hid (L8.out.trans (hb.mono L8.out.size))
          have B9 := Lib.hid (HB2.out.trans (hb.mono HB2.out.size))
          clear hb HF1
          have HF3 := HF2 w8 L9.out
          go_wp2_with fail
          refine HF3.out.mono ?_
          rintro e w9 ⟨rfl, hb⟩
          have B10 := Lib.hid (B9.out.trans (hb.mono B9.out.size))
          clear hb HF2 HF3
          go_wp2_with fail
          go_roundw
          case rel => exact ⟨k2 + 1, hlt2, by go_num, B10⟩
          case measure => simp [intOf]; omega
end Go.Proofs.YtfnepffccenebaaGreatDoor.Rf
