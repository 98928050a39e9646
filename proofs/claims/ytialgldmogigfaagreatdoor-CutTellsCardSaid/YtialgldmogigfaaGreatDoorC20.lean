/-
  The document's Right, Id, Wants; ObjectTells, walked.
-/
import Derived.Test.YtialgldmogigfaaGreatDoorC19
import Derived.Test.YtialgldmogigfaaGreatDoorC10

namespace Go.Proofs.YtialgldmogigfaaGreatDoor
open Go Go.RowKit Go.Shelf
def dd0 (m : Nat) : List UInt8 := if m = 0 then [] else Lib.decDigits m
theorem dd0_step {m : Nat} (h : 0 < m) : dd0 (m / 10) ++ [UInt8.ofNat (48 + m % 10)] = dd0 m := by
  unfold dd0
  rw [if_neg (show ¬ m = 0 by omega)]
  by_cases h10 : m < 10
  · rw [if_pos (by omega), dd_lo h10, Nat.mod_eq_of_lt h10]; rfl
  · rw [if_neg (by omega), dd_hi (u := m) (by omega)]
theorem dd_step (n : Nat) : dd0 (n / 10) ++ [UInt8.ofNat (48 + n % 10)] = Lib.decDigits n := by
  by_cases h : n = 0
  · subst h; rw [dd_zero]; rfl
  · rw [dd0_step (by omega)]; unfold dd0; rw [if_neg h]
theorem conv_one (w : World) (c : UInt8) : (convert 71 9 (.slice (some ⟨w.heap.size, 0, none⟩) 1 1)).run Tryz.prog (w.alloc (.cells #[.int .u8 (c.toNat : Int)] 5)) = .ok (.string ⟨([c] : List UInt8).toArray⟩) (w.alloc (.cells #[.int .u8 (c.toNat : Int)] 5)) := (rb_one w c).conv
set_option maxRecDepth 100000 in
set_option maxHeartbeats 1000000 in
theorem RText_nat (n : Nat) (h1 : n ≤ 9223372036854775807) (w : World) :
    Calls Tryz.prog 37 #[.int .i64 (n : Int)] w fun e w' => e = .returned (SV (Lib.decDigits n)) ∧ Below w.heap.size w w' := by
  have HL : Hid ((Lib.decDigits n).length ≤ 20) := Lib.hid (by rw [Lib.decDigits_length]; exact nd_len 19 n (Nat.lt_of_le_of_lt h1 (by decide)))
  have HS := Lib.hid (dd_step n)
  generalize Lib.decDigits n = D at HL HS ⊢
  unfold SV
  obtain ⟨x, hx⟩ : ∃ x, x = UInt8.ofNat (48 + n % 10) := ⟨_, rfl⟩
  have gx : IntKind.u8.wrap (48 + (n : Int) % 10) = (x.toNat : Int) := by rw [hx, byte_of (by omega), IntKind.wrap_u8']; omega
  have gx2 : 48 + (n : Int) % 10 = (x.toNat : Int) := by rw [hx, byte_of (by omega)]; omega
  have hcv := conv_one w x
  have L0 : Hid (Below w.heap.size w (w.alloc (.cells #[.int .u8 (x.toNat : Int)] 5))) := Lib.hid (below_new w _)
  rw [← hx] at HS
  clear hx
  go_enter Tryz.func37, Tryz.ntmps37
  go_wp2
  clear gx gx2 hcv
  go_loopw [0, 3] (fun vn vo wr => ∃ (m : Nat) (r : List UInt8), m ≤ 9223372036854775807 ∧ vn = .int .i64 m ∧ vo = .string ⟨r.toArray⟩ ∧ Hid (dd0 m ++ r = D) ∧ Below w.heap.size w wr) (fun vn _ _ => (intOf vn).toNat)
  case atStart => exact ⟨n / 10, [x], by omega, by go_num, rfl, HS, L0.out⟩
  case round =>
    obtain ⟨m, r, hm, rfl, rfl, hD, hb⟩ := hrel
    have hr20 : r.length ≤ 20 := by have := HL.out; rw [← hD.out, List.length_append] at this; omega
    by_cases hlt : 0 < m
    · obtain ⟨x, hx⟩ : ∃ x, x = UInt8.ofNat (48 + m % 10) := ⟨_, rfl⟩
      have gx : IntKind.u8.wrap (48 + (m : Int) % 10) = (x.toNat : Int) := by rw [hx, byte_of (by omega), IntKind.wrap_u8']; omega
      have gx2 : 48 + (m : Int) % 10 = (x.toNat : Int) := by rw [hx, byte_of (by omega)]; omega
      have hcv := conv_one wr x
      have L1 : Hid (Below w.heap.size w (wr.alloc (.cells #[.int .u8 (x.toNat : Int)] 5))) := Lib.hid (hb.alloc hb.size _)
      have happ : (⟨([x] : List UInt8).toArray⟩ : ByteArray) ++ (⟨r.toArray⟩ : ByteArray) = ⟨(x :: r).toArray⟩ := append_S [x] r
      have HD : Hid (dd0 (m / 10) ++ (x :: r) = D) := Lib.hid (by rw [← hD.out, ← dd0_step hlt, hx, List.append_assoc]; rfl)
      clear hx hb hD
      go_wp2
      go_roundw
      case rel => exact ⟨m / 10, x :: r, by omega, by go_num, rfl, HD.out, L1.out⟩
      case measure => simp [intOf]; omega
    · have HD : Hid (r = D) := Lib.hid (by have := hD.out; rw [show m = 0 by omega] at this; exact this)
      have hle : ¬ (0 : Int) < (m : Int) := by omega
      clear hD hlt
      go_wp2
      go_ret
      exact ⟨by rw [HD.out]; rfl, hb⟩
set_option maxHeartbeats 400000 in
theorem RText_any (n : Int) (h1 : n ≤ 9223372036854775807) (w : World) :
    Calls Tryz.prog 37 #[.int .i64 n] w fun e w' => e = .returned (SV (textL n)) ∧ Below w.heap.size w w' := by
  by_cases h : n < 0
  · rw [show textL n = [] from if_pos h]
    unfold SV
    go_enter Tryz.func37, Tryz.ntmps37
    go_wp2
    go_ret
    exact ⟨rfl, Below.refl _ _⟩
  · obtain ⟨m, rfl⟩ := Int.eq_ofNat_of_zero_le (show 0 ≤ n by omega)
    rw [textL_nat]
    exact RText_nat m (by omega) w
/-- What lies in an object's box. -/
theorem obj_box (w : World) (k : Int) (d : List UInt8) (W : World) (hW : Below (w.alloc (.cells #[.int .i64 k, .string ⟨d.toArray⟩] 44)).heap.size (w.alloc (.cells #[.int .i64 k, .string ⟨d.toArray⟩] 44)) W) :
    W.cell? ⟨w.heap.size, 0, none⟩ = some (.int .i64 k) ∧ W.cell? ⟨w.heap.size, 1, none⟩ = some (.string ⟨d.toArray⟩) :=
  ⟨(hW.cell (p := ⟨w.heap.size, 0, none⟩) (by simp)).trans (by simp), (hW.cell (p := ⟨w.heap.size, 1, none⟩) (by simp)).trans (by simp)⟩
set_option maxRecDepth 100000 in
set_option maxHeartbeats 4000000 in
theorem RRight_any (k : Int) (d : List UInt8) (hs : d.length ≤ 100000) (w : World) : Calls Tryz.prog 34 #[.agg #[.int .i64 k, .string ⟨d.toArray⟩]] w (RetBelow (.bool (wantsO k d).isSome) w) := by
  have HB := Lib.hid (below_new w (.cells #[.int .i64 k, .string ⟨d.toArray⟩] 44))
  by_cases hd : d.length ≤ 65536
  case neg =>
    have HF : Hid ((wantsO k d).isSome = false) := Lib.hid (by rw [wantsO_over d k hd]; rfl)
    have hd2 : 65536 < (d.length : Int) := by omega
    go_enter Tryz.func34, Tryz.ntmps34
    go_wp2_with fail
    go_ret
    exact ⟨ret_bool HF.out.symm, HB.out⟩
  have hd2 : ¬ 65536 < (d.length : Int) := by omega
  have HI := Lib.hid (wantsO_in d k hd)
  by_cases h1 : k = 1
  · have HF : Hid ((wantsO k d).isSome = true) := Lib.hid (by rw [HI.out, if_pos h1]; rfl)
    subst h1
    go_enter Tryz.func34, Tryz.ntmps34
    go_wp2_with fail
    go_ret
    exact ⟨ret_bool HF.out.symm, HB.out⟩
  have b1 : (k == 1) = false := by simpa using h1
  by_cases h2 : k = 2
  · have HF : Hid ((wantsO k d).isSome = (getT d).isSome) := Lib.hid (by rw [HI.out, if_neg h1, if_pos h2, Option.isSome_map])
    have HG := Lib.hid (fun W => RGetTree_any d hs W)
    subst h2
    go_enter Tryz.func34, Tryz.ntmps34
    go_wp2_with fail
    refine (HG.out _).mono ?_
    rintro e w1 ⟨⟨v, l, rfl, hr, hl⟩, l1⟩
    obtain ⟨A, c, rfl⟩ := hr.shape
    have L1 := Lib.hid (HB.out.trans (l1.mono HB.out.size))
    clear hr hl l1
    go_wp2_with fail
    go_ret
    exact ⟨ret_bool HF.out.symm, L1.out⟩
  have b2 : (k == 2) = false := by simpa using h2
  by_cases h3 : k = 3
  · have HF : Hid ((wantsO k d).isSome = (getC d).isSome) := Lib.hid (by rw [HI.out, if_neg h1, if_neg h2, if_pos h3, Option.isSome_map])
    have HG := Lib.hid (fun W => RGetChange_any d hs W)
    subst h3
    go_enter Tryz.func34, Tryz.ntmps34
    go_wp2_with fail
    refine (HG.out _).mono ?_
    rintro e w1 ⟨l1, c, vp, hr, he, hc⟩
    obtain ⟨A, ca, rfl⟩ := hr.shape
    obtain ⟨ct, cp, cw, cx⟩ := c
    unfold ChgV at he
    simp only at he
    subst he
    have L1 := Lib.hid ((HB.out.trans (l1.mono HB.out.size)).alloc (HB.out.trans (l1.mono HB.out.size)).size (.cells #[.string ⟨ct.toArray⟩, .slice A cp.length ca, .string ⟨cw.toArray⟩, .string ⟨cx.toArray⟩] 93))
    clear hr hc l1
    go_wp2_with fail
    go_ret
    exact ⟨ret_bool HF.out.symm, L1.out⟩
  have b3 : (k == 3) = false := by simpa using h3
  by_cases h4 : k = 4
  · have HF : Hid ((wantsO k d).isSome = (getL4 d).isSome) := Lib.hid (by rw [HI.out, if_neg h1, if_neg h2, if_neg h3, if_pos h4, Option.isSome_map])
    have HG := Lib.hid (fun W => RGetLabel_any d hs W)
    subst h4
    go_enter Tryz.func34, Tryz.ntmps34
    go_wp2_with fail
    refine (HG.out _).mono ?_
    rintro e w1 ⟨l1, he⟩
    obtain ⟨f, hf⟩ : ∃ f, f = (getL4 d).getD noLbl := ⟨_, rfl⟩
    rw [← hf] at he
    obtain ⟨fi, fk, fn, fx⟩ := f
    unfold LblV at he
    simp only at he
    subst he
    have L1 := Lib.hid ((HB.out.trans (l1.mono HB.out.size)).alloc (HB.out.trans (l1.mono HB.out.size)).size (.cells #[.string ⟨fi.toArray⟩, .int .i64 fk, .string ⟨fn.toArray⟩, .string ⟨fx.toArray⟩] 97))
    clear hf l1
    go_wp2_with fail
    go_ret
    exact ⟨ret_bool HF.out.symm, L1.out⟩
  have b4 : (k == 4) = false := by simpa using h4
  have HF : Hid ((wantsO k d).isSome = false) := Lib.hid (by rw [HI.out, if_neg h1, if_neg h2, if_neg h3, if_neg h4]; rfl)
  clear h1 h2 h3 h4
  go_enter Tryz.func34, Tryz.ntmps34
  go_wp2_with fail
  go_ret
  exact ⟨ret_bool HF.out.symm, HB.out⟩
set_option maxRecDepth 100000 in
set_option maxHeartbeats 4000000 in
theorem RId_any (k : Int) (d : List UInt8) (hs : d.length ≤ 70000) (w : World) : Calls Tryz.prog 22 #[.agg #[.int .i64 k, .string ⟨d.toArray⟩]] w (RetBelow (SV (idL k d)) w) := by
  have B0 := below_new w (.cells #[.int .i64 k, .string ⟨d.toArray⟩] 44)
  have hrt := fun W => RRight_any k d (by omega) W
  have HO := Lib.hid (obj_box w k d)
  have HB0 := Lib.hid B0
  cases h : wantsO k d with
  | none =>
    rw [h] at hrt
    have HR := Lib.hid hrt
    rw [show idL k d = [] from by unfold idL; rw [h]; rfl]
    unfold SV
    clear hrt h B0
    go_enter Tryz.func22, Tryz.ntmps22
    go_wp2_with fail
    refine (HR.out _).mono ?_
    rintro e w1 ⟨rfl, l1⟩
    go_wp2_with fail
    go_ret
    exact ⟨rfl, HB0.out.trans (l1.mono HB0.out.size)⟩
  | some l =>
    rw [h] at hrt
    have HR := Lib.hid hrt
    rw [show idL k d = nameL (headL k d) from by unfold idL; rw [h]; rfl]
    obtain ⟨kw, hkw⟩ : ∃ kw, kw = kindW k := ⟨_, rfl⟩
    obtain ⟨tx, htx⟩ : ∃ tx, tx = textL (d.length : Int) := ⟨_, rfl⟩
    have hk6 : kw.length ≤ 6 := by rw [hkw]; exact kind_short k
    have ht20 : tx.length ≤ 20 := by rw [htx]; exact textL_len (by omega)
    have hall : ((kw ++ [32]) ++ tx ++ [10]) ++ d = headL k d := by rw [hkw, htx]; unfold headL; simp
    have HWd : Hid (∀ W : World, Calls Tryz.prog 36 #[.int .i64 k] W fun e w' => e = .returned (.string ⟨kw.toArray⟩) ∧ W = w') := Lib.hid fun W => by rw [hkw]; exact RWord_any k W
    have HTx : Hid (∀ W : World, Calls Tryz.prog 37 #[.int .i64 (d.length : Int)] W fun e w' => e = .returned (.string ⟨tx.toArray⟩) ∧ Below W.heap.size W w') := Lib.hid fun W => by rw [htx]; exact RText_any _ (by omega) W
    have HNm : Hid (∀ (W : World) (v : Value), Rb W v (headL k d) → Calls Tryz.prog 35 #[v] W fun e w' => e = .returned (SV (nameL (headL k d))) ∧ Below W.heap.size W w') := Lib.hid fun W v hr => RName_any W v _ (by rw [← hall]; simp; omega) hr
    have HAll := Lib.hid hall
    obtain ⟨p1, h1⟩ : ∃ p1, p1 = kw ++ [32] := ⟨_, rfl⟩
    obtain ⟨p2, h2⟩ : ∃ p2, p2 = p1 ++ tx := ⟨_, rfl⟩
    obtain ⟨p3, h3⟩ : ∃ p3, p3 = p2 ++ [10] := ⟨_, rfl⟩
    obtain ⟨p4, h4⟩ : ∃ p4, p4 = headL k d := ⟨_, rfl⟩
    have z1 : p1.length ≤ 7 := by rw [h1]; simp; omega
    have z2 : p2.length ≤ 27 := by rw [h2]; simp; omega
    have z3 : p3.length ≤ 28 := by rw [h3]; simp; omega
    have c1 := cat_run kw [32] ⟨p1.toArray⟩ (by rw [h1]) (by omega) (by simp)
    have c2 := cat_run p1 tx ⟨p2.toArray⟩ (by rw [h2]) (by omega) (by omega)
    have c3 := cat_run p2 [10] ⟨p3.toArray⟩ (by rw [h3]) (by omega) (by simp)
    have c4 := cat_run p3 d ⟨p4.toArray⟩ (by rw [h4, h3, h2, h1, hall]) (by omega) (by omega)
    rw [← h4] at HNm ⊢
    have C1 := Lib.hid c1; have C2 := Lib.hid c2; have C3 := Lib.hid c3; have C4 := Lib.hid c4
    clear hrt B0 h hkw htx hall c1 c2 c3 c4 h1 h2 h3 h4 z1 z2 z3 HAll
    go_enter Tryz.func22, Tryz.ntmps22
    go_wp2_with fail
    refine (HR.out _).mono ?_
    rintro e w1 ⟨rfl, hb⟩
    have HX := Lib.hid hb
    have q0 : ∀ W, Below w1.drew.heap.size w1.drew W → W.cell? ⟨w.heap.size, 0, none⟩ = some (.int .i64 k) := fun W hW => (HO.out W (HX.out.drew.trans (hW.mono HX.out.size))).1
    have q1 : ∀ W, Below w1.drew.heap.size w1.drew W → W.cell? ⟨w.heap.size, 1, none⟩ = some (.string ⟨d.toArray⟩) := fun W hW => (HO.out W (HX.out.drew.trans (hW.mono HX.out.size))).2
    have Q0 := Lib.hid q0; have Q1 := Lib.hid q1; have HB := Lib.hid (HB0.out.trans (hb.mono HB0.out.size)).drew
    clear q0 q1 hb
    go_wp2_with fail
    refine AnyB.start (by kernel_rfl) ?_
    refine AnyB.take 0 (.pointer (some ⟨w.heap.size, 0, none⟩)) rfl (by kernel_rfl) (by kernel_rfl) (by kernel_rfl) (fun _ _ _ h => h) (by kernel_rfl) (fun W hW => by kernel_rfl) ?_
    refine AnyB.take 1 (.int .i64 k) rfl (by kernel_rfl) (by kernel_rfl) (by kernel_rfl) (fun _ _ _ h => h) (by kernel_rfl) (fun W hW => y_load (sv := .pointer (some ⟨w.heap.size, 0, none⟩)) rfl (by kernel_rfl) (by have hW2 := Q0.out W hW; simp [go_sem, hW2])) ?_
    refine AnyB.take 4 (.pointer (some ⟨w.heap.size, 1, none⟩)) rfl (by kernel_rfl) (by kernel_rfl) (by kernel_rfl) (fun _ _ _ h => h) (by kernel_rfl) (fun W hW => by kernel_rfl) ?_
    refine AnyB.take 5 (.string ⟨d.toArray⟩) rfl (by kernel_rfl) (by kernel_rfl) (by kernel_rfl) (fun _ _ _ h => h) (by kernel_rfl) (fun W hW => y_load (sv := .pointer (some ⟨w.heap.size, 1, none⟩)) rfl (by kernel_rfl) (by have hW2 := Q1.out W hW; simp [go_sem, hW2])) ?_
    refine AnyB.take 6 (.int .i64 (d.length : Int)) rfl (by kernel_rfl) (by kernel_rfl) (by kernel_rfl) (fun _ _ _ h => h) (by kernel_rfl) (fun W hW => by kernel_rfl) ?_
    refine AnyB.take 10 (.pointer (some ⟨w.heap.size, 1, none⟩)) rfl (by kernel_rfl) (by kernel_rfl) (by kernel_rfl) (fun _ _ _ h => h) (by kernel_rfl) (fun W hW => by kernel_rfl) ?_
    refine AnyB.take 11 (.string ⟨d.toArray⟩) rfl (by kernel_rfl) (by kernel_rfl) (by kernel_rfl) (fun _ _ _ h => h) (by kernel_rfl) (fun W hW => y_load (sv := .pointer (some ⟨w.heap.size, 1, none⟩)) rfl (by kernel_rfl) (by have hW2 := Q1.out W hW; simp [go_sem, hW2])) ?_
    refine AnyB.call 2 36 #[.int .i64 k] (by kernel_rfl) rfl (by kernel_rfl) (by kernel_rfl) ((HWd.out _).mono ?_)
    rintro e w2 ⟨rfl, rfl⟩
    refine ⟨_, rfl, Below.refl _ _, ?_⟩
    refine AnyB.take 3 (.string ⟨p1.toArray⟩) rfl (by kernel_rfl) (by kernel_rfl) (by kernel_rfl) (fun _ _ _ h => h) (by kernel_rfl) (fun W hW => y_bin (x := .string ⟨kw.toArray⟩) (y := .string ⟨#[32]⟩) rfl (by kernel_rfl) (by kernel_rfl) rfl (by have := C1.out W; simp [go_sem, this])) ?_
    refine AnyB.call 7 37 #[.int .i64 (d.length : Int)] (by kernel_rfl) rfl (by kernel_rfl) (by kernel_rfl) ((HTx.out _).mono ?_)
    rintro e w2 ⟨rfl, l2⟩
    refine ⟨_, rfl, l2, ?_⟩
    have L2 := Lib.hid (HB.out.trans (l2.mono HB.out.size))
    refine AnyB.take 8 (.string ⟨p2.toArray⟩) rfl (by kernel_rfl) (by kernel_rfl) (by kernel_rfl) (fun _ _ _ h => h) (by kernel_rfl) (fun W hW => y_bin (x := .string ⟨p1.toArray⟩) (y := .string ⟨tx.toArray⟩) rfl (by kernel_rfl) (by kernel_rfl) rfl (by have := C2.out W; simp only [binOp]; simp [go_sem, this])) ?_
    refine AnyB.take 9 (.string ⟨p3.toArray⟩) rfl (by kernel_rfl) (by kernel_rfl) (by kernel_rfl) (fun _ _ _ h => h) (by kernel_rfl) (fun W hW => y_bin (x := .string ⟨p2.toArray⟩) (y := .string ⟨#[10]⟩) rfl (by kernel_rfl) (by kernel_rfl) rfl (by have := C3.out W; simp [go_sem, this])) ?_
    refine AnyB.take 12 (.string ⟨p4.toArray⟩) rfl (by kernel_rfl) (by kernel_rfl) (by kernel_rfl) (fun _ _ _ h => h) (by kernel_rfl) (fun W hW => y_bin (x := .string ⟨p3.toArray⟩) (y := .string ⟨d.toArray⟩) rfl (by kernel_rfl) (by kernel_rfl) rfl (by have := C4.out W; simp [go_sem, this])) ?_
    obtain ⟨A3, c3, w3, hrun, hr3, l3⟩ := conv_bytes w2 (p4)
    refine AnyB.op 13 (.slice A3 (p4).length c3) w3 (by kernel_rfl) rfl (by kernel_rfl) (y_conv' (x := .string ⟨p4.toArray⟩) rfl (by kernel_rfl) hrun) l3 ?_
    have L3 := Lib.hid (L2.out.trans (l3.mono L2.out.size))
    refine AnyB.call 14 35 #[.slice A3 (p4).length c3] (by kernel_rfl) rfl (by kernel_rfl) (by kernel_rfl) ((HNm.out _ _ hr3).mono ?_)
    rintro e w4 ⟨rfl, l4⟩
    refine ⟨_, rfl, l4, ?_⟩
    have L4 := Lib.hid (L3.out.trans (l4.mono L3.out.size))
    clear hrun hr3 l3 l4 l2
    unfold SV
    refine AnyB.take 15 (.string ⟨(nameL p4).toArray⟩) rfl (by kernel_rfl) (by kernel_rfl) (by kernel_rfl) (fun _ _ _ h => h) (by kernel_rfl) (fun W hW => by kernel_rfl) ?_
    refine AnyB.done _ (by kernel_rfl) ?_
    go_simp
    go_wp2_with fail
    go_ret
    exact ⟨rfl, L4.out⟩
set_option maxRecDepth 100000 in
set_option maxHeartbeats 16000000 in
theorem RWants_any (k : Int) (d : List UInt8) (hs : d.length ≤ 100000) (w : World) : Calls Tryz.prog 45 #[.agg #[.int .i64 k, .string ⟨d.toArray⟩]] w (WsPost (wantsO k d) w) := by
  obtain ⟨w0, hw0⟩ : ∃ w0, w0 = w.alloc (.cells #[.int .i64 k, .string ⟨d.toArray⟩] 44) := ⟨_, rfl⟩
  have hb0 : Below w.heap.size w w0 := by rw [hw0]; exact below_new w _
  have ho := obj_box w k d
  rw [← hw0] at ho
  obtain ⟨a0, a1⟩ := ho w0 (Below.refl _ _)
  have hrt := fun W => RRight_any k d hs W
  have HB0 := Lib.hid hb0; have HW0 := Lib.hid hw0; have HO := Lib.hid ho
  clear hb0 hw0 ho
  cases hw : wantsO k d with
  | none =>
    rw [hw] at hrt
    have HR := Lib.hid hrt
    clear hrt hw
    go_enter Tryz.func45, Tryz.ntmps45
    go_wp2_with (rw [← HW0.out])
    refine (HR.out _).mono ?_
    rintro e w1 ⟨rfl, l1⟩
    obtain ⟨q0, q1⟩ := HO.out _ l1
    have L1 := Lib.hid (HB0.out.trans (l1.mono HB0.out.size))
    clear l1
    go_wp2_with fail
    go_ret
    exact ⟨L1.out, _, rfl, .inl ⟨⟨_, _, rfl⟩, rfl⟩, by simp, Fr.nil _ _ _⟩
  | some o =>
    rw [hw] at hrt
    have HR := Lib.hid hrt
    have hd : d.length ≤ 65536 := by
      rcases Nat.lt_or_ge 65536 d.length with h | h
      · rw [wantsO_over d k (by omega)] at hw; cases hw
      · exact h
    rw [wantsO_in d k hd] at hw
    clear hrt
    by_cases h1 : k = 1
    · rw [if_pos h1] at hw
      cases hw
      subst h1
      go_enter Tryz.func45, Tryz.ntmps45
      go_wp2_with (rw [← HW0.out])
      refine (HR.out _).mono ?_
      rintro e w1 ⟨rfl, l1⟩
      obtain ⟨q0, q1⟩ := HO.out _ l1
      have L1 := Lib.hid (HB0.out.trans (l1.mono HB0.out.size))
      clear l1
      go_wp2_with fail
      go_ret
      exact ⟨L1.out, _, rfl, .inl ⟨⟨_, _, rfl⟩, rfl⟩, by simp, Fr.nil _ _ _⟩
    rw [if_neg h1] at hw
    by_cases h2 : k = 2
    · rw [if_pos h2] at hw
      obtain ⟨l, hl, rfl⟩ := Option.map_eq_some_iff.1 hw
      have HL : Hid (l.length ≤ 256) := Lib.hid (rightT_parts.1 (getT_iff.1 hl).1).1
      have hg := fun W => RGetTree_any d hs W
      rw [hl] at hg
      have HG := Lib.hid hg
      subst h2
      clear hw hl hg h1
      go_enter Tryz.func45, Tryz.ntmps45
      go_wp2_with (rw [← HW0.out])
      refine (HR.out _).mono ?_
      rintro e w1 ⟨rfl, l1⟩
      obtain ⟨q0, q1⟩ := HO.out _ l1
      have L1 := Lib.hid (HB0.out.trans (l1.mono HB0.out.size))
      clear l1
      go_wp2_with fail
      refine (HG.out _).mono ?_
      rintro e w2 ⟨⟨v, m, rfl, hr, hm⟩, l2⟩
      rw [show m = l from hm] at hr
      obtain ⟨A, c, rfl⟩ := hr.shape
      have HRd := Lib.hid hr
      have L2 := Lib.hid (L1.out.trans (l2.mono L1.out.size))
      clear hr hm l2 q0 q1
      go_wp2_with fail
      go_loopw [3, 6, 7] (fun vl vi _k wr => ∃ k : Nat, k ≤ l.length ∧ vi = .int .i64 k ∧ Hid (TwRel l w2 k vl wr)) (fun _ vi _ _ => l.length - (intOf vi).toNat)
      case atStart => exact ⟨0, Nat.zero_le _, rfl, Lib.hid ⟨OwK.nil _ _ _ _ _, Below.refl _ _⟩⟩
      case round =>
        obtain ⟨k, hk, rfl, hrel⟩ := hrel
        by_cases hlt : k < l.length
        · obtain ⟨g, o, c', e, _, hg⟩ := HRd.out.pos (by omega)
          cases e
          obtain ⟨c0, c1, c2⟩ := ItmsR.cells (HRd.out.below hrel.out.2 (Nat.le_refl _)) k hlt
          obtain ⟨x, hx⟩ : ∃ x, x = l.getD k noItm := ⟨_, rfl⟩
          rw [← hx] at c0 c1 c2
          have HX := Lib.hid hx
          obtain ⟨m, nm, di⟩ := x
          unfold SV at c1 c2
          simp only at c0 c1 c2
          obtain ⟨ns, hns⟩ : ∃ ns, ns = (l.take k).map wantI := ⟨_, rfl⟩
          have hown := hrel.out.1
          rw [← hns] at hown
          have HN := Lib.hid hns; have HOw := Lib.hid hown; have B1 := Lib.hid hrel.out.2
          have hnl : ns.length ≤ 257 := by rw [hns, List.length_map, List.length_take]; have := HL.out; omega
          have HNL := Lib.hid hnl
          clear hx hns hown hnl
          by_cases hm : m = 3
          · subst hm
            go_wp2_with (at_builtin; refine wpList_one wantK rfl _ _ rfl w2.heap.size u3 ns (di, 2) _ rfl rfl rfl HOw.out ?c1 (by decide) ?c2 ?_)
            case c1 => have := HNL.out; omega
            case c2 => exact B1.out.size
            intro v' w3 ho2 hb2
            have HR2 := Lib.hid (TwRel.step HN.out hlt HX.out (by simp [wantI]) ho2 B1.out hb2)
            clear ho2 hb2
            have hL := HL.out
            go_wp2_with fail
            go_roundw
            case rel => exact ⟨k + 1, by omega, by go_num, HR2⟩
            case measure => simp [intOf]; omega
          · have b3 : (m == 3) = false := by simpa using hm
            go_wp2_with (at_builtin; refine wpList_one wantK rfl _ _ rfl w2.heap.size u3 ns (di, 1) _ rfl rfl rfl HOw.out ?c1 (by decide) ?c2 ?_)
            case c1 => have := HNL.out; omega
            case c2 => exact B1.out.size
            intro v' w3 ho2 hb2
            have HR2 := Lib.hid (TwRel.step HN.out hlt HX.out (by simp [wantI, hm]) ho2 B1.out hb2)
            clear ho2 hb2
            have hL := HL.out
            go_wp2_with fail
            go_roundw
            case rel => exact ⟨k + 1, by omega, by go_num, HR2⟩
            case measure => simp [intOf]; omega
        · obtain rfl : k = l.length := by omega
          have h0 := hrel.out
          unfold TwRel at h0
          rw [List.take_length] at h0
          have HF := Lib.hid (h0.1.rd wantV_len)
          have HFr := Lib.hid (OwK.fr h0.1 L2.out.size)
          have LF := Lib.hid (L2.out.trans (h0.2.mono L2.out.size))
          clear h0
          go_wp2_with fail
          go_ret
          exact ⟨LF.out, _, rfl, HF.out, by rw [Option.getD_some, List.length_map]; exact HL.out, HFr.out⟩
    rw [if_neg h2] at hw
    have b2 : (k == 2) = false := by simpa using h2
    by_cases h3 : k = 3
    · rw [if_pos h3] at hw
      obtain ⟨c, hc, rfl⟩ := Option.map_eq_some_iff.1 hw
      have HL : Hid (c.parents.length ≤ 8) := Lib.hid (rightC_parts.1 (getC_iff.1 hc).1).2.1
      have hg := fun W => RGetChange_any d hs W
      rw [hc] at hg
      have HG := Lib.hid hg
      have HQ := Lib.hid (wantC_eq c)
      subst h3
      clear hw hc hg h1 h2
      go_enter Tryz.func45, Tryz.ntmps45
      go_wp2_with (rw [← HW0.out])
      refine (HR.out _).mono ?_
      rintro e w1 ⟨rfl, l1⟩
      obtain ⟨q0, q1⟩ := HO.out _ l1
      have L1 := Lib.hid (HB0.out.trans (l1.mono HB0.out.size))
      clear l1
      go_wp2_with fail
      refine (HG.out _).mono ?_
      rintro e w2 ⟨l2, c2, vp, hr, he, hc2⟩
      rw [show c2 = c from hc2] at hr he
      obtain ⟨A, ca, rfl⟩ := hr.shape
      obtain ⟨ct, cp, cw, cx⟩ := c
      unfold ChgV at he
      simp only at he hr
      subst he
      have L2 := L1.out.trans (l2.mono L1.out.size)
      obtain ⟨W3, hW3⟩ : ∃ W3, W3 = w2.alloc (.cells #[.string ⟨ct.toArray⟩, .slice A cp.length ca, .string ⟨cw.toArray⟩, .string ⟨cx.toArray⟩] 93) := ⟨_, rfl⟩
      have hbx := one_box w2 (.string ⟨ct.toArray⟩) (.slice A cp.length ca) (.string ⟨cw.toArray⟩) (.string ⟨cx.toArray⟩)
      have L3 : Hid (Below w.heap.size w W3) := Lib.hid (by rw [hW3]; exact L2.alloc L2.size _)
      have HRd : Hid (StrsR W3 (.slice A cp.length ca) cp) := Lib.hid (by rw [hW3]; exact hr.below (below_new w2 _) (Nat.le_refl _))
      rw [← hW3] at hbx
      have HBx := Lib.hid hbx
      have HW3 := Lib.hid hW3
      obtain ⟨e0, e1, e2, e3⟩ := hbx W3 (Below.refl _ _)
      clear hr hc2 l2 q0 q1 L2 hW3 hbx c2
      go_wp2_with (first | rw [← HW3.out] | (at_builtin; refine wpList_one wantK rfl _ _ rfl W3.heap.size (.slice none 0 0) [] (ct, 2) _ rfl rfl rfl (OwK.nil _ _ _ _ _) ?c1 (by decide) ?c2 ?_))
      case c1 => simp
      case c2 => exact Nat.le_refl _
      intro v' w4 ho4 hb4
      have H0 : Hid (CwRel ⟨ct, cp, cw, cx⟩ W3 0 v' w4) := Lib.hid ⟨by simpa using ho4, hb4⟩
      clear ho4 hb4 e0 e1 e2 e3
      go_wp2_with fail
      go_loopw [3, 10] (fun vl vi wr => ∃ k : Nat, k ≤ cp.length ∧ vi = .int .i64 k ∧ Hid (CwRel ⟨ct, cp, cw, cx⟩ W3 k vl wr)) (fun _ vi _ => cp.length - (intOf vi).toNat)
      case atStart => exact ⟨0, Nat.zero_le _, rfl, H0⟩
      case round =>
        obtain ⟨k, hk, rfl, hrel⟩ := hrel
        have hL := HL.out
        obtain ⟨-, e1, -, -⟩ := HBx.out _ hrel.out.2
        by_cases hlt : k < cp.length
        · obtain ⟨g, o, c', e, _, hg⟩ := HRd.out.pos (by omega)
          cases e
          have c0 := StrsR.cell (HRd.out.below hrel.out.2 (Nat.le_refl _)) k hlt
          obtain ⟨x, hx⟩ : ∃ x, x = cp.getD k [] := ⟨_, rfl⟩
          rw [← hx] at c0
          unfold SV at c0
          have HX := Lib.hid hx
          obtain ⟨ns, hns⟩ : ∃ ns, ns = ((ct, (2 : Int)) :: (cp.take k).map fun p => (p, (3 : Int))) := ⟨_, rfl⟩
          have hown := hrel.out.1
          simp only at hown
          rw [← hns] at hown
          have HN := Lib.hid hns; have HOw := Lib.hid hown; have HB := Lib.hid hrel.out.2
          have hnl : ns.length ≤ 9 := by rw [hns, List.length_cons, List.length_map, List.length_take]; omega
          have HNL := Lib.hid hnl
          clear hx hns hown hnl hrel
          go_wp2_with (at_builtin; refine wpList_one wantK rfl _ _ rfl W3.heap.size u3 ns (x, 3) _ rfl rfl rfl HOw.out ?c1 (by decide) ?c2 ?_)
          case c1 => have := HNL.out; omega
          case c2 => exact HB.out.size
          intro v' w5 ho2 hb2
          have HR2 := Lib.hid (@CwRel.step ⟨ct, cp, cw, cx⟩ W3 _ _ k v' x ns HN.out hlt HX.out ho2 HB.out hb2)
          clear ho2 hb2
          go_wp2_with fail
          go_roundw
          case rel => exact ⟨k + 1, by omega, by go_num, HR2⟩
          case measure => simp [intOf]; omega
        · obtain rfl : k = cp.length := by omega
          have h0 := hrel.out
          have h1 := h0.1.rd wantV_len
          rw [HQ.out] at h1
          have HF := Lib.hid h1
          have HFr := Lib.hid (OwK.fr h0.1 L3.out.size)
          have LF := Lib.hid (L3.out.trans (h0.2.mono L3.out.size))
          clear h0 h1
          go_wp2_with fail
          go_ret
          exact ⟨LF.out, _, rfl, HF.out, by simp only [Option.getD_some, wantC, List.length_cons, List.length_map]; omega, HFr.out⟩
    rw [if_neg h3] at hw
    have b3 : (k == 3) = false := by simpa using h3
    by_cases h4 : k = 4
    · rw [if_pos h4] at hw
      obtain ⟨f, hf, rfl⟩ := Option.map_eq_some_iff.1 hw
      have hg := fun W => RGetLabel_any d hs W
      rw [hf] at hg
      have HG := Lib.hid hg
      subst h4
      clear hw hf hg h1 h2 h3
      go_enter Tryz.func45, Tryz.ntmps45
      go_wp2_with (rw [← HW0.out])
      refine (HR.out _).mono ?_
      rintro e w1 ⟨rfl, l1⟩
      obtain ⟨q0, q1⟩ := HO.out _ l1
      have L1 := Lib.hid (HB0.out.trans (l1.mono HB0.out.size))
      clear l1
      go_wp2_with fail
      refine (HG.out _).mono ?_
      rintro e w2 ⟨l2, he⟩
      obtain ⟨fi, fk, fn, fx⟩ := f
      unfold LblV at he
      simp only [Option.getD_some] at he
      subst he
      have L2 := L1.out.trans (l2.mono L1.out.size)
      obtain ⟨W3, hW3⟩ : ∃ W3, W3 = w2.alloc (.cells #[.string ⟨fi.toArray⟩, .int .i64 fk, .string ⟨fn.toArray⟩, .string ⟨fx.toArray⟩] 97) := ⟨_, rfl⟩
      have L3 : Hid (Below w.heap.size w W3) := Lib.hid (by rw [hW3]; exact L2.alloc L2.size _)
      have HW3 := Lib.hid hW3
      have e0 : W3.cell? ⟨w2.heap.size, 0, none⟩ = some (.string ⟨fi.toArray⟩) := by rw [hW3]; simp
      have e1 : W3.cell? ⟨w2.heap.size, 1, none⟩ = some (.int .i64 fk) := by rw [hW3]; simp
      clear l2 q0 q1 L2 hW3
      go_wp2_with (first | rw [← HW3.out] | (at_builtin; refine wpList_one wantK rfl _ _ rfl W3.heap.size (.slice none 0 0) [] (fi, fk) _ rfl rfl rfl (OwK.nil _ _ _ _ _) ?c1 (by decide) ?c2 ?_))
      case c1 => simp
      case c2 => exact Nat.le_refl _
      intro v' w4 ho4 hb4
      have HF := Lib.hid (ho4.rd wantV_len)
      have HFr := Lib.hid (OwK.fr ho4 L3.out.size)
      have LF := Lib.hid (L3.out.trans (hb4.mono L3.out.size))
      clear ho4 hb4 e0 e1
      go_wp2_with fail
      go_ret
      exact ⟨LF.out, _, rfl, HF.out, by simp [wantL], HFr.out⟩
    rw [if_neg h4] at hw
    cases hw
theorem wantsO_len {k : Int} {d : List UInt8} {l : List (List UInt8 × Int)} (h : wantsO k d = some l) : l.length ≤ 256 := by
  unfold wantsO at h
  by_cases h0 : 65536 < d.length
  · rw [if_pos h0] at h; cases h
  rw [if_neg h0] at h
  by_cases h1 : k = 1
  · rw [if_pos h1] at h; cases h; simp
  rw [if_neg h1] at h
  by_cases h2 : k = 2
  · rw [if_pos h2] at h
    obtain ⟨m, hm, rfl⟩ := Option.map_eq_some_iff.1 h
    rw [List.length_map]; exact (rightT_parts.1 (getT_iff.1 hm).1).1
  rw [if_neg h2] at h
  by_cases h3 : k = 3
  · rw [if_pos h3] at h
    obtain ⟨c, hc, rfl⟩ := Option.map_eq_some_iff.1 h
    have := (rightC_parts.1 (getC_iff.1 hc).1).2.1
    simp only [wantC, List.length_cons, List.length_map]; omega
  rw [if_neg h3] at h
  by_cases h4 : k = 4
  · rw [if_pos h4] at h
    obtain ⟨c, hc, rfl⟩ := Option.map_eq_some_iff.1 h
    simp [wantL]
  · rw [if_neg h4] at h; cases h
theorem l_obj (W : World) (b : Nat) (k : Int) (d : List UInt8) (h : W.cell? ⟨b, 0, none⟩ = some (.int .i64 k) ∧ W.cell? ⟨b, 1, none⟩ = some (.string ⟨d.toArray⟩)) : (Instr.loadAt 44 (.pointer (some ⟨b, 0, none⟩))).run Tryz.prog W = .ok (.agg #[.int .i64 k, .string ⟨d.toArray⟩]) W := by
  obtain ⟨h0, h1⟩ := h
  simp [go_sem, h0, h1]
end Go.Proofs.YtialgldmogigfaaGreatDoor
