/-
  Tells WEval WHeadP WMergP WMergQ WRSet
  Whole entries of a set's objects are resolved to these.
  Plain: the document's way through a pack's bytes; what stands beside a pack, by its names.
-/
import Derived.Test.YtgjddkeogboojaaGreatDoorX30
import Derived.Test.YtgjddkeogboojaaGreatDoorX23
import Derived.Test.YtgjddkeogboojaaGreatDoorX27
import Derived.Test.YtgjddkeogboojaaGreatDoorX26
set_option maxHeartbeats 16000000
set_option maxRecDepth 100000
namespace Go.Proofs.YtgjddkeogboojaaGreatDoor
open Go Go.RowKit Go.Shelf
def dd0 (m : Nat) : zB := if m = 0 then [] else Lib.decDigits m
theorem zh7 {m : Nat} (h : 0 < m) : dd0 (m / 10) ++ [UInt8.ofNat (48 + m % 10)] = dd0 m := by
 unfold dd0
 rw [if_neg (show ¬ m = 0 by omega)]
 by_cases h10 : m < 10
 · rw [if_pos (by omega), dd_lo h10, Nat.mod_eq_of_lt h10]; rfl
 · rw [if_neg (by omega), dd_hi (u := m) (by omega)]
theorem dd_step (n : Nat) : dd0 (n / 10) ++ [UInt8.ofNat (48 + n % 10)] = Lib.decDigits n := by
 by_cases h : n = 0
 · subst h; rw [dd_zero]; rfl
 · rw [zh7 (by omega)]; unfold dd0; rw [if_neg h]
theorem zh8 (w : World) (c : UInt8) : (convert 23 9 (.slice (some ⟨w.heap.size, 0, none⟩) 1 1)).run Tryz.prog (w.alloc (.cells #[.int .u8 (c.toNat : Int)] 5)) = .ok (.string ⟨([c] : zB).toArray⟩) (w.alloc (.cells #[.int .u8 (c.toNat : Int)] 5)) := (rb_one w c).conv
theorem znd (n : Nat) (h1 : n ≤ 9223372036854775807) (w : World) :
 Calls Tryz.prog 60 #[.int .i64 (n : Int)] w fun e w' => e = .returned (SV (Lib.decDigits n)) ∧ Below w.heap.size w w' := by
 have HL : Hid ((Lib.decDigits n).length ≤ 20) := zh (by rw [Lib.decDigits_length]; exact zka 19 n (Nat.lt_of_le_of_lt h1 (by decide)))
 have HS := zh (dd_step n)
 generalize Lib.decDigits n = D at HL HS ⊢
 unfold SV
 obtain ⟨x, hx⟩ := zx (UInt8.ofNat (48 + n % 10))
 have gx : IntKind.u8.wrap (48 + (n : Int) % 10) = (x.toNat : Int) := by rw [hx, byte_of (by omega), IntKind.wrap_u8']; omega
 have gx2 : 48 + (n : Int) % 10 = (x.toNat : Int) := by rw [hx, byte_of (by omega)]; omega
 have hcv := zh8 w x
 have L0 : Hid (Below w.heap.size w (w.alloc (.cells #[.int .u8 (x.toNat : Int)] 5))) := zh (below_new w _)
 rw [← hx] at HS
 clear hx
 go_enter Tryz.func60, Tryz.ntmps60
 go_wp2
 clear gx gx2 hcv
 go_loopw [0, 3] (fun vn vo wr => ∃ (m : Nat) (r : zB), m ≤ 9223372036854775807 ∧ vn = .int .i64 m ∧ vo = .string ⟨r.toArray⟩ ∧ Hid (dd0 m ++ r = D) ∧ Below w.heap.size w wr) (fun vn _ _ => (intOf vn).toNat)
 case atStart => exact ⟨n / 10, [x], by omega, by go_num, rfl, HS, L0.out⟩
 case round =>
  obtain ⟨m, r, hm, rfl, rfl, hD, hb⟩ := hrel
  have hr20 : r.length ≤ 20 := by have := HL.out; rw [← hD.out, List.length_append] at this; omega
  by_cases hlt : 0 < m
  · obtain ⟨x, hx⟩ := zx (UInt8.ofNat (48 + m % 10))
    have gx : IntKind.u8.wrap (48 + (m : Int) % 10) = (x.toNat : Int) := by rw [hx, byte_of (by omega), IntKind.wrap_u8']; omega
    have gx2 : 48 + (m : Int) % 10 = (x.toNat : Int) := by rw [hx, byte_of (by omega)]; omega
    have hcv := zh8 wr x
    have L1 : Hid (Below w.heap.size w (wr.alloc (.cells #[.int .u8 (x.toNat : Int)] 5))) := zh (hb.alloc hb.size _)
    have happ : (⟨([x] : zB).toArray⟩ : ByteArray) ++ (⟨r.toArray⟩ : ByteArray) = ⟨(x :: r).toArray⟩ := append_S [x] r
    have HD : Hid (dd0 (m / 10) ++ (x :: r) = D) := zh (by rw [← hD.out, ← zh7 hlt, hx, List.append_assoc]; rfl)
    clear hx hb hD
    go_wp2
    go_roundw
    case rel => exact ⟨m / 10, x :: r, by omega, by go_num, rfl, HD.out, L1.out⟩
    case measure => simp [intOf]; omega
  · have HD : Hid (r = D) := zh (by have := hD.out; rw [show m = 0 by omega] at this; exact this)
    have hle : ¬ (0 : Int) < (m : Int) := by omega
    clear hD hlt
    go_wp2
    go_ret
    exact ⟨by rw [HD.out]; rfl, hb⟩
theorem zne (n : Int) (h1 : n ≤ 9223372036854775807) (w : World) :
 Calls Tryz.prog 60 #[.int .i64 n] w fun e w' => e = .returned (SV (z5r n)) ∧ Below w.heap.size w w' := by
 by_cases h : n < 0
 · rw [show z5r n = [] from if_pos h]
   unfold SV
   go_enter Tryz.func60, Tryz.ntmps60
   go_wp2
   go_ret
   exact ⟨rfl, Below.refl _ _⟩
 · obtain ⟨m, rfl⟩ := Int.eq_ofNat_of_zero_le (show 0 ≤ n by omega)
   rw [zkb]
   exact znd m (by omega) w
theorem obj_box (w : World) (k : Int) (d : zB) (W : World) (hW : Below (w.alloc (.cells #[.int .i64 k, .string ⟨d.toArray⟩] 37)).heap.size (w.alloc (.cells #[.int .i64 k, .string ⟨d.toArray⟩] 37)) W) :
 W.cell? ⟨w.heap.size, 0, none⟩ = some (.int .i64 k) ∧ W.cell? ⟨w.heap.size, 1, none⟩ = some (.string ⟨d.toArray⟩) :=
 ⟨(hW.cell (p := ⟨w.heap.size, 0, none⟩) (by simp)).trans (by simp), (hW.cell (p := ⟨w.heap.size, 1, none⟩) (by simp)).trans (by simp)⟩
theorem ziw (k : Int) (d : zB) (hs : d.length ≤ 100000) (w : World) : Calls Tryz.prog 25 #[.agg #[.int .i64 k, .string ⟨d.toArray⟩]] w (z06 (.bool (z0g k d).isSome) w) := by
 have HB := zh (below_new w (.cells #[.int .i64 k, .string ⟨d.toArray⟩] 37))
 by_cases hd : d.length ≤ 65536
 case neg =>
  have HF : Hid ((z0g k d).isSome = false) := zh (by rw [z1x d k hd]; rfl)
  have hd2 : 65536 < (d.length : Int) := by omega
  go_enter Tryz.func25, Tryz.ntmps25
  go_wp2_with fail
  go_ret
  exact ⟨ret_bool HF.out.symm, HB.out⟩
 have hd2 : ¬ 65536 < (d.length : Int) := by omega
 have HI := zh (z6d d k hd)
 by_cases h1 : k = 1
 · have HF : Hid ((z0g k d).isSome = true) := zh (by rw [HI.out, if_pos h1]; rfl)
   subst h1
   go_enter Tryz.func25, Tryz.ntmps25
   go_wp2_with fail
   go_ret
   exact ⟨ret_bool HF.out.symm, HB.out⟩
 have b1 : (k == 1) = false := by simpa using h1
 by_cases h2 : k = 2
 · have HF : Hid ((z0g k d).isSome = (getT d).isSome) := zh (by rw [HI.out, if_neg h1, if_pos h2, Option.isSome_map])
   have HG := zh (fun W => zdy d hs W)
   subst h2
   go_enter Tryz.func25, Tryz.ntmps25
   go_wp2_with fail
   refine (HG.out _).mono ?_
   rintro e w1 ⟨⟨v, l, rfl, hr, hl⟩, l1⟩
   obtain ⟨A, c, rfl⟩ := hr.shape
   have L1 := zh (HB.out.trans (l1.mono HB.out.size))
   clear hr hl l1
   go_wp2_with fail
   go_ret
   exact ⟨ret_bool HF.out.symm, L1.out⟩
 have b2 : (k == 2) = false := by simpa using h2
 by_cases h3 : k = 3
 · have HF : Hid ((z0g k d).isSome = (getC d).isSome) := zh (by rw [HI.out, if_neg h1, if_neg h2, if_pos h3, Option.isSome_map])
   have HG := zh (fun W => za2 d hs W)
   subst h3
   go_enter Tryz.func25, Tryz.ntmps25
   go_wp2_with fail
   refine (HG.out _).mono ?_
   rintro e w1 ⟨l1, c, vp, hr, he, hc⟩
   obtain ⟨A, ca, rfl⟩ := hr.shape
   obtain ⟨ct, cp, cw, cx⟩ := c
   unfold ChgV at he
   simp only at he
   subst he
   have L1 := zh ((HB.out.trans (l1.mono HB.out.size)).alloc (HB.out.trans (l1.mono HB.out.size)).size (.cells #[.string ⟨ct.toArray⟩, .slice A cp.length ca, .string ⟨cw.toArray⟩, .string ⟨cx.toArray⟩] 96))
   clear hr hc l1
   go_wp2_with fail
   go_ret
   exact ⟨ret_bool HF.out.symm, L1.out⟩
 have b3 : (k == 3) = false := by simpa using h3
 by_cases h4 : k = 4
 · have HF : Hid ((z0g k d).isSome = (z23 d).isSome) := zh (by rw [HI.out, if_neg h1, if_neg h2, if_neg h3, if_pos h4, Option.isSome_map])
   have HG := zh (fun W => zbx d hs W)
   subst h4
   go_enter Tryz.func25, Tryz.ntmps25
   go_wp2_with fail
   refine (HG.out _).mono ?_
   rintro e w1 ⟨l1, he⟩
   obtain ⟨f, hf⟩ := zx ((z23 d).getD z4e)
   rw [← hf] at he
   obtain ⟨fi, fk, fn, fx⟩ := f
   unfold LblV at he
   simp only at he
   subst he
   have L1 := zh ((HB.out.trans (l1.mono HB.out.size)).alloc (HB.out.trans (l1.mono HB.out.size)).size (.cells #[.string ⟨fi.toArray⟩, .int .i64 fk, .string ⟨fn.toArray⟩, .string ⟨fx.toArray⟩] 100))
   clear hf l1
   go_wp2_with fail
   go_ret
   exact ⟨ret_bool HF.out.symm, L1.out⟩
 have b4 : (k == 4) = false := by simpa using h4
 have HF : Hid ((z0g k d).isSome = false) := zh (by rw [HI.out, if_neg h1, if_neg h2, if_neg h3, if_neg h4]; rfl)
 clear h1 h2 h3 h4
 go_enter Tryz.func25, Tryz.ntmps25
 go_wp2_with fail
 go_ret
 exact ⟨ret_bool HF.out.symm, HB.out⟩
theorem RId_any (k : Int) (d : zB) (hs : d.length ≤ 70000) (w : World) : Calls Tryz.prog 37 #[.agg #[.int .i64 k, .string ⟨d.toArray⟩]] w (z06 (SV (idL k d)) w) := by
 have B0 := below_new w (.cells #[.int .i64 k, .string ⟨d.toArray⟩] 37)
 have hrt := fun W => ziw k d (by omega) W
 have HO := zh (obj_box w k d)
 have HB0 := zh B0
 cases h : z0g k d with
 | none =>
   rw [h] at hrt
   have HR := zh hrt
   rw [show idL k d = [] from by unfold idL; rw [h]; rfl]
   unfold SV
   clear hrt h B0
   go_enter Tryz.func37, Tryz.ntmps37
   go_wp2_with fail
   refine (HR.out _).mono ?_
   rintro e w1 ⟨rfl, l1⟩
   go_wp2_with fail
   go_ret
   exact ⟨rfl, HB0.out.trans (l1.mono HB0.out.size)⟩
 | some l =>
   rw [h] at hrt
   have HR := zh hrt
   rw [show idL k d = z3g (headL k d) from by unfold idL; rw [h]; rfl]
   obtain ⟨kw, hkw⟩ := zx (kindW k)
   obtain ⟨tx, htx⟩ := zx (z5r (d.length : Int))
   have hk6 : kw.length ≤ 6 := by rw [hkw]; exact zah k
   have ht20 : tx.length ≤ 20 := by rw [htx]; exact z8o (by omega)
   have hall : ((kw ++ [32]) ++ tx ++ [10]) ++ d = headL k d := by rw [hkw, htx]; unfold headL; simp
   have HWd : Hid (∀ W : World, Calls Tryz.prog 59 #[.int .i64 k] W fun e w' => e = .returned (.string ⟨kw.toArray⟩) ∧ W = w') := zh fun W => by rw [hkw]; exact z9l k W
   have HTx : Hid (∀ W : World, Calls Tryz.prog 60 #[.int .i64 (d.length : Int)] W fun e w' => e = .returned (.string ⟨tx.toArray⟩) ∧ Below W.heap.size W w') := zh fun W => by rw [htx]; exact zne _ (by omega) W
   have HNm : Hid (∀ (W : World) (v : Value), Rb W v (headL k d) → Calls Tryz.prog 26 #[v] W fun e w' => e = .returned (SV (z3g (headL k d))) ∧ Below W.heap.size W w') := zh fun W v hr => zdd W v _ (by rw [← hall]; simp; omega) hr
   have HAll := zh hall
   obtain ⟨p1, h1⟩ := zx (kw ++ [32])
   obtain ⟨p2, h2⟩ := zx (p1 ++ tx)
   obtain ⟨p3, h3⟩ := zx (p2 ++ [10])
   obtain ⟨p4, h4⟩ := zx (headL k d)
   have z1 : p1.length ≤ 7 := by rw [h1]; simp; omega
   have z2 : p2.length ≤ 27 := by rw [h2]; simp; omega
   have z3 : p3.length ≤ 28 := by rw [h3]; simp; omega
   have c1 := z2k kw [32] ⟨p1.toArray⟩ (by rw [h1]) (by omega) (by simp)
   have c2 := z2k p1 tx ⟨p2.toArray⟩ (by rw [h2]) (by omega) (by omega)
   have c3 := z2k p2 [10] ⟨p3.toArray⟩ (by rw [h3]) (by omega) (by simp)
   have c4 := z2k p3 d ⟨p4.toArray⟩ (by rw [h4, h3, h2, h1, hall]) (by omega) (by omega)
   rw [← h4] at HNm ⊢
   have C1 := zh c1; have C2 := zh c2; have C3 := zh c3; have C4 := zh c4
   clear hrt B0 h hkw htx hall c1 c2 c3 c4 h1 h2 h3 h4 z1 z2 z3 HAll
   go_enter Tryz.func37, Tryz.ntmps37
   go_wp2_with fail
   refine (HR.out _).mono ?_
   rintro e w1 ⟨rfl, hb⟩
   have HX := zh hb
   have q0 : ∀ W, Below w1.drew.heap.size w1.drew W → W.cell? ⟨w.heap.size, 0, none⟩ = some (.int .i64 k) := fun W hW => (HO.out W (HX.out.drew.trans (hW.mono HX.out.size))).1
   have q1 : ∀ W, Below w1.drew.heap.size w1.drew W → W.cell? ⟨w.heap.size, 1, none⟩ = some (.string ⟨d.toArray⟩) := fun W hW => (HO.out W (HX.out.drew.trans (hW.mono HX.out.size))).2
   have Q0 := zh q0; have Q1 := zh q1; have HB := zh (HB0.out.trans (hb.mono HB0.out.size)).drew
   clear q0 q1 hb
   go_wp2_with fail
   refine AnyB.start (by kernel_rfl) ?_
   refine AnyB.tm 0 (.pointer (some ⟨w.heap.size, 0, none⟩)) rfl ?_
   refine AnyB.tk 1 (.int .i64 k) rfl (fun W hW => z0a (sv := .pointer (some ⟨w.heap.size, 0, none⟩)) rfl (by kernel_rfl) (by have hW2 := Q0.out W hW; simp [go_sem, hW2])) ?_
   refine AnyB.tm 4 (.pointer (some ⟨w.heap.size, 1, none⟩)) rfl ?_
   refine AnyB.tk 5 (.string ⟨d.toArray⟩) rfl (fun W hW => z0a (sv := .pointer (some ⟨w.heap.size, 1, none⟩)) rfl (by kernel_rfl) (by have hW2 := Q1.out W hW; simp [go_sem, hW2])) ?_
   refine AnyB.tm 6 (.int .i64 (d.length : Int)) rfl ?_
   refine AnyB.tm 10 (.pointer (some ⟨w.heap.size, 1, none⟩)) rfl ?_
   refine AnyB.tk 11 (.string ⟨d.toArray⟩) rfl (fun W hW => z0a (sv := .pointer (some ⟨w.heap.size, 1, none⟩)) rfl (by kernel_rfl) (by have hW2 := Q1.out W hW; simp [go_sem, hW2])) ?_
   refine AnyB.call 2 59 #[.int .i64 k] (by kernel_rfl) rfl (by kernel_rfl) (by kernel_rfl) ((HWd.out _).mono ?_)
   rintro e w2 ⟨rfl, rfl⟩
   refine ⟨_, rfl, Below.refl _ _, ?_⟩
   refine AnyB.tk 3 (.string ⟨p1.toArray⟩) rfl (fun W hW => y_bin (x := .string ⟨kw.toArray⟩) (y := .string ⟨#[32]⟩) rfl (by kernel_rfl) (by kernel_rfl) rfl (by have := C1.out W; simp [go_sem, this])) ?_
   refine AnyB.call 7 60 #[.int .i64 (d.length : Int)] (by kernel_rfl) rfl (by kernel_rfl) (by kernel_rfl) ((HTx.out _).mono ?_)
   rintro e w2 ⟨rfl, l2⟩
   refine ⟨_, rfl, l2, ?_⟩
   have L2 := zh (HB.out.trans (l2.mono HB.out.size))
   refine AnyB.tk 8 (.string ⟨p2.toArray⟩) rfl (fun W hW => y_bin (x := .string ⟨p1.toArray⟩) (y := .string ⟨tx.toArray⟩) rfl (by kernel_rfl) (by kernel_rfl) rfl (by have := C2.out W; simp only [binOp]; simp [go_sem, this])) ?_
   refine AnyB.tk 9 (.string ⟨p3.toArray⟩) rfl (fun W hW => y_bin (x := .string ⟨p2.toArray⟩) (y := .string ⟨#[10]⟩) rfl (by kernel_rfl) (by kernel_rfl) rfl (by have := C3.out W; simp [go_sem, this])) ?_
   refine AnyB.tk 12 (.string ⟨p4.toArray⟩) rfl (fun W hW => y_bin (x := .string ⟨p3.toArray⟩) (y := .string ⟨d.toArray⟩) rfl (by kernel_rfl) (by kernel_rfl) rfl (by have := C4.out W; simp [go_sem, this])) ?_
   obtain ⟨A3, c3, w3, hrun, hr3, l3⟩ := conv_bytes w2 (p4)
   refine AnyB.op 13 (.slice A3 (p4).length c3) w3 (by kernel_rfl) rfl (by kernel_rfl) (zl6 (x := .string ⟨p4.toArray⟩) rfl (by kernel_rfl) hrun) l3 ?_
   have L3 := zh (L2.out.trans (l3.mono L2.out.size))
   refine AnyB.call 14 26 #[.slice A3 (p4).length c3] (by kernel_rfl) rfl (by kernel_rfl) (by kernel_rfl) ((HNm.out _ _ hr3).mono ?_)
   rintro e w4 ⟨rfl, l4⟩
   refine ⟨_, rfl, l4, ?_⟩
   have L4 := zh (L3.out.trans (l4.mono L3.out.size))
   clear hrun hr3 l3 l4 l2
   unfold SV
   refine AnyB.tm 15 (.string ⟨(z3g p4).toArray⟩) rfl ?_
   refine AnyB.done _ (by kernel_rfl) ?_
   go_simp
   go_wp2_with fail
   go_ret
   exact ⟨rfl, L4.out⟩
end Go.Proofs.YtgjddkeogboojaaGreatDoor
namespace Go.Proofs.YtgjddkeogboojaaGreatDoor
def nB : zB := [97, 53, 100, 52, 100, 54, 98, 55, 97, 50, 52, 57, 52, 51, 56, 57, 54, 100, 101, 57, 53, 100, 50, 53, 97, 50, 54, 102, 97, 48, 55, 51, 50, 55, 98, 55, 50, 50, 100, 49, 51, 53, 100, 55, 57, 100, 56, 99, 99, 51, 98, 56, 55, 51, 102, 98, 57, 56, 51, 48, 52, 56, 51, 102]
def tdT : zB := [49, 32, 102, 0, 97, 53, 100, 52, 100, 54, 98, 55, 97, 50, 52, 57, 52, 51, 56, 57, 54, 100, 101, 57, 53, 100, 50, 53, 97, 50, 54, 102, 97, 48, 55, 51, 50, 55, 98, 55, 50, 50, 100, 49, 51, 53, 100, 55, 57, 100, 56, 99, 99, 51, 98, 56, 55, 51, 102, 98, 57, 56, 51, 48, 52, 56, 51, 102]
def nT : zB := [99, 48, 53, 48, 56, 101, 50, 54, 100, 54, 57, 52, 56, 54, 102, 54, 54, 56, 56, 52, 51, 48, 101, 48, 100, 97, 49, 57, 54, 57, 102, 50, 100, 50, 99, 57, 57, 49, 98, 51, 53, 102, 48, 53, 98, 48, 99, 55, 55, 101, 54, 97, 48, 56, 100, 98, 55, 50, 48, 99, 101, 102, 51, 101]
def hT : Hld := ⟨nT, 2, tdT⟩
def hB : Hld := ⟨nB, 1, [120]⟩
end Go.Proofs.YtgjddkeogboojaaGreatDoor
namespace Go.Proofs.YtgjddkeogboojaaGreatDoor
open Go.Sort
def SortedH (l : List Hld) : Prop := l.Pairwise fun x y => ¬ y.id < x.id
theorem Stab.refl {l : List Hld} (h : SortedH l) : Stab l l := ⟨List.Perm.refl l, SameF.refl l, h⟩
end Go.Proofs.YtgjddkeogboojaaGreatDoor
namespace Go.Proofs.YtgjddkeogboojaaGreatDoor.Ct
open Go.Proofs.YtgjddkeogboojaaGreatDoor
open Go Go.RowKit Go.Maps
def PutPo (l : List Hld) (w : World) (e : Ending) (w' : World) : Prop := ∃ v, e = .returned v ∧ HldsR w' v l ∧ Below w.heap.size w w'
theorem eqlS (W : World) (x y : Bs) (b : Bool) (h : decide (x = y) = b) : (binOp .eql 9 (.string ⟨x.toArray⟩) (.string ⟨y.toArray⟩)).run Tryz.prog W = .ok (.bool b) W := by
 show (Op.stringOp .eql _ _).run _ _ = _
 cases b with
 | true =>
   have h1 : x = y := of_decide_eq_true h
   simp [go_sem, Op.stringOp, h1]
 | false =>
   have h1 : ¬ x = y := of_decide_eq_false h
   simp [go_sem, Op.stringOp, h1]
theorem gtrS (W : World) (x y : Bs) (b : Bool) (h : decide (y < x) = b) : (binOp .gtr 9 (.string ⟨x.toArray⟩) (.string ⟨y.toArray⟩)).run Tryz.prog W = .ok (.bool b) W := by
 show (Op.stringOp .gtr _ _).run _ _ = _
 have e := Go.Proofs.bytesLess_eq x y
 have e2 : (!decide (x < y) && !(x == y)) = b := by
  rw [← h, Bool.eq_iff_iff]
  simp only [Bool.and_eq_true, Bool.not_eq_true', decide_eq_false_iff_not, decide_eq_true_eq, beq_eq_false_iff_ne, ne_eq]
  constructor
  · rintro ⟨h1, h2⟩
    rcases z60 x y with h3 | h3 | h3
    · exact absurd h3 h1
    · exact absurd h3 h2
    · exact h3
  · intro h3
    exact ⟨fun h1 => z4h _ (zb8 h1 h3), fun h2 => by rw [h2] at h3; exact z4h _ h3⟩
 simp [go_sem, Op.stringOp, e, ← e2]
theorem at_h (W : World) (g o n c k : Nat) (hk : k < n) : (Instr.indexAt 38 (.slice (some ⟨g, o, none⟩) n c) (.int .i64 (k : Int))).run Tryz.prog W = .ok (.pointer (some ⟨g, o + k * 3, none⟩)) W := by
 have h : (k : Int) < (n : Int) := by omega
 simp [go_sem, h]
theorem f_h0 (W : World) (b o : Nat) : (Instr.fieldAt 47 (.pointer (some ⟨b, o, none⟩)) 0).run Tryz.prog W = .ok (.pointer (some ⟨b, o, none⟩)) W := by simp [go_sem]
theorem l_St (W : World) (b o : Nat) (s : Bs) (h : W.cell? ⟨b, o, none⟩ = some (.string ⟨s.toArray⟩)) : (Instr.loadAt 9 (.pointer (some ⟨b, o, none⟩))).run Tryz.prog W = .ok (.string ⟨s.toArray⟩) W := by simp [go_sem, h]
structure InvT (l : List Hld) (x : Hld) (k : Nat) (O : List Hld) : Prop where
 eq : O ++ l.drop k = putH l x
 lt : ∀ y ∈ l.drop k, x.id < y.id
structure InvF (l : List Hld) (x : Hld) (k : Nat) (O : List Hld) : Prop where
 out : O = l.take k
 eq : l.take k ++ putH (l.drop k) x = putH l x
theorem z43 {l : List Hld} {k : Nat} (hk : k < l.length) : l.drop k = l.getD k noHld :: l.drop (k + 1) := by
 rw [List.drop_eq_getElem_cons hk, zg, zj hk]; rfl
theorem InvT.step {l : List Hld} {x : Hld} {k : Nat} {O : List Hld} (h : InvT l x k O) (hk : k < l.length) : InvT l x (k + 1) (O ++ [l.getD k noHld]) := by
 have e := z43 hk
 refine ⟨by rw [← h.eq, e]; simp, fun y hy => h.lt y (by rw [e]; exact List.mem_cons_of_mem _ hy)⟩
theorem InvF.same {l : List Hld} {x : Hld} {k : Nat} {O : List Hld} (h : InvF l x k O) (hk : k < l.length) (e : (l.getD k noHld).id = x.id) : putH l x = l := by
 rw [← h.eq, z43 hk, putH, if_pos e, ← z43 hk, List.take_append_drop]
theorem InvF.ins {l : List Hld} {x : Hld} {k : Nat} {O : List Hld} (h : InvF l x k O) (hr : l.Pairwise fun a b => a.id < b.id) (hk : k < l.length) (hn : ¬ (l.getD k noHld).id = x.id) (hlt : x.id < (l.getD k noHld).id) : InvT l x (k + 1) (O ++ [x] ++ [l.getD k noHld]) := by
 have hd := z43 hk
 refine ⟨?_, fun y hy => ?_⟩
 · rw [← h.eq, hd, putH, if_neg hn, if_pos hlt, h.out]; simp
 · have h2 := hr.sublist (List.drop_sublist k l)
   rw [hd] at h2
   exact zb8 hlt ((List.pairwise_cons.1 h2).1 y hy)
theorem InvF.step {l : List Hld} {x : Hld} {k : Nat} {O : List Hld} (h : InvF l x k O) (hk : k < l.length) (hn : ¬ (l.getD k noHld).id = x.id) (hlt : ¬ x.id < (l.getD k noHld).id) : InvF l x (k + 1) (O ++ [l.getD k noHld]) := by
 have hd := z43 hk
 have ht := z0m l noHld k hk
 refine ⟨by rw [ht, h.out], ?_⟩
 rw [← h.eq, hd, putH, if_neg hn, if_neg hlt, ht]; simp
theorem znf {l : List Hld} {k : Nat} (hk : k < l.length) : l.getD k noHld ∈ l.drop k := by rw [z43 hk]; exact List.mem_cons_self
theorem put_p {w : World} {v : Value} {l : List Hld} {x : Hld} (h : HldsR w v l) (hr : l.Pairwise fun a b => a.id < b.id) (hl : l.length ≤ 900000) :
 Calls Tryz.prog 38 #[v, .agg #[SV x.id, .int .i64 x.kind, SV x.data]] w (PutPo (putH l x) w) := by
 obtain ⟨A, c, rfl⟩ := h.shape
 obtain ⟨n, hn⟩ := zx l.length
 have hnl : n ≤ 900000 := by omega
 rw [← hn] at h ⊢
 obtain ⟨xi, hxi⟩ := zx x.id
 obtain ⟨xk, hxk⟩ := zx x.kind
 obtain ⟨xd, hxd⟩ := zx x.data
 have hX : z0v x = [SV xi, .int .i64 xk, SV xd] := by unfold z0v; rw [hxi, hxk, hxd]
 rw [← hxi, ← hxk, ← hxd]
 unfold SV at hX ⊢
 obtain ⟨wa, hwa⟩ := zx (w.alloc (.cells #[.string ⟨xi.toArray⟩, .int .i64 xk, .string ⟨xd.toArray⟩] 47))
 have la : Below w.heap.size w wa := by rw [hwa]; exact below_new _ _
 have sa : w.heap.size < wa.heap.size := by rw [hwa]; simp
 have cl := fun (i : Nat) (u : Value) (hi : (#[.string ⟨xi.toArray⟩, .int .i64 xk, .string ⟨xd.toArray⟩] : Array Value)[i]? = some u) => (show Hid (∀ W, Below wa.heap.size wa W → W.cell? ⟨w.heap.size, i, none⟩ = some u) from zh fun W h =>
  (h.cell (p := ⟨w.heap.size, i, none⟩) sa).trans (by rw [hwa, cell_of_row _ _ _ _ _ _ (heap_alloc_new w _)]; exact hi))
 have C0 := cl 0 _ rfl; have C1 := cl 1 _ rfl; have C2 := cl 2 _ rfl
 have H := zh h; have HR := zh hr; have HN := zh hn; have LA := zh la; have HW := zh hwa; have HX := zh hX; have HXi := zh hxi
 clear h hr hn la sa cl hwa hl hX hxi hxk hxd
 go_enter Tryz.func38, Tryz.ntmps38
 go_upto_region 1 with fail
 rw [← HW.out]
 clear HW
 go_wp2_with fail
 go_loopw [5, 6, 7] (fun z dv i wr => Hid (Below wa.heap.size wa wr) ∧ ∃ (k : Nat) (d : Bool) (O : List Hld), k ≤ n ∧ i = .int .i64 k ∧ dv = .bool d ∧ Hid (NewH wa.heap.size wr z O) ∧ O.length ≤ k + 1 ∧ Hid (d = true → InvT l x k O) ∧ Hid (d = false → InvF l x k O)) (fun _ _ i _ => n - (intOf i).toNat)
 case atStart => exact ⟨zh (Below.refl _ _), 0, false, [], Nat.zero_le _, rfl, rfl, zh (OwK.nil _ _ _ _ _), Nat.zero_le _, zh (fun h => by cases h), zh (fun _ => ⟨rfl, rfl⟩)⟩
 case round =>
  obtain ⟨hB, k, d, O, hk, rfl, rfl, hO, hOl, hT, hF⟩ := hrel
  by_cases hlt : k < n
  case neg =>
   have hkn : k = n := by omega
   have HO := zh hO.out
   cases d with
   | true =>
     have HE : Hid (O = putH l x) := zh (by
      have h := (hT.out rfl).eq
      rw [hkn, HN.out, List.drop_length, List.append_nil] at h; exact h)
     clear hkn hT hF hO
     go_wp2_with fail
     go_ret
     exact ⟨_, rfl, by rw [← HE.out]; exact OwK.rd z1u HO.out, LA.out.trans (hB.out.mono LA.out.size)⟩
   | false =>
     have HE : Hid (O ++ [x] = putH l x) := zh (by
      have h := hF.out rfl
      have h2 := h.eq
      rw [hkn, HN.out, List.drop_length, List.take_length] at h2
      rw [h.out, hkn, HN.out, List.take_length, ← h2]; rfl)
     have f0 := C0.out wr hB.out; have f1 := C1.out wr hB.out; have f2 := C2.out wr hB.out
     have HBs : Hid (wa.heap.size ≤ wr.heap.size) := zh hB.out.size
     clear hkn hT hF hO
     go_wp2_with (at_builtin; refine z0k heldK rfl _ _ rfl wa.heap.size u5 O x _ (by rw [HX.out]) rfl rfl HO.out ?c1 (by decide) HBs.out ?_)
     case c1 => omega
     intro z' w2 hN2 hb2
     have HN2 := zh hN2; have HB2 := zh (hB.out.trans hb2)
     clear hN2 hb2 f0 f1 f2
     go_wp2_with fail
     go_ret
     exact ⟨_, rfl, by rw [← HE.out]; exact OwK.rd z1u HN2.out, LA.out.trans (HB2.out.mono LA.out.size)⟩
  obtain ⟨g, o, c', e, _, hg⟩ := H.out.pos (by have := HN.out; omega)
  obtain rfl : A = some ⟨g, o, none⟩ := by rw [← HN.out] at e; cases e; rfl
  clear e
  have hkl : k < l.length := by have := HN.out; omega
  have hcl := fun W (hW : Below wa.heap.size wa W) => HldsR.cells (H.out.below (LA.out.trans (hW.mono LA.out.size)) zl) k hkl
  obtain ⟨y, hy⟩ := zx (l.getD k noHld)
  rw [← hy] at hcl
  have HTs : Hid (d = true → InvT l x (k + 1) (O ++ [y])) := zh fun h => by rw [hy]; exact (hT.out h).step hkl
  have HTn : Hid (d = true → ¬ y.id = xi) := zh fun h e => by
   have h2 := (hT.out h).lt y (by rw [hy]; exact znf hkl)
   rw [e, HXi.out] at h2; exact z4h _ h2
  have HFs : Hid (d = false → y.id = xi → putH l x = l) := zh fun h e => (hF.out h).same hkl (by rw [← hy, e, HXi.out])
  have hOk : d = false → O.length ≤ k := fun h => by rw [(hF.out h).out, List.length_take]; omega
  have HFi : Hid (d = false → ¬ y.id = xi → xi < y.id → InvT l x (k + 1) (O ++ [x, y])) := zh fun h h1 h2 => by
   rw [hy] at h1 h2 ⊢
   rw [HXi.out] at h1 h2
   have h3 := (hF.out h).ins HR.out hkl h1 h2
   rw [List.append_assoc] at h3
   exact h3
  have HFn : Hid (d = false → ¬ y.id = xi → ¬ xi < y.id → InvF l x (k + 1) (O ++ [y])) := zh fun h h1 h2 => by
   rw [hy] at h1 h2 ⊢
   rw [HXi.out] at h1 h2
   exact (hF.out h).step hkl h1 h2
  have hyC : z0v y = [SV y.id, .int .i64 y.kind, SV y.data] := rfl
  obtain ⟨yi, hyi⟩ := zx y.id
  obtain ⟨yk, hyk⟩ := zx y.kind
  obtain ⟨yd, hyd⟩ := zx y.data
  rw [← hyi] at HTn HFs HFi HFn
  rw [← hyi, ← hyk, ← hyd] at hcl hyC
  unfold SV at hcl hyC
  have HY := zh hyC
  have Y0 := zh fun W hW => (hcl W hW).1; have Y1 := zh fun W hW => (hcl W hW).2.1; have Y2 := zh fun W hW => (hcl W hW).2.2
  have LD : Hid (Below wa.heap.size wa wr.drew) := zh hB.out.drew
  have HO : Hid (NewH wa.heap.size wr.drew.drew u5 O) := hO
  have HBd : Hid (Below wa.heap.size wa wr.drew.drew) := zh hB.out.drew.drew
  clear hcl hy hyi hyk hyd hyC hkl hg hT hF hO
  go_wp2_with fail
  by_cases e1 : yi = xi
  · have h1 : decide (yi = xi) = true := decide_eq_true e1
    cases d with
    | true => exact absurd e1 (HTn.out rfl)
    | false =>
    have HE := zh (HFs.out rfl e1)
    clear e1 HTn HFs HFi HFn
    refine AnyB.start (by kernel_rfl) ?_
    refine AnyB.tm 0 (.slice (some ⟨g, o, none⟩) n c) rfl ?_
    refine AnyB.tm 1 (.int .i64 (k : Int)) rfl ?_
    refine AnyB.tk 2 (.pointer (some ⟨g, o + k * 3, none⟩)) rfl (fun W hW => z0o rfl (by kernel_rfl) (by kernel_rfl) (at_h W g o n c k hlt)) ?_
    refine AnyB.tk 3 (.pointer (some ⟨g, o + k * 3, none⟩)) rfl (fun W hW => z0f rfl (by kernel_rfl) (f_h0 W g (o + k * 3))) ?_
    refine AnyB.tk 4 (.string ⟨yi.toArray⟩) rfl (fun W hW => z0a rfl (by kernel_rfl) (l_St W g (o + k * 3) yi (Y0.out W (LD.out.trans (hW.mono LD.out.size))))) ?_
    refine AnyB.tk 5 (.pointer (some ⟨w.heap.size, 0, none⟩)) rfl (fun W hW => z0f rfl (by kernel_rfl) (f_h0 W _ 0)) ?_
    refine AnyB.tk 6 (.string ⟨xi.toArray⟩) rfl (fun W hW => z0a rfl (by kernel_rfl) (l_St W _ 0 xi (C0.out W (LD.out.trans (hW.mono LD.out.size))))) ?_
    refine AnyB.tk 7 (.bool true) rfl (fun W hW => y_bin rfl (by kernel_rfl) (by kernel_rfl) rfl (eqlS W yi xi _ h1)) ?_
    refine AnyB.done _ (by kernel_rfl) ?_
    go_simp
    have HLw := zh (H.out.below (LA.out.trans (LD.out.mono LA.out.size)) zl)
    go_wp2_with fail
    go_ret
    exact ⟨_, rfl, by rw [HE.out]; exact HLw.out, LA.out.trans (LD.out.mono LA.out.size)⟩
  have h1 : decide (yi = xi) = false := decide_eq_false e1
  refine AnyB.start (by kernel_rfl) ?_
  refine AnyB.tm 0 (.slice (some ⟨g, o, none⟩) n c) rfl ?_
  refine AnyB.tm 1 (.int .i64 (k : Int)) rfl ?_
  refine AnyB.tk 2 (.pointer (some ⟨g, o + k * 3, none⟩)) rfl (fun W hW => z0o rfl (by kernel_rfl) (by kernel_rfl) (at_h W g o n c k hlt)) ?_
  refine AnyB.tk 3 (.pointer (some ⟨g, o + k * 3, none⟩)) rfl (fun W hW => z0f rfl (by kernel_rfl) (f_h0 W g (o + k * 3))) ?_
  refine AnyB.tk 4 (.string ⟨yi.toArray⟩) rfl (fun W hW => z0a rfl (by kernel_rfl) (l_St W g (o + k * 3) yi (Y0.out W (LD.out.trans (hW.mono LD.out.size))))) ?_
  refine AnyB.tk 5 (.pointer (some ⟨w.heap.size, 0, none⟩)) rfl (fun W hW => z0f rfl (by kernel_rfl) (f_h0 W _ 0)) ?_
  refine AnyB.tk 6 (.string ⟨xi.toArray⟩) rfl (fun W hW => z0a rfl (by kernel_rfl) (l_St W _ 0 xi (C0.out W (LD.out.trans (hW.mono LD.out.size))))) ?_
  refine AnyB.tk 7 (.bool false) rfl (fun W hW => y_bin rfl (by kernel_rfl) (by kernel_rfl) rfl (eqlS W yi xi _ h1)) ?_
  refine AnyB.done _ (by kernel_rfl) ?_
  go_simp
  have LE : Hid (Below wa.heap.size wa wr.drew.drew) := HBd
  go_wp2_with fail
  cases d with
  | true =>
    have HT2 := zh (HTs.out rfl)
    clear e1 h1 HTn HFs HFi HFn HTs
    refine AnyB.start (by kernel_rfl) ?_
    refine AnyB.tm 0 (.bool true) rfl ?_
    refine AnyB.tm 1 (.bool false) rfl ?_
    refine AnyB.tm 2 (.bool false) rfl ?_
    refine AnyB.sk 3 rfl ?_
    refine AnyB.sk 4 rfl ?_
    refine AnyB.sk 5 rfl ?_
    refine AnyB.sk 6 rfl ?_
    refine AnyB.sk 7 rfl ?_
    refine AnyB.sk 8 rfl ?_
    refine AnyB.sk 9 rfl ?_
    refine AnyB.sk 10 rfl ?_
    refine AnyB.tm 11 (.bool false) rfl ?_
    refine AnyB.done _ (by kernel_rfl) ?_
    go_simp
    obtain ⟨ww, hww⟩ := zx wr.drew.drew
    rw [← hww] at HO HBd LE ⊢
    clear hww
    have HOw := HO; have HBw := HBd
    have p0 := Y0.out ww HBd.out; have p1 := Y1.out ww HBd.out; have p2 := Y2.out ww HBd.out
    go_wp2_with (at_builtin; refine z0k heldK rfl _ _ rfl wa.heap.size u5 O y _ (by rw [HY.out]) rfl rfl HOw.out ?c1 (by decide) HBw.out.size ?_)
    case c1 => omega
    intro z' w3 hN3 hb3
    have HN3 := zh hN3; have HB3 := zh (HBw.out.trans hb3)
    clear hN3 hb3 p0 p1 p2
    go_wp2_with fail
    go_roundw
    case rel => exact ⟨HB3, k + 1, true, O ++ [y], hlt, by go_num, rfl, HN3, by simp; omega, zh (fun _ => HT2.out), zh (fun h => by cases h)⟩
    case measure => simp [intOf]; omega
  | false =>
  by_cases e2 : xi < yi
  · have h2 : decide (xi < yi) = true := decide_eq_true e2
    have HT2 := zh (HFi.out rfl e1 e2)
    clear e1 h1 e2 HTn HFs HFi HFn HTs
    refine AnyB.start (by kernel_rfl) ?_
    refine AnyB.tm 0 (.bool false) rfl ?_
    refine AnyB.tm 1 (.bool true) rfl ?_
    refine AnyB.tm 2 (.bool true) rfl ?_
    refine AnyB.tm 3 (.slice (some ⟨g, o, none⟩) n c) rfl ?_
    refine AnyB.tm 4 (.int .i64 (k : Int)) rfl ?_
    refine AnyB.tk 5 (.pointer (some ⟨g, o + k * 3, none⟩)) rfl (fun W hW => z0o rfl (by kernel_rfl) (by kernel_rfl) (at_h W g o n c k hlt)) ?_
    refine AnyB.tk 6 (.pointer (some ⟨g, o + k * 3, none⟩)) rfl (fun W hW => z0f rfl (by kernel_rfl) (f_h0 W g (o + k * 3))) ?_
    refine AnyB.tk 7 (.string ⟨yi.toArray⟩) rfl (fun W hW => z0a rfl (by kernel_rfl) (l_St W g (o + k * 3) yi (Y0.out W (LE.out.trans (hW.mono LE.out.size))))) ?_
    refine AnyB.tk 8 (.pointer (some ⟨w.heap.size, 0, none⟩)) rfl (fun W hW => z0f rfl (by kernel_rfl) (f_h0 W _ 0)) ?_
    refine AnyB.tk 9 (.string ⟨xi.toArray⟩) rfl (fun W hW => z0a rfl (by kernel_rfl) (l_St W _ 0 xi (C0.out W (LE.out.trans (hW.mono LE.out.size))))) ?_
    refine AnyB.tk 10 (.bool true) rfl (fun W hW => y_bin rfl (by kernel_rfl) (by kernel_rfl) rfl (gtrS W yi xi _ h2)) ?_
    refine AnyB.tm 11 (.bool true) rfl ?_
    refine AnyB.done _ (by kernel_rfl) ?_
    go_simp
    obtain ⟨ww, hww⟩ := zx wr.drew.drew
    rw [← hww] at HO HBd LE ⊢
    clear hww
    have f0 := C0.out ww HBd.out; have f1 := C1.out ww HBd.out; have f2 := C2.out ww HBd.out
    go_wp2_with (at_builtin; refine z0k heldK rfl _ _ rfl wa.heap.size u5 O x _ (by rw [HX.out]) rfl rfl HO.out ?c1 (by decide) HBd.out.size ?_)
    case c1 => omega
    intro zx w2 hN2 hb2
    have HOw := zh hN2; have HBw := zh (HBd.out.trans hb2)
    clear hN2 hb2 f0 f1 f2
    have p0 := Y0.out w2 HBw.out; have p1 := Y1.out w2 HBw.out; have p2 := Y2.out w2 HBw.out
    go_wp2_with (at_builtin; refine z0k heldK rfl _ _ rfl wa.heap.size zx (O ++ [x]) y _ (by rw [HY.out]) rfl rfl HOw.out ?c1 (by decide) HBw.out.size ?_)
    case c1 => simp; omega
    intro z' w3 hN3 hb3
    have HN3 := zh hN3; have HB3 := zh (HBw.out.trans hb3)
    clear hN3 hb3 p0 p1 p2
    go_wp2_with fail
    go_roundw
    case rel => exact ⟨HB3, k + 1, true, O ++ [x, y], hlt, by go_num, rfl, HN3, by simp; have := hOk (by simp); omega, zh (fun _ => HT2.out), zh (fun h => by cases h)⟩
    case measure => simp [intOf]; omega
  · have h2 : decide (xi < yi) = false := decide_eq_false e2
    have HF2 := zh (HFn.out rfl e1 e2)
    clear e1 h1 e2 HTn HFs HFi HFn HTs
    refine AnyB.start (by kernel_rfl) ?_
    refine AnyB.tm 0 (.bool false) rfl ?_
    refine AnyB.tm 1 (.bool true) rfl ?_
    refine AnyB.tm 2 (.bool true) rfl ?_
    refine AnyB.tm 3 (.slice (some ⟨g, o, none⟩) n c) rfl ?_
    refine AnyB.tm 4 (.int .i64 (k : Int)) rfl ?_
    refine AnyB.tk 5 (.pointer (some ⟨g, o + k * 3, none⟩)) rfl (fun W hW => z0o rfl (by kernel_rfl) (by kernel_rfl) (at_h W g o n c k hlt)) ?_
    refine AnyB.tk 6 (.pointer (some ⟨g, o + k * 3, none⟩)) rfl (fun W hW => z0f rfl (by kernel_rfl) (f_h0 W g (o + k * 3))) ?_
    refine AnyB.tk 7 (.string ⟨yi.toArray⟩) rfl (fun W hW => z0a rfl (by kernel_rfl) (l_St W g (o + k * 3) yi (Y0.out W (LE.out.trans (hW.mono LE.out.size))))) ?_
    refine AnyB.tk 8 (.pointer (some ⟨w.heap.size, 0, none⟩)) rfl (fun W hW => z0f rfl (by kernel_rfl) (f_h0 W _ 0)) ?_
    refine AnyB.tk 9 (.string ⟨xi.toArray⟩) rfl (fun W hW => z0a rfl (by kernel_rfl) (l_St W _ 0 xi (C0.out W (LE.out.trans (hW.mono LE.out.size))))) ?_
    refine AnyB.tk 10 (.bool false) rfl (fun W hW => y_bin rfl (by kernel_rfl) (by kernel_rfl) rfl (gtrS W yi xi _ h2)) ?_
    refine AnyB.tm 11 (.bool false) rfl ?_
    refine AnyB.done _ (by kernel_rfl) ?_
    go_simp
    obtain ⟨ww, hww⟩ := zx wr.drew.drew
    rw [← hww] at HO HBd LE ⊢
    clear hww
    have HOw := HO; have HBw := HBd
    have p0 := Y0.out ww HBd.out; have p1 := Y1.out ww HBd.out; have p2 := Y2.out ww HBd.out
    go_wp2_with (at_builtin; refine z0k heldK rfl _ _ rfl wa.heap.size u5 O y _ (by rw [HY.out]) rfl rfl HOw.out ?c1 (by decide) HBw.out.size ?_)
    case c1 => omega
    intro z' w3 hN3 hb3
    have HN3 := zh hN3; have HB3 := zh (HBw.out.trans hb3)
    clear hN3 hb3 p0 p1 p2
    go_wp2_with fail
    go_roundw
    case rel => exact ⟨HB3, k + 1, false, O ++ [y], hlt, by go_num, rfl, HN3, by simp; omega, zh (fun h => by cases h), zh (fun _ => HF2.out)⟩
    case measure => simp [intOf]; omega
theorem zix {l : List (Int × Bs)} {k : Nat} (h : k < l.length) : setL (l.take (k + 1)) = setL (l.take k) ++ if idL (l.getD k (0, [])).1 (l.getD k (0, [])).2 = [] then [] else [⟨idL (l.getD k (0, [])).1 (l.getD k (0, [])).2, (l.getD k (0, [])).1, (l.getD k (0, [])).2⟩] := by
 unfold setL
 rw [z0m l (0, []) k h, List.flatMap_append]; simp
def SetPo (l : List (Int × Bs)) (w : World) (e : Ending) (w' : World) : Prop := ∃ v r, e = .returned v ∧ HldsR w' v r ∧ IsSet (setL l) r ∧ r.length ≤ l.length ∧ Below w.heap.size w w'
theorem putH_len (l : List Hld) (x : Hld) : (putH l x).length ≤ l.length + 1 := by
 induction l with
 | nil => simp [putH]
 | cons y l ih =>
   unfold putH
   split
   · simp
   · split
     · simp
     · simp only [List.length_cons]; omega
theorem Set_p {w : World} {v : Value} {l : List (Int × Bs)} (h : ObjsR w v l) (hl : l.length ≤ 10000) (hd : ∀ x ∈ l, x.2.length ≤ 70000) : Calls Tryz.prog 19 #[v] w (SetPo l w) := by
 obtain ⟨A, c, rfl⟩ := h.shape
 obtain ⟨n, hn⟩ := zx l.length
 have hnl : n ≤ 10000 := by omega
 rw [← hn] at h ⊢
 have H := zh h; have HN := zh hn; have HD := zh hd
 clear h hn hl hd
 go_enter Tryz.func19, Tryz.ntmps19
 go_wp2_with fail
 go_loopw [3, 4] (fun z i wr => Hid (Below w.heap.size w wr) ∧ ∃ (k : Nat) (r : List Hld), k ≤ n ∧ i = .int .i64 k ∧ Hid (HldsR wr z r) ∧ r.length ≤ k ∧ Hid (IsSet (setL (l.take k)) r)) (fun _ i _ => n - (intOf i).toNat)
 case atStart => exact ⟨zh (Below.refl _ _), 0, [], Nat.zero_le _, rfl, zh (.inl ⟨⟨_, _, rfl⟩, rfl⟩), Nat.zero_le _, zh IsSet.nil⟩
 case round =>
  obtain ⟨hB, k, r, hk, rfl, hR, hrl, hS⟩ := hrel
  obtain ⟨Az, cz, rfl⟩ := hR.out.shape
  obtain ⟨rl, hrl2⟩ := zx r.length
  rw [← hrl2] at hR hrl ⊢
  have HRe := zh hrl2
  clear hrl2
  by_cases hlt : k < n
  case neg =>
   have hkn : k = n := by omega
   have HS : Hid (IsSet (setL l) r) := zh (by have h := hS.out; rw [hkn, HN.out, List.take_length] at h; exact h)
   have HRl : Hid (r.length ≤ l.length) := zh (by have := HN.out; have := HRe.out; omega)
   clear hkn hS hrl
   go_wp2_with fail
   go_ret
   exact ⟨_, r, rfl, hR.out, HS.out, HRl.out, hB.out⟩
  obtain ⟨g, o, c', e, _, hg⟩ := H.out.pos (by have := HN.out; omega)
  obtain rfl : A = some ⟨g, o, none⟩ := by rw [← HN.out] at e; cases e; rfl
  clear e
  have hkl : k < l.length := by have := HN.out; omega
  have hcl := fun W (hW : Below w.heap.size w W) => ObjsR.cells (H.out.below hW zl) k hkl
  have hsn := zix hkl
  have hds := HD.out _ (z1n l (0, []) k hkl)
  obtain ⟨kd, hkd⟩ := zx ((l.getD k (0, [])).1)
  obtain ⟨dt, hdt⟩ := zx ((l.getD k (0, [])).2)
  rw [← hkd, ← hdt] at hcl hsn
  rw [← hdt] at hds
  unfold SV at hcl
  have hid := fun W => RId_any kd dt hds W
  unfold SV at hid
  obtain ⟨id, hidd⟩ := zx (idL kd dt)
  rw [← hidd] at hid hsn
  have HI := zh hid; have HCl := zh hcl; have HSn := zh hsn
  obtain ⟨c0, c1⟩ := hcl wr hB.out
  clear hid hcl hsn hds hkd hdt hidd hg
  go_wp2_with fail
  refine (HI.out _).mono ?_
  rintro e w2 ⟨rfl, hb2⟩
  have HB2 := zh (hB.out.trans (hb2.mono hB.out.size))
  have HR2 := zh (hR.out.below hb2 zl)
  obtain ⟨c0, c1⟩ := HCl.out w2 HB2.out
  clear hb2 hR HI
  by_cases h0 : id = []
  · have hb0 : (id == []) = true := by simp [h0]
    have HS2 : Hid (IsSet (setL (l.take (k + 1))) r) := zh (by rw [HSn.out, if_pos h0, List.append_nil]; exact hS.out)
    subst h0
    clear HSn hS
    go_wp2_with fail
    go_roundw
    case rel => exact ⟨HB2, k + 1, r, hlt, by go_num, HR2, by have := HRe.out; omega, HS2⟩
    case measure => simp [intOf]; omega
  · have hb0 : (id == []) = false := by simp [h0]
    have HS2 : Hid (IsSet (setL (l.take (k + 1))) (putH r ⟨id, kd, dt⟩)) := zh (by rw [HSn.out, if_neg h0]; exact hS.out.put _)
    have HP := zh (put_p (x := ⟨id, kd, dt⟩) HR2.out hS.out.rise (by have := HRe.out; omega))
    have hpl := putH_len r ⟨id, kd, dt⟩
    unfold SV at HP
    simp only at HP
    have hpk : (putH r ⟨id, kd, dt⟩).length ≤ k + 1 := by have := HRe.out; omega
    have HPk := zh hpk
    clear HSn hS hrl hpl hpk
    go_wp2_with fail
    refine HP.out.mono ?_
    rintro e w3 ⟨v3, rfl, hr3, hb3⟩
    have HB3 := zh (HB2.out.trans (hb3.mono HB2.out.size))
    have HR3 := zh hr3
    clear hb3 hr3 HP c0 c1
    go_wp2_with fail
    go_roundw
    case rel => exact ⟨HB3, k + 1, _, hlt, by go_num, HR3, HPk.out, HS2⟩
    case measure => simp [intOf]; omega
end Go.Proofs.YtgjddkeogboojaaGreatDoor.Ct
namespace Go.Proofs.YtgjddkeogboojaaGreatDoor.Pk
open Go.Proofs.YtgjddkeogboojaaGreatDoor
open Go Go.RowKit Go.Maps
theorem l_obO {W : World} {g o : Nat} {k : Int} {d : Bs} (h1 : W.cell? ⟨g, o, none⟩ = some (.int .i64 k)) (h2 : W.cell? ⟨g, o + 1, none⟩ = some (.string ⟨d.toArray⟩)) : (Instr.loadAt 37 (.pointer (some ⟨g, o, none⟩))).run Tryz.prog W = .ok (.agg #[.int .i64 k, .string ⟨d.toArray⟩]) W := by simp [go_sem, h1, h2]
theorem l_obH {W : World} {g o : Nat} {k : Int} {d : Bs} (h1 : W.cell? ⟨g, o + 1, none⟩ = some (.int .i64 k)) (h2 : W.cell? ⟨g, o + 2, none⟩ = some (.string ⟨d.toArray⟩)) : (Instr.loadAt 37 (.pointer (some ⟨g, o + 1, none⟩))).run Tryz.prog W = .ok (.agg #[.int .i64 k, .string ⟨d.toArray⟩]) W := by simp [go_sem, h1, h2]
theorem l_I {W : World} {g o : Nat} {k : Int} (h1 : W.cell? ⟨g, o, none⟩ = some (.int .i64 k)) : (Instr.loadAt 3 (.pointer (some ⟨g, o, none⟩))).run Tryz.prog W = .ok (.int .i64 k) W := by simp [go_sem, h1]
theorem at_o0 (W : World) (g n c k : Nat) (hk : k < n) : (Instr.indexAt 35 (.slice (some ⟨g, 0, none⟩) n c) (.int .i64 (k : Int))).run Tryz.prog W = .ok (.pointer (some ⟨g, k * 2, none⟩)) W := by
 have h1 : (k : Int) < (n : Int) := by omega
 simp [go_sem, h1]
theorem at_i0 (W : World) (g n c k : Nat) (hk : k < n) : (Instr.indexAt 43 (.slice (some ⟨g, 0, none⟩) n c) (.int .i64 (k : Int))).run Tryz.prog W = .ok (.pointer (some ⟨g, k * 1, none⟩)) W := by
 have h1 : (k : Int) < (n : Int) := by omega
 simp [go_sem, h1]
theorem za3 (W : World) (g o n c k : Nat) (hk : k < n) : (Instr.indexAt 38 (.slice (some ⟨g, o, none⟩) n c) (.int .i64 (k : Int))).run Tryz.prog W = .ok (.pointer (some ⟨g, o + k * 3, none⟩)) W := by
 have h1 : (k : Int) < (n : Int) := by omega
 simp [go_sem, h1]
theorem fo_0 (W : World) (b o : Nat) : (Instr.fieldAt 37 (.pointer (some ⟨b, o, none⟩)) 0).run Tryz.prog W = .ok (.pointer (some ⟨b, o, none⟩)) W := by simp [go_sem]
theorem fo_1 (W : World) (b o : Nat) : (Instr.fieldAt 37 (.pointer (some ⟨b, o, none⟩)) 1).run Tryz.prog W = .ok (.pointer (some ⟨b, o + 1, none⟩)) W := by simp [go_sem]
theorem fhh_0 (W : World) (b o : Nat) : (Instr.fieldAt 47 (.pointer (some ⟨b, o, none⟩)) 0).run Tryz.prog W = .ok (.pointer (some ⟨b, o, none⟩)) W := by simp [go_sem]
theorem zby (W : World) (b o : Nat) : (Instr.fieldAt 47 (.pointer (some ⟨b, o, none⟩)) 1).run Tryz.prog W = .ok (.pointer (some ⟨b, o + 1, none⟩)) W := by simp [go_sem]
theorem neq_ob (W : World) (k : Int) (d : ByteArray) : (binOp .neq 37 (.agg #[.int .i64 k, .string d]) (.agg #[.int .i64 k, .string d])).run Tryz.prog W = .ok (.bool false) W := by simp [go_sem]
theorem grd_ob (W : World) (x y : Operand) (k : Int) (d : ByteArray) : (eqGuard .neq 37 x y (.agg #[.int .i64 k, .string d]) (.agg #[.int .i64 k, .string d])).run Tryz.prog W = .ok () W := by simp [eqGuard, go_sem]
theorem neq_ii (W : World) (x : Int) : (binOp .neq 3 (.int .i64 x) (.int .i64 x)).run Tryz.prog W = .ok (.bool false) W := by simp [go_sem]
theorem z38 {w : World} {B : Nat} {A : Option Addr} {n c : Nat} {l : List (Int × Bs)} (h : NewO B w (.slice A n c) l) (hn : n = l.length) (h0 : 0 < n) : ∃ g, A = some ⟨g, 0, none⟩ ∧ ∀ k, k < n → w.cell? ⟨g, k * 2, none⟩ = some (.int .i64 (l.getD k (0, [])).1) ∧ w.cell? ⟨g, k * 2 + 1, none⟩ = some (SV (l.getD k (0, [])).2) := by
 obtain ⟨g, c', e, hc⟩ := zb2 (k := 2) (f := obC) (fun _ => rfl) h (by omega)
 refine ⟨g, by cases e; rfl, fun k hk => ?_⟩
 have hx : l[k]? = some (l.getD k (0, [])) := by rw [zg, zj (by omega)]; rfl
 exact ⟨hc k _ hx 0 (by omega), hc k _ hx 1 (by omega)⟩
theorem zb6 {w : World} {B : Nat} {A : Option Addr} {n c : Nat} {l : List Int} (h : NewI B w (.slice A n c) l) (hn : n = l.length) (h0 : 0 < n) : ∃ g, A = some ⟨g, 0, none⟩ ∧ ∀ k, k < n → w.cell? ⟨g, k * 1, none⟩ = some (.int .i64 (l.getD k 0)) := by
 obtain ⟨g, c', e, hc⟩ := zb2 (k := 1) (f := intC) (fun _ => rfl) h (by omega)
 refine ⟨g, by cases e; rfl, fun k hk => ?_⟩
 have hx : l[k]? = some (l.getD k 0) := by rw [zg, zj (by omega)]; rfl
 exact hc k _ hx 0 (by omega)
theorem zb7 {α : Type} {t : TypeId} {k : Nat} {f : α → List Value} {w : World} {B : Nat} {v : Value} {l : List α} (h : OwK t k f w B v l) : ∃ A c, v = .slice A l.length c := z6k h
end Go.Proofs.YtgjddkeogboojaaGreatDoor.Pk
namespace Go.Proofs.YtgjddkeogboojaaGreatDoor.Pk
open Go.Proofs.YtgjddkeogboojaaGreatDoor
theorem zng {s : List Hld} (hr : s.Pairwise fun x y => x.id < y.id) {a b : Nat} (hb : b < s.length) (h : a < b) : (s.getD a noHld).id ≠ (s.getD b noHld).id := by
 have := List.pairwise_iff_getElem.1 hr a b (by omega) hb h
 rw [getD_lt (by omega), getD_lt hb]
 exact fun e => z4h _ (by rw [e] at this; exact this)
theorem znh {r : List Hld} (hr : r.Pairwise fun x y => x.id < y.id) {k : Nat} (hk : k < r.length) : z12 (r.take k) (r.getD k noHld).id = none := by
 unfold z12
 rw [List.find?_eq_none]
 intro x hx
 obtain ⟨j, hj, rfl⟩ := List.mem_iff_getElem.1 hx
 rw [List.length_take] at hj
 rw [List.getElem_take]
 have := zng hr hk (show j < k by omega)
 rw [getD_lt (show j < r.length by omega)] at this
 simpa using this
theorem zni {r : List Hld} (hr : r.Pairwise fun x y => x.id < y.id) {k : Nat} (hk : k < r.length) (x : Bs) : z12 (r.take (k + 1)) x = if x = (r.getD k noHld).id then some (r.getD k noHld) else z12 (r.take k) x := by
 rw [z0m r noHld k hk, z1a, z17]
 by_cases e : x = (r.getD k noHld).id
 · rw [if_pos e, e, znh hr hk, if_pos rfl]; rfl
 · rw [if_neg e, if_neg (fun h => e h.symm)]
   have : z12 [] x = none := rfl
   rw [this, Option.or_none]
theorem znj (p : Hld → Bool) (q : Bs → Bool) (hp : ∀ h, p h = q h.id) (l : List Hld) (x : Bs) : z12 (l.filter p) x = if q x = true then z12 l x else none := by
 induction l with
 | nil => simp [z12]
 | cons h l ih =>
   by_cases hq : p h = true
   · rw [List.filter_cons_of_pos hq, z17, z17, ih]
     by_cases e : h.id = x
     · have : q x = true := by rw [← e, ← hp]; exact hq
       rw [if_pos e, if_pos this, if_pos e]
     · rw [if_neg e, if_neg e]
   · rw [List.filter_cons_of_neg hq, ih, z17]
     by_cases e : h.id = x
     · have : ¬ q x = true := by rw [← e, ← hp]; exact hq
       rw [if_neg this, if_neg this]
     · rw [if_neg e]
theorem znk {hv r : List Hld} {ids : List Bs} (hs : IsSet (z3p hv ids) r) {x : Bs} (hx : x ∈ ids) : z12 r x = z12 hv x := by
 rw [hs.find]
 unfold z3p
 rw [znj (fun h => ids.contains h.id) (fun y => ids.contains y) (fun _ => rfl), if_pos (by simpa using hx)]
end Go.Proofs.YtgjddkeogboojaaGreatDoor.Pk
