/-
  The live question of the laws of refs, walked.
-/
import Derived.Test.YtfnepffccenebaaGreatDoorRHdP
import Derived.Test.YtfnepffccenebaaGreatDoorRAppl2
import Derived.Test.YtfnepffccenebaaGreatDoorRTips
import Derived.Test.YtfnepffccenebaaGreatDoorRFind
import Derived.Test.YtfnepffccenebaaGreatDoorRGet
import Derived.Test.YtfnepffccenebaaGreatDoorRPut
import Derived.Test.YtfnepffccenebaaGreatDoorDRSum
import Derived.Lib.SlBytesConst
namespace Go.Proofs.YtfnepffccenebaaGreatDoor.Rf
open Go.Proofs.YtfnepffccenebaaGreatDoor
open Go Go.RowKit

theorem rb_const (w : World) (a : UInt8) : Rb (w.alloc (.cells #[.int .u8 (a.toNat : Int)] 5 (1, 2))) (.slice (some ⟨w.heap.size, 0, none⟩) 1 1) [a] :=
  .inr ⟨w.heap.size, 0, 1, rfl, by simp, by simp, fun j hj => by
    have h : (w.alloc (.cells #[.int .u8 (a.toNat : Int)] 5 (1, 2))).heap[w.heap.size]? = some (.cells #[.int .u8 (a.toNat : Int)] 5 (1, 2)) := heap_alloc_new w _
    rw [Nat.zero_add, cell_of_row _ _ j _ _ _ h]
    match j, hj with
    | 0, _ => rfl⟩
theorem isD_div (c : UInt8) : isD (hexD (c / 16)) = true ∧ isD (hexD (c % 16)) = true := by
  have h : (isD (hexD (c / 16)) && isD (hexD (c % 16))) = true := u8_all (p := fun c => isD (hexD (c / 16)) && isD (hexD (c % 16))) (by decide +kernel) c
  simpa using h
theorem name_named (l : Bs) (h : (nameL l).length = 64) : namedB (nameL l) = true := by
  unfold namedB
  rw [h]
  simp only [beq_self_eq_true, Bool.true_and]
  unfold nameL
  generalize sumL l = s
  induction s with
  | nil => rfl
  | cons c s ih => simp only [List.flatMap_cons, List.all_append, ih, List.all_cons, List.all_nil, (isD_div c).1, (isD_div c).2, Bool.and_true]
/-- A slice of structs that a law writes down. -/
theorem row_new {α : Type} {k : Nat} {f : α → List Value} (hf : ∀ x, (f x).length = k) (w : World) (t : TypeId) (l : List α) (cs : Array Value) (hcs : cs = (l.flatMap f).toArray) (n : Nat) (hn : n = l.length) : RdK k f (w.alloc (.cells cs t)) (.slice (some ⟨w.heap.size, 0, none⟩) n n) l := by
  subst hcs; subst hn
  refine .inr ⟨w.heap.size, 0, l.length, rfl, Nat.le_refl _, by simp, fun j hj x hx i hi => ?_⟩
  rw [cell_of_row _ _ _ _ _ _ (heap_alloc_new w _), Nat.zero_add]
  have h := flat_get hf l j x hx i hi
  simpa using h
theorem apply_open {l : List Ref} {u : List Upd} {w w' : World} {e : Ending} {r : List Ref} {ec pl : Nat} (h : ApplyP l u w e w') (ha : IsApply l u (r, ec, pl)) : ∃ A n c, n = r.length ∧ e = .returned (.tuple #[.slice A n c, .int .i64 ((ec : Nat) : Int), .int .i64 ((pl : Nat) : Int)]) ∧ RefsR w' (.slice A n c) r ∧ Below w.heap.size w w' := by
  obtain ⟨v, r', ec', pl', rfl, h1, h2, h3⟩ := h
  have e := h2.unique ha
  cases e
  obtain ⟨A, c, rfl⟩ := h1.shape
  exact ⟨A, _, c, rfl, rfl, h1, h3⟩
theorem len_ha : ha.length ≤ 100 := by decide
theorem len_hb : hb.length ≤ 100 := by decide
theorem len_hab : hab.length ≤ 100 := by decide
theorem len_nil : ([] : Bs).length ≤ 100 := by decide
theorem fit_one {n a : Bs} (h1 : n.length ≤ 100) (h2 : a.length ≤ 100) : Fit [⟨n, a⟩] := fun r hr => by rw [List.mem_singleton.1 hr]; unfold maxLen; exact ⟨by simp only; omega, by simp only; omega⟩
set_option maxRecDepth 100000 in
set_option maxHeartbeats 8000000 in
theorem head_p (w : World) : Calls Tryz.prog 10 #[] w (BoolB true w) := by
  have kc := fun (w : World) (C : Array Value) (n c : Nat) => Lib.run_convert_bytes_const (P := Tryz.prog) w 48 5 C n c Tryz.underlying48 Tryz.underlying5
  obtain ⟨a, hna⟩ : ∃ n, n = nameL [97] := ⟨_, rfl⟩
  have hA : namedB a = true := by rw [hna]; exact name_named _ (nameL_length _)
  have h64 : a.length = 64 := named_len64 hA
  obtain ⟨w1, hw1⟩ : ∃ w1, w1 = w.alloc (.cells #[.int .u8 97] 5 (1, 2)) := ⟨_, rfl⟩
  have l1 : Below w.heap.size w w1 := by rw [hw1]; exact below_new w _
  have HN1 := Lib.hid (RName_any w1 _ [97] (by decide) (by rw [hw1]; exact rb_const w 97))
  rw [← hna] at HN1
  have HA := Lib.hid hA; have H64 := Lib.hid h64; have HW1 := Lib.hid hw1; have L1 := Lib.hid l1
  have hF1 : Fit [⟨ha, a⟩] := fit_one (by decide) (by omega)
  have hF2 : Fit [⟨hab, a⟩] := fit_one (by decide) (by omega)
  have hU : ∀ u : List Upd, (∀ x ∈ u, x.name.length ≤ 100 ∧ x.old.length ≤ 100 ∧ x.new.length ≤ 100) → FitU u := fun u h x hx => by have := h x hx; unfold maxLen; omega
  have HF1 := Lib.hid hF1; have HF2 := Lib.hid hF2; have HU := Lib.hid hU
  unfold SV at HN1
  clear hna hA h64 hw1 l1 hF1 hF2 hU
  go_enter Tryz.func10, Tryz.ntmps10
  go_wp2_with fail
  rw [← HW1.out]
  refine HN1.out.mono ?_
  rintro e w2 ⟨rfl, l2⟩
  have L2 : Hid (Below w.heap.size w w2) := Lib.hid (L1.out.trans (l2.mono L1.out.size))
  clear l2
  obtain ⟨w3, hw3⟩ : ∃ z, z = w2.alloc (.cells #[.string ⟨#[104, 101, 97, 100, 115, 47, 97]⟩, .string ⟨#[]⟩, .string ⟨a.toArray⟩] 43) := ⟨_, rfl⟩
  have l3 : Below w2.heap.size w2 w3 := by rw [hw3]; exact below_new w2 _
  have L3 := Lib.hid (L2.out.trans (l3.mono L2.out.size))
  have U0 : UpdsR w3 (.slice (some ⟨w2.heap.size, 0, none⟩) 1 1) [⟨ha, [], a⟩] := by rw [hw3]; exact row_new updC_len w2 _ _ _ rfl _ rfl
  have R0 : RefsR w3 (.slice none 0 0) [] := .inl ⟨⟨none, 0, rfl⟩, rfl⟩
  have HAp := Lib.hid (Apply_p [] _ [⟨ha, [], a⟩] _ w3 R0 U0 (fun _ h => by cases h) (HU.out _ (fun x hx => by
    have := H64.out
    simp only [List.mem_cons, List.not_mem_nil, or_false] at hx
    subst hx
    have la : a.length ≤ 100 := by omega
    exact ⟨len_ha, len_nil, la⟩)) (by simp) (by simp))
  have HW := Lib.hid hw3
  clear hw3 l3 U0 R0
  go_wp2_with fail
  rw [← HW.out]
  refine HAp.out.mono ?_
  rintro e w4 hap
  obtain ⟨A1, n1, c1, hn, rfl, hr, hb⟩ := apply_open hap (ap0 HA.out)
  have L4 := Lib.hid (L3.out.trans (hb.mono L3.out.size))
  have hn1 : n1 = 1 := hn
  subst hn1
  have HR1 := Lib.hid hr
  have M4 := Lib.hid (Below.refl w4.heap.size w4)
  clear hap hr hb hn HAp HW
  obtain ⟨w5, hw5⟩ : ∃ z, z = w4.alloc (.cells #[.string ⟨#[104, 101, 97, 100, 115, 47, 98]⟩, .string ⟨#[]⟩, .string ⟨a.toArray⟩, .string ⟨#[104, 101, 97, 100, 115, 47, 97, 47, 98]⟩, .string ⟨#[]⟩, .string ⟨a.toArray⟩] 43) := ⟨_, rfl⟩
  have l5 : Below w4.heap.size w4 w5 := by rw [hw5]; exact below_new w4 _
  have L5 := Lib.hid (L4.out.trans (l5.mono L4.out.size))
  have U1 : UpdsR w5 (.slice (some ⟨w4.heap.size, 0, none⟩) 2 2) [⟨hb, [], a⟩, ⟨hab, [], a⟩] := by rw [hw5]; exact row_new updC_len w4 _ _ _ rfl _ rfl
  have R1 : RefsR w5 (.slice A1 1 c1) [⟨ha, a⟩] := RdK.below HR1.out (M4.out.trans (l5.mono M4.out.size)) (Nat.le_refl _)
  have HAp := Lib.hid (Apply_p [⟨ha, a⟩] _ [⟨hb, [], a⟩, ⟨hab, [], a⟩] _ w5 R1 U1 HF1.out (HU.out _ (fun x hx => by
    have := H64.out
    simp only [List.mem_cons, List.not_mem_nil, or_false] at hx
    have la : a.length ≤ 100 := by omega
    rcases hx with rfl | rfl
    · exact ⟨len_hb, len_nil, la⟩
    · exact ⟨len_hab, len_nil, la⟩)) (by simp) (by simp))
  have M5 := Lib.hid (M4.out.trans (l5.mono M4.out.size))
  have HW := Lib.hid hw5
  clear hw5 l5 U1 R1
  go_wp2_with fail
  rw [← HW.out]
  refine HAp.out.mono ?_
  rintro e w6 hap
  obtain ⟨A2, n2, c2, hn, rfl, hr, hb⟩ := apply_open hap (ap1 HA.out)
  have L6 := Lib.hid (L5.out.trans (hb.mono L5.out.size))
  have HR2 := Lib.hid hr
  have M6 := Lib.hid (M5.out.trans (hb.mono M5.out.size))
  clear hap hr hb hn HAp HW
  obtain ⟨w7, hw7⟩ : ∃ z, z = w6.alloc (.cells #[.string ⟨#[104, 101, 97, 100, 115, 47, 97]⟩, .string ⟨#[]⟩, .string ⟨a.toArray⟩] 43) := ⟨_, rfl⟩
  have l7 : Below w6.heap.size w6 w7 := by rw [hw7]; exact below_new w6 _
  have L7 := Lib.hid (L6.out.trans (l7.mono L6.out.size))
  have U2 : UpdsR w7 (.slice (some ⟨w6.heap.size, 0, none⟩) 1 1) [⟨ha, [], a⟩] := by rw [hw7]; exact row_new updC_len w6 _ _ _ rfl _ rfl
  have R2 : RefsR w7 (.slice A1 1 c1) [⟨ha, a⟩] := RdK.below HR1.out (M6.out.trans (l7.mono M6.out.size)) (Nat.le_refl _)
  have HAp := Lib.hid (Apply_p [⟨ha, a⟩] _ [⟨ha, [], a⟩] _ w7 R2 U2 HF1.out (HU.out _ (fun x hx => by
    have := H64.out
    simp only [List.mem_cons, List.not_mem_nil, or_false] at hx
    have la : a.length ≤ 100 := by omega
    subst hx
    exact ⟨len_ha, len_nil, la⟩)) (by simp) (by simp))
  have M7 := Lib.hid (M6.out.trans (l7.mono M6.out.size))
  have HW := Lib.hid hw7
  clear hw7 l7 U2 R2
  go_wp2_with fail
  rw [← HW.out]
  refine HAp.out.mono ?_
  rintro e w8 hap
  obtain ⟨A3, n3, c3, hn, rfl, hr, hb⟩ := apply_open hap (ap2 HA.out)
  have L8 := Lib.hid (L7.out.trans (hb.mono L7.out.size))
  have HR3 := Lib.hid hr
  have M8 := Lib.hid (M7.out.trans (hb.mono M7.out.size))
  clear hap hr hb hn HAp HW
  obtain ⟨w9, hw9⟩ : ∃ z, z = w8.alloc (.cells #[.string ⟨#[104, 101, 97, 100, 115, 47, 97]⟩, .string ⟨a.toArray⟩, .string ⟨#[]⟩, .string ⟨#[104, 101, 97, 100, 115, 47, 97, 47, 98]⟩, .string ⟨#[]⟩, .string ⟨a.toArray⟩] 43) := ⟨_, rfl⟩
  have l9 : Below w8.heap.size w8 w9 := by rw [hw9]; exact below_new w8 _
  have L9 := Lib.hid (L8.out.trans (l9.mono L8.out.size))
  have U3 : UpdsR w9 (.slice (some ⟨w8.heap.size, 0, none⟩) 2 2) [⟨ha, a, []⟩, ⟨hab, [], a⟩] := by rw [hw9]; exact row_new updC_len w8 _ _ _ rfl _ rfl
  have R3 : RefsR w9 (.slice A1 1 c1) [⟨ha, a⟩] := RdK.below HR1.out (M8.out.trans (l9.mono M8.out.size)) (Nat.le_refl _)
  have HAp := Lib.hid (Apply_p [⟨ha, a⟩] _ [⟨ha, a, []⟩, ⟨hab, [], a⟩] _ w9 R3 U3 HF1.out (HU.out _ (fun x hx => by
    have := H64.out
    simp only [List.mem_cons, List.not_mem_nil, or_false] at hx
    have la : a.length ≤ 100 := by omega
    rcases hx with rfl | rfl
    · exact ⟨len_ha, la, len_nil⟩
    · exact ⟨len_hab, len_nil, la⟩)) (by simp) (by simp))
  have M9 := Lib.hid (M8.out.trans (l9.mono M8.out.size))
  have HW := Lib.hid hw9
  clear hw9 l9 U3 R3
  go_wp2_with fail
  rw [← HW.out]
  refine HAp.out.mono ?_
  rintro e w10 hap
  obtain ⟨A4, n4, c4, hn, rfl, hr, hb⟩ := apply_open hap (ap3 HA.out)
  have L10 := Lib.hid (L9.out.trans (hb.mono L9.out.size))
  have HR4 := Lib.hid hr
  have M10 := Lib.hid (M9.out.trans (hb.mono M9.out.size))
  have hn4 : n4 = 1 := hn
  subst hn4
  clear hap hr hb hn HAp HW
  have R4 : RefsR w10 (.slice A1 1 c1) [⟨ha, a⟩] := RdK.below HR1.out M10.out (Nat.le_refl _)
  have HPt := Lib.hid (Put_p [⟨ha, a⟩] _ w10 R4 HF1.out (by simp))
  clear R4
  go_wp2_with fail
  refine HPt.out.mono ?_
  rintro e w11 ⟨(⟨rfl, _⟩ | ⟨_, hn⟩), hb⟩
  case inr => exact absurd (right_one n_ha HA.out) hn
  have L11 := Lib.hid (L10.out.trans (hb.mono L10.out.size))
  have M11 := Lib.hid (M10.out.trans (hb.mono M10.out.size))
  obtain ⟨s, hs⟩ : ∃ s, s = linesL [⟨ha, a⟩] := ⟨_, rfl⟩
  have hsl : s.length ≤ 1000000 := by
    have h := linesL_len (l := [⟨ha, a⟩]) (right_one n_ha HA.out).each
    rw [hs]; simp only [List.length_singleton] at h; omega
  have HG := Lib.hid (Get_p s w11 hsl)
  have HS := Lib.hid hs
  rw [← hs]
  unfold SV
  clear hb hs hsl HPt
  go_wp2_with fail
  refine HG.out.mono ?_
  rintro e w12 ⟨(⟨v5, l5, rfl, ho5, hg5⟩ | ⟨_, hn⟩), hb⟩
  case inr => exact absurd ⟨right_one n_ha HA.out, HS.out.symm⟩ (hn [⟨ha, a⟩])
  have he5 : l5 = [⟨ha, a⟩] := hg5.unique ⟨right_one n_ha HA.out, HS.out.symm⟩
  obtain ⟨A5, n5, c5, rfl, hn5⟩ := OwK.shape ho5
  have hn5' : n5 = 1 := by rw [hn5, he5]; rfl
  subst hn5'
  have L12 := Lib.hid (L11.out.trans (hb.mono L11.out.size))
  have M12 := Lib.hid (M11.out.trans (hb.mono M11.out.size))
  have HFd := Lib.hid (Find_p [⟨ha, a⟩] _ ha w12 (RdK.below HR1.out M12.out (Nat.le_refl _)) (by simp))
  rw [find_one] at HFd
  clear hb he5 hn5 ho5 hg5 HG
  go_wp2_with fail
  refine HFd.out.mono ?_
  rintro e w13 ⟨rfl, hb⟩
  have L13 := Lib.hid (L12.out.trans (hb.mono L12.out.size))
  have M13 := Lib.hid (M12.out.trans (hb.mono M12.out.size))
  have HTp := Lib.hid (Tips_p [⟨ha, a⟩] _ w13 (RdK.below HR1.out M13.out (Nat.le_refl _)) (by simp))
  clear hb HFd
  go_wp2_with fail
  refine HTp.out.mono ?_
  rintro e w14 ⟨v6, t6, rfl, hr6, ht6, hb⟩
  obtain ⟨A6, c6, rfl⟩ := hr6.shape
  rw [tips_one ht6]
  have L14 := Lib.hid (L13.out.trans (hb.mono L13.out.size))
  have HN7 := Lib.hid (Named_p [116, 97, 103, 115, 47, 118, 49] w14 (by decide))
  rw [n_tag] at HN7
  clear hb HTp hr6 ht6
  go_wp2_with fail
  refine HN7.out.mono ?_
  rintro e w15 ⟨rfl, hb⟩
  have L15 := Lib.hid (L14.out.trans (hb.mono L14.out.size))
  have HN8 := Lib.hid (Named_p [116, 97, 103, 115] w15 (by decide))
  rw [n_tags] at HN8
  clear hb HN7
  go_wp2_with fail
  refine HN8.out.mono ?_
  rintro e w16 ⟨rfl, hb⟩
  have L16 := Lib.hid (L15.out.trans (hb.mono L15.out.size))
  obtain ⟨w17, hw17⟩ : ∃ z, z = w16.alloc (.cells #[.string ⟨#[]⟩, .string ⟨#[]⟩] 45) := ⟨_, rfl⟩
  have l17 : Below w16.heap.size w16 w17 := by rw [hw17]; exact below_new w16 _
  have L17 := Lib.hid (L16.out.trans (l17.mono L16.out.size))
  have R17 : RefsR w17 (.slice (some ⟨w16.heap.size, 0, none⟩) 1 1) [⟨[], []⟩] := by rw [hw17]; exact row_new refC_len w16 _ _ _ rfl _ rfl
  have HRt := Lib.hid (Right_p [⟨[], []⟩] _ w17 R17 (fit_one (by decide) (by decide)) (by simp))
  rw [rightB_no not_right_zero] at HRt
  have HW := Lib.hid hw17
  clear hb HN8 R17 l17 hw17
  go_wp2_with fail
  rw [← HW.out]
  refine HRt.out.mono ?_
  rintro e w18 ⟨rfl, hb⟩
  have L18 := Lib.hid (L17.out.trans (hb.mono L17.out.size))
  clear hb HRt
  go_wp2_with fail
  go_ret
  exact ⟨rfl, L18.out⟩
end Go.Proofs.YtfnepffccenebaaGreatDoor.Rf
