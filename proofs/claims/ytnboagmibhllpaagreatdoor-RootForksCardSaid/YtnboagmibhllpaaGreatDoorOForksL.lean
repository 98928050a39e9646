/-
  RootForks, walked.
-/
import Derived.Test.YtnboagmibhllpaaGreatDoorOGrt
import Derived.Test.YtnboagmibhllpaaGreatDoorOLawP
import Derived.Test.YtnboagmibhllpaaGreatDoorC20
namespace Go.Proofs.YtnboagmibhllpaaGreatDoor.Ro
open Go.Proofs.YtnboagmibhllpaaGreatDoor
open Go.Proofs.YtnboagmibhllpaaGreatDoor.Rf (BoolB Ref RefsR)
open Go Go.RowKit

theorem geS (W : World) (x y : Bs) (b : Bool) (h : decide (x < y) = !b) : (binOp .geq 9 (.string ⟨x.toArray⟩) (.string ⟨y.toArray⟩)).run Tryz.prog W = .ok (.bool b) W := by
  show (Op.stringOp .geq _ _).run _ _ = _
  have e := Go.Proofs.bytesLess_eq x y
  rw [h] at e
  simp [go_sem, Op.stringOp, e]
theorem l_Rt3 (W : World) (b : Nat) (x0 x1 x2 : Value) (h0 : W.cell? ⟨b, 0, none⟩ = some x0) (h1 : W.cell? ⟨b, 1, none⟩ = some x1) (h2 : W.cell? ⟨b, 2, none⟩ = some x2) :
    (Instr.loadAt 25 (.pointer (some ⟨b, 0, none⟩))).run Tryz.prog W = .ok (.agg #[x0, x1, x2]) W := by
  simp [go_sem, h0, h1, h2]
theorem f_r2 (W : World) (b : Nat) : (Instr.fieldAt 25 (.pointer (some ⟨b, 0, none⟩)) 2).run Tryz.prog W = .ok (.pointer (some ⟨b, 2, none⟩)) W := by simp [go_sem]
theorem gtr0 (W : World) (k : Nat) (b : Bool) (h : decide (0 < k) = b) : (binOp .gtr 3 (.int .i64 (k : Int)) (.int .i64 0)).run Tryz.prog W = .ok (.bool b) W := by
  cases b with
  | true =>
    have h1 : (0 : Int) < (k : Int) := by have := of_decide_eq_true h; omega
    simp [go_sem]; omega
  | false =>
    have h1 : ¬ (0 : Int) < (k : Int) := by have := of_decide_eq_false h; omega
    simp [go_sem]; omega
theorem neqk (W : World) (k : Nat) : (binOp .neq 3 (.int .i64 (k : Int)) (.int .i64 (k : Int))).run Tryz.prog W = .ok (.bool false) W := by simp [go_sem]
set_option maxRecDepth 100000 in
set_option maxHeartbeats 8000000 in
theorem Forks_law {w : World} {E : ErA} (hp : PrA E w) (hT : Tb w) (v : Value) (r : Rt) (hv : RtR w v r) (hb : BigR r) (s : Bs) (hs : s.length ≤ maxLen) : Calls Tryz.prog 7 #[v, SV s] w (BoolB true w) := by
  unfold maxLen at hs
  unfold SV
  obtain ⟨A, c, B, d, rfl, hpl, hk⟩ := hv.parts
  obtain ⟨n, hn⟩ : ∃ n, n = r.pool.length := ⟨_, rfl⟩
  obtain ⟨m, hm⟩ : ∃ m, m = r.forks.length := ⟨_, rfl⟩
  obtain ⟨z, hz⟩ : ∃ z, z = r.count := ⟨_, rfl⟩
  rw [← hn] at hpl
  rw [← hm] at hk
  rw [← hn, ← hm, ← hz] at hv ⊢
  obtain ⟨wa, hwa⟩ : ∃ y, y = w.alloc (.cells #[.int .i64 z, .slice A n c, .slice B m d] 25) := ⟨_, rfl⟩
  have la : Below w.heap.size w wa := by rw [hwa]; exact below_new _ _
  have sa : w.heap.size < wa.heap.size := by rw [hwa]; simp
  have ka : ∀ (i : Nat) (u : Value), (#[.int .i64 z, .slice A n c, .slice B m d] : Array Value)[i]? = some u → wa.cell? ⟨w.heap.size, i, none⟩ = some u := fun i u hi => by rw [hwa, cell_of_row _ _ _ _ _ _ (heap_alloc_new w _)]; exact hi
  have cA := fun (i : Nat) (u : Value) (hi : (#[.int .i64 z, .slice A n c, .slice B m d] : Array Value)[i]? = some u) => (show Hid (∀ W, Below wa.heap.size wa W → W.cell? ⟨w.heap.size, i, none⟩ = some u) from Lib.hid fun W h =>
    (h.cell (p := ⟨w.heap.size, i, none⟩) sa).trans (ka i u hi))
  have C0 := cA 0 _ rfl; have C1 := cA 1 _ rfl; have C2 := cA 2 _ rfl
  have HV := Lib.hid (hv.below la (Nat.le_refl _)); have HP := Lib.hid (RdK.below hpl la (Nat.le_refl _)); have HK := Lib.hid (hk.below la (Nat.le_refl _))
  have HPr := Lib.hid (hp.below la); have HTb := Lib.hid (Tb.below hT la)
  have HH := Lib.hid (head_p (hp.below la) (Tb.below hT la))
  have LA := Lib.hid la; have HW := Lib.hid hwa; have HN := Lib.hid hn; have HM := Lib.hid hm; have HB := Lib.hid hb
  clear hv hpl hk hp hT hn hm hz la sa ka cA hwa hb
  go_enter Tryz.func7, Tryz.ntmps7
  go_upto_region 1 with fail
  rw [← HW.out]
  clear HW
  go_wp2_with fail
  refine HH.out.mono ?_
  rintro e w1 ⟨rfl, hb1⟩
  have L1 := Lib.hid hb1
  have f0 := C0.out w1 hb1; have f1 := C1.out w1 hb1; have f2 := C2.out w1 hb1
  have HG := Lib.hid (OGreat_p (HV.out.below hb1 (Nat.le_refl _)) HB.out)
  clear hb1 HH
  go_wp2_with fail
  refine HG.out.mono ?_
  rintro e w2 ⟨g2, rfl, hb2, hg2⟩
  have L2 := Lib.hid (L1.out.trans (hb2.mono L1.out.size))
  clear HG f0 f1 f2
  cases g2 with
  | true =>
    clear hg2 hb2
    go_wp2_with fail
    go_ret
    exact ⟨rfl, LA.out.trans (L2.out.mono LA.out.size)⟩
  | false =>
  have HS := Lib.hid (hg2 rfl)
  have HF := Lib.hid (HS.out.fit HB.out)
  clear hg2 hb2
  by_cases h1000 : s.length ≤ 1000
  case neg =>
    have hI : (1000 : Int) < (s.length : Int) := by omega
    clear h1000
    go_wp2_with fail
    go_ret
    exact ⟨rfl, LA.out.trans (L2.out.mono LA.out.size)⟩
  have hI : ¬ (1000 : Int) < (s.length : Int) := by omega
  have HS1 := Lib.hid h1000
  have HR := Lib.hid (Right_p r _ w2 (HV.out.below L2.out (Nat.le_refl _)) HF.out)
  have f0 := C0.out w2 L2.out; have f1 := C1.out w2 L2.out; have f2 := C2.out w2 L2.out
  clear h1000
  go_wp2_with fail
  refine HR.out.mono ?_
  rintro e w3 ⟨rfl, hb3⟩
  have L3 := Lib.hid (L2.out.trans (hb3.mono L2.out.size))
  clear hb3 f0 f1 f2 HR
  by_cases hok : RtOk r
  case neg =>
    rw [rtB_no hok]
    clear hok
    go_wp2_with fail
    go_ret
    exact ⟨rfl, LA.out.trans (L3.out.mono LA.out.size)⟩
  rw [rtB_iff.2 hok]
  have HOk := Lib.hid hok
  clear hok
  have hml : m ≤ 16 := by rw [HM.out]; exact HOk.out.len
  go_wp2_with fail
  go_loopw [6, 7] (fun q i wr => Hid (Below wa.heap.size wa wr) ∧ ∃ (k : Nat) (b : Bool), k ≤ m ∧ i = .int .i64 k ∧ q = .bool b ∧ Hid (b = true ↔ ∃ f ∈ r.forks.take k, f.name = s)) (fun _ i _ => m - (intOf i).toNat)
  case atStart => exact ⟨L3, 0, false, Nat.zero_le _, rfl, rfl, Lib.hid (by simp)⟩
  case round =>
    obtain ⟨hB, k, b, hk, rfl, rfl, hb⟩ := hrel
    by_cases hlt : k < m
    case neg =>
      have hkm : k = m := by omega
      have HFd := Lib.hid (Find_p r _ s wr (HV.out.below hB.out (Nat.le_refl _)) (by rw [← HM.out]; omega))
      have hfi := findF_iff (l := r.forks) (s := s)
      have HQ : Hid (0 ≤ findF r.forks s ↔ b = true) := Lib.hid (by
        have h := hb.out
        rw [hkm, HM.out, List.take_length] at h
        rw [hfi, h])
      obtain ⟨y, hy⟩ : ∃ y, y = findF r.forks s := ⟨_, rfl⟩
      rw [← hy] at HFd HQ
      have g2 := C2.out wr hB.out; have g0 := C0.out wr hB.out; have g1 := C1.out wr hB.out
      clear hkm hb hfi hy
      go_wp2_with fail
      refine HFd.out.mono ?_
      rintro e w4 ⟨rfl, hb4⟩
      have L4 := Lib.hid (hB.out.trans (hb4.mono hB.out.size))
      clear hb4
      cases b with
      | true =>
        have hy0 : (0 : Int) ≤ y := HQ.out.2 rfl
        clear HQ
        go_wp2_with fail
        go_ret
        exact ⟨by simp, LA.out.trans (L4.out.mono LA.out.size)⟩
      | false =>
        have hy0 : ¬ (0 : Int) ≤ y := fun h => by have := HQ.out.1 h; cases this
        clear HQ
        go_wp2_with fail
        go_ret
        exact ⟨by simp [hy0], LA.out.trans (L4.out.mono LA.out.size)⟩
    obtain ⟨g, o, c', e, _, hg⟩ := HK.out.pos (by have := HM.out; omega)
    obtain rfl : B = some ⟨g, o, none⟩ := by rw [← HM.out] at e; cases e; rfl
    clear e
    obtain ⟨f, hf⟩ : ∃ f, r.forks[k]? = some f := ⟨_, List.getElem?_eq_getElem (by have := HM.out; omega)⟩
    have hfok := HOk.out.forks.each f (List.mem_of_getElem? hf)
    have hfind := findF_at HOk.out.forks.rise hf
    have hcell := fun W (hW : Below wa.heap.size wa W) => (show W.cell? ⟨g, o + k * 5, none⟩ = some (.string ⟨f.name.toArray⟩) from by
      obtain ⟨x, hx, d0, _⟩ := (HK.out.below hW (Nat.le_refl _)).at hf
      rw [hx.name] at d0; exact d0)
    have D0 := Lib.hid hcell
    have HFd := fun W (hW : Below wa.heap.size wa W) => Lib.hid (Find_p r _ f.name W (HV.out.below hW (Nat.le_refl _)) (by rw [← HM.out]; omega))
    rw [hfind] at HFd
    have HNm := fun W => Lib.hid (forkNamed_any f.name W (by have := fork_len hfok.name; unfold maxLen; omega))
    rw [hfok.name] at HNm
    unfold SV at HNm
    have HQ2 : Hid (∀ b', b' = (b || f.name == s) → (b' = true ↔ ∃ f ∈ r.forks.take (k + 1), f.name = s)) := Lib.hid fun b' h => by
      rw [h, List.take_add_one, hf, Option.toList_some]
      simp only [Bool.or_eq_true, hb.out, List.mem_append, List.mem_singleton, beq_iff_eq]
      constructor
      · rintro (⟨x, h1, h2⟩ | h2)
        · exact ⟨x, .inl h1, h2⟩
        · exact ⟨f, .inr rfl, h2⟩
      · rintro ⟨x, h1 | rfl, h2⟩
        · exact .inl ⟨x, h1, h2⟩
        · exact .inr h2
    have HI := Lib.hid fun W => at_f W g o m d k hlt
    have LD : Hid (Below wa.heap.size wa wr.drew) := Lib.hid hB.out.drew
    obtain ⟨nm, hnm⟩ : ∃ nm, nm = f.name := ⟨_, rfl⟩
    rw [← hnm] at D0 HFd HNm HQ2
    have HLt : Hid (∀ j, k = j + 1 → ∃ x : Bs, x < nm ∧ ∀ W, Below wa.heap.size wa W → W.cell? ⟨g, o + j * 5, none⟩ = some (.string ⟨x.toArray⟩)) := Lib.hid fun j hj => by
      obtain ⟨f', hf'⟩ : ∃ f, r.forks[j]? = some f := ⟨_, List.getElem?_eq_getElem (by have := HM.out; omega)⟩
      refine ⟨f'.name, ?_, fun W hW => ?_⟩
      · have h1 := (List.getElem?_eq_some_iff.1 hf').1
        have h2 := (List.getElem?_eq_some_iff.1 hf).1
        have h := List.pairwise_iff_getElem.1 HOk.out.forks.rise j k h1 h2 (by omega)
        rw [hnm]
        have e1 : r.forks[j] = f' := by rw [List.getElem?_eq_getElem h1] at hf'; exact Option.some.inj hf'
        have e2 : r.forks[k] = f := by rw [List.getElem?_eq_getElem h2] at hf; exact Option.some.inj hf
        rw [e1, e2] at h; exact h
      · obtain ⟨x, hx, d0, _⟩ := (HK.out.below hW (Nat.le_refl _)).at hf'
        rw [hx.name] at d0; exact d0
    have g2 := C2.out wr hB.out
    clear hf hfok hfind hcell hnm hg hb
    rcases Nat.eq_zero_or_pos k with hk0' | hk0'
    · have hk0 : decide (0 < k) = false := by rw [hk0']; rfl
      have hk0I : ¬ (0 : Int) < (k : Int) := by omega
      clear hk0' HLt
      go_wp2_with fail
      refine AnyB.start (by kernel_rfl) ?_
      refine AnyB.take 0 (.agg #[.int .i64 z, .slice A n c, .slice (some ⟨g, o, none⟩) m d]) rfl (by kernel_rfl) (by kernel_rfl) (by kernel_rfl) (fun _ _ _ h => h) (by kernel_rfl) (fun W hW => y_load (sv := .pointer (some ⟨w.heap.size, 0, none⟩)) rfl (by kernel_rfl) (l_Rt3 W _ _ _ _ (C0.out W (LD.out.trans (hW.mono LD.out.size))) (C1.out W (LD.out.trans (hW.mono LD.out.size))) (C2.out W (LD.out.trans (hW.mono LD.out.size))))) ?_
      refine AnyB.take 1 (.pointer (some ⟨w.heap.size, 2, none⟩)) rfl (by kernel_rfl) (by kernel_rfl) (by kernel_rfl) (fun _ _ _ h => h) (by kernel_rfl) (fun W hW => y_field (sv := .pointer (some ⟨w.heap.size, 0, none⟩)) rfl (by kernel_rfl) (f_r2 W _)) ?_
      refine AnyB.take 2 (.slice (some ⟨g, o, none⟩) m d) rfl (by kernel_rfl) (by kernel_rfl) (by kernel_rfl) (fun _ _ _ h => h) (by kernel_rfl) (fun W hW => y_load (sv := .pointer (some ⟨w.heap.size, 2, none⟩)) rfl (by kernel_rfl) (l_Fl W _ 2 _ _ _ (C2.out W (LD.out.trans (hW.mono LD.out.size))))) ?_
      refine AnyB.take 3 (.int .i64 (k : Int)) rfl (by kernel_rfl) (by kernel_rfl) (by kernel_rfl) (fun _ _ _ h => h) (by kernel_rfl) (fun W hW => by kernel_rfl) ?_
      refine AnyB.take 4 (.pointer (some ⟨g, o + k * 5, none⟩)) rfl (by kernel_rfl) (by kernel_rfl) (by kernel_rfl) (fun _ _ _ h => h) (by kernel_rfl) (fun W hW => y_index (sv := .slice (some ⟨g, o, none⟩) m d) (iv := .int .i64 (k : Int)) rfl (by kernel_rfl) (by kernel_rfl) (HI.out W)) ?_
      refine AnyB.take 5 (.pointer (some ⟨g, o + k * 5, none⟩)) rfl (by kernel_rfl) (by kernel_rfl) (by kernel_rfl) (fun _ _ _ h => h) (by kernel_rfl) (fun W hW => y_field (sv := .pointer (some ⟨g, o + k * 5, none⟩)) rfl (by kernel_rfl) (f_f0 W g (o + k * 5))) ?_
      refine AnyB.take 6 (.string ⟨nm.toArray⟩) rfl (by kernel_rfl) (by kernel_rfl) (by kernel_rfl) (fun _ _ _ h => h) (by kernel_rfl) (fun W hW => y_load (sv := .pointer (some ⟨g, o + k * 5, none⟩)) rfl (by kernel_rfl) (l_S W g (o + k * 5) nm (D0.out W (LD.out.trans (hW.mono LD.out.size))))) ?_
      refine AnyB.take 8 (.int .i64 (k : Int)) rfl (by kernel_rfl) (by kernel_rfl) (by kernel_rfl) (fun _ _ _ h => h) (by kernel_rfl) (fun W hW => by kernel_rfl) ?_
      refine AnyB.call 7 21 #[.agg #[.int .i64 z, .slice A n c, .slice (some ⟨g, o, none⟩) m d], .string ⟨nm.toArray⟩] (by kernel_rfl) rfl (by kernel_rfl) (by kernel_rfl) ?_
      refine ((HFd wr.drew LD.out).out).mono ?_
      rintro e w7 ⟨rfl, hb7⟩
      have L7 := Lib.hid (LD.out.trans (hb7.mono LD.out.size))
      refine ⟨_, rfl, hb7, ?_⟩
      refine AnyB.take 9 (.bool false) rfl (by kernel_rfl) (by kernel_rfl) (by kernel_rfl) (fun _ _ _ h => h) (by kernel_rfl) (fun W hW => y_bin (x := .int .i64 (k : Int)) (y := .int .i64 (k : Int)) rfl (by kernel_rfl) (by kernel_rfl) rfl (neqk W k)) ?_
      refine AnyB.take 10 (.bool false) rfl (by kernel_rfl) (by kernel_rfl) (by kernel_rfl) (fun _ _ _ h => h) (by kernel_rfl) (fun W hW => by kernel_rfl) ?_
      refine AnyB.take 11 (.int .i64 (k : Int)) rfl (by kernel_rfl) (by kernel_rfl) (by kernel_rfl) (fun _ _ _ h => h) (by kernel_rfl) (fun W hW => by kernel_rfl) ?_
      refine AnyB.take 12 (.bool false) rfl (by kernel_rfl) (by kernel_rfl) (by kernel_rfl) (fun _ _ _ h => h) (by kernel_rfl) (fun W hW => y_bin (x := .int .i64 (k : Int)) (y := .int .i64 0) rfl (by kernel_rfl) (by kernel_rfl) rfl (gtr0 W k _ hk0)) ?_
      refine AnyB.take 13 (.bool false) rfl (by kernel_rfl) (by kernel_rfl) (by kernel_rfl) (fun _ _ _ h => h) (by kernel_rfl) (fun W hW => by kernel_rfl) ?_
      refine AnyB.skip 14 rfl (by kernel_rfl) (by kernel_rfl) (by kernel_rfl) (fun _ _ _ h => h) (by kernel_rfl) ?_
      refine AnyB.skip 15 rfl (by kernel_rfl) (by kernel_rfl) (by kernel_rfl) (fun _ _ _ h => h) (by kernel_rfl) ?_
      refine AnyB.skip 16 rfl (by kernel_rfl) (by kernel_rfl) (by kernel_rfl) (fun _ _ _ h => h) (by kernel_rfl) ?_
      refine AnyB.skip 17 rfl (by kernel_rfl) (by kernel_rfl) (by kernel_rfl) (fun _ _ _ h => h) (by kernel_rfl) ?_
      refine AnyB.skip 18 rfl (by kernel_rfl) (by kernel_rfl) (by kernel_rfl) (fun _ _ _ h => h) (by kernel_rfl) ?_
      refine AnyB.skip 19 rfl (by kernel_rfl) (by kernel_rfl) (by kernel_rfl) (fun _ _ _ h => h) (by kernel_rfl) ?_
      refine AnyB.skip 20 rfl (by kernel_rfl) (by kernel_rfl) (by kernel_rfl) (fun _ _ _ h => h) (by kernel_rfl) ?_
      refine AnyB.skip 21 rfl (by kernel_rfl) (by kernel_rfl) (by kernel_rfl) (fun _ _ _ h => h) (by kernel_rfl) ?_
      refine AnyB.skip 22 rfl (by kernel_rfl) (by kernel_rfl) (by kernel_rfl) (fun _ _ _ h => h) (by kernel_rfl) ?_
      refine AnyB.skip 23 rfl (by kernel_rfl) (by kernel_rfl) (by kernel_rfl) (fun _ _ _ h => h) (by kernel_rfl) ?_
      refine AnyB.skip 24 rfl (by kernel_rfl) (by kernel_rfl) (by kernel_rfl) (fun _ _ _ h => h) (by kernel_rfl) ?_
      refine AnyB.skip 25 rfl (by kernel_rfl) (by kernel_rfl) (by kernel_rfl) (fun _ _ _ h => h) (by kernel_rfl) ?_
      refine AnyB.skip 26 rfl (by kernel_rfl) (by kernel_rfl) (by kernel_rfl) (fun _ _ _ h => h) (by kernel_rfl) ?_
      refine AnyB.skip 27 rfl (by kernel_rfl) (by kernel_rfl) (by kernel_rfl) (fun _ _ _ h => h) (by kernel_rfl) ?_
      refine AnyB.take 28 (.bool false) rfl (by kernel_rfl) (by kernel_rfl) (by kernel_rfl) (fun _ _ _ h => h) (by kernel_rfl) (fun W hW => by kernel_rfl) ?_
      refine AnyB.take 29 (.bool false) rfl (by kernel_rfl) (by kernel_rfl) (by kernel_rfl) (fun _ _ _ h => h) (by kernel_rfl) (fun W hW => by kernel_rfl) ?_
      refine AnyB.take 30 (.bool false) rfl (by kernel_rfl) (by kernel_rfl) (by kernel_rfl) (fun _ _ _ h => h) (by kernel_rfl) (fun W hW => by kernel_rfl) ?_
      refine AnyB.take 31 (.pointer (some ⟨w.heap.size, 2, none⟩)) rfl (by kernel_rfl) (by kernel_rfl) (by kernel_rfl) (fun _ _ _ h => h) (by kernel_rfl) (fun W hW => y_field (sv := .pointer (some ⟨w.heap.size, 0, none⟩)) rfl (by kernel_rfl) (f_r2 W _)) ?_
      refine AnyB.take 32 (.slice (some ⟨g, o, none⟩) m d) rfl (by kernel_rfl) (by kernel_rfl) (by kernel_rfl) (fun _ _ _ h => h) (by kernel_rfl) (fun W hW => y_load (sv := .pointer (some ⟨w.heap.size, 2, none⟩)) rfl (by kernel_rfl) (l_Fl W _ 2 _ _ _ (C2.out W (L7.out.trans (hW.mono L7.out.size))))) ?_
      refine AnyB.take 33 (.int .i64 (k : Int)) rfl (by kernel_rfl) (by kernel_rfl) (by kernel_rfl) (fun _ _ _ h => h) (by kernel_rfl) (fun W hW => by kernel_rfl) ?_
      refine AnyB.take 34 (.pointer (some ⟨g, o + k * 5, none⟩)) rfl (by kernel_rfl) (by kernel_rfl) (by kernel_rfl) (fun _ _ _ h => h) (by kernel_rfl) (fun W hW => y_index (sv := .slice (some ⟨g, o, none⟩) m d) (iv := .int .i64 (k : Int)) rfl (by kernel_rfl) (by kernel_rfl) (HI.out W)) ?_
      refine AnyB.take 35 (.pointer (some ⟨g, o + k * 5, none⟩)) rfl (by kernel_rfl) (by kernel_rfl) (by kernel_rfl) (fun _ _ _ h => h) (by kernel_rfl) (fun W hW => y_field (sv := .pointer (some ⟨g, o + k * 5, none⟩)) rfl (by kernel_rfl) (f_f0 W g (o + k * 5))) ?_
      refine AnyB.take 36 (.string ⟨nm.toArray⟩) rfl (by kernel_rfl) (by kernel_rfl) (by kernel_rfl) (fun _ _ _ h => h) (by kernel_rfl) (fun W hW => y_load (sv := .pointer (some ⟨g, o + k * 5, none⟩)) rfl (by kernel_rfl) (l_S W g (o + k * 5) nm (D0.out W (L7.out.trans (hW.mono L7.out.size))))) ?_
      refine AnyB.call 37 19 #[.string ⟨nm.toArray⟩] (by kernel_rfl) rfl (by kernel_rfl) (by kernel_rfl) ?_
      refine ((HNm w7).out).mono ?_
      rintro e w8 ⟨rfl, hw8⟩
      refine ⟨_, rfl, (by rw [← hw8]; exact Below.refl _ _), ?_⟩
      refine AnyB.take 38 (.bool false) rfl (by kernel_rfl) (by kernel_rfl) (by kernel_rfl) (fun _ _ _ h => h) (by kernel_rfl) (fun W hW => by kernel_rfl) ?_
      refine AnyB.take 39 (.bool false) rfl (by kernel_rfl) (by kernel_rfl) (by kernel_rfl) (fun _ _ _ h => h) (by kernel_rfl) (fun W hW => by kernel_rfl) ?_
      refine AnyB.done _ (by kernel_rfl) ?_
      go_simp
      have L8 : Hid (Below wa.heap.size wa w8) := Lib.hid (by rw [← hw8]; exact L7.out)
      have g2 := C2.out w8 L8.out
      have p0 := D0.out w8 L8.out
      clear hw8
      cases b with
      | true =>
        have HQ3 := Lib.hid (HQ2.out true (by rfl))
        clear HQ2
        go_wp2_with fail
        go_roundw
        case rel => exact ⟨L8, k + 1, true, hlt, by go_num, by simp, HQ3⟩
        case measure => simp [intOf]; omega
      | false =>
        cases hq : (nm == s) with
        | true =>
          have HQ3 := Lib.hid (HQ2.out true (by rw [hq]; rfl))
          clear HQ2
          go_wp2_with fail
          go_roundw
          case rel => exact ⟨L8, k + 1, true, hlt, by go_num, by simp, HQ3⟩
          case measure => simp [intOf]; omega
        | false =>
          have HQ3 := Lib.hid (HQ2.out false (by rw [hq]; rfl))
          clear HQ2
          go_wp2_with fail
          go_roundw
          case rel => exact ⟨L8, k + 1, false, hlt, by go_num, by simp, HQ3⟩
          case measure => simp [intOf]; omega
    · obtain ⟨j, rfl⟩ : ∃ j, k = j + 1 := ⟨k - 1, by omega⟩
      obtain ⟨xj, hlx', hxj⟩ := HLt.out j rfl
      have hlx : decide (xj < nm) = !false := decide_eq_true hlx'
      have DJ := Lib.hid hxj
      have hk0 : decide (0 < j + 1) = true := by simp
      have hj6 : j ≤ 1000000 := by omega
      have HIj := Lib.hid fun W => at_f W g o m d j (by omega)
      clear hk0' HLt hlx' hxj
      go_wp2_with fail
      refine AnyB.start (by kernel_rfl) ?_
      refine AnyB.take 0 (.agg #[.int .i64 z, .slice A n c, .slice (some ⟨g, o, none⟩) m d]) rfl (by kernel_rfl) (by kernel_rfl) (by kernel_rfl) (fun _ _ _ h => h) (by kernel_rfl) (fun W hW => y_load (sv := .pointer (some ⟨w.heap.size, 0, none⟩)) rfl (by kernel_rfl) (l_Rt3 W _ _ _ _ (C0.out W (LD.out.trans (hW.mono LD.out.size))) (C1.out W (LD.out.trans (hW.mono LD.out.size))) (C2.out W (LD.out.trans (hW.mono LD.out.size))))) ?_
      refine AnyB.take 1 (.pointer (some ⟨w.heap.size, 2, none⟩)) rfl (by kernel_rfl) (by kernel_rfl) (by kernel_rfl) (fun _ _ _ h => h) (by kernel_rfl) (fun W hW => y_field (sv := .pointer (some ⟨w.heap.size, 0, none⟩)) rfl (by kernel_rfl) (f_r2 W _)) ?_
      refine AnyB.take 2 (.slice (some ⟨g, o, none⟩) m d) rfl (by kernel_rfl) (by kernel_rfl) (by kernel_rfl) (fun _ _ _ h => h) (by kernel_rfl) (fun W hW => y_load (sv := .pointer (some ⟨w.heap.size, 2, none⟩)) rfl (by kernel_rfl) (l_Fl W _ 2 _ _ _ (C2.out W (LD.out.trans (hW.mono LD.out.size))))) ?_
      refine AnyB.take 3 (.int .i64 ((j + 1 : Nat) : Int)) rfl (by kernel_rfl) (by kernel_rfl) (by kernel_rfl) (fun _ _ _ h => h) (by kernel_rfl) (fun W hW => by kernel_rfl) ?_
      refine AnyB.take 4 (.pointer (some ⟨g, o + (j + 1) * 5, none⟩)) rfl (by kernel_rfl) (by kernel_rfl) (by kernel_rfl) (fun _ _ _ h => h) (by kernel_rfl) (fun W hW => y_index (sv := .slice (some ⟨g, o, none⟩) m d) (iv := .int .i64 ((j + 1 : Nat) : Int)) rfl (by kernel_rfl) (by kernel_rfl) (HI.out W)) ?_
      refine AnyB.take 5 (.pointer (some ⟨g, o + (j + 1) * 5, none⟩)) rfl (by kernel_rfl) (by kernel_rfl) (by kernel_rfl) (fun _ _ _ h => h) (by kernel_rfl) (fun W hW => y_field (sv := .pointer (some ⟨g, o + (j + 1) * 5, none⟩)) rfl (by kernel_rfl) (f_f0 W g (o + (j + 1) * 5))) ?_
      refine AnyB.take 6 (.string ⟨nm.toArray⟩) rfl (by kernel_rfl) (by kernel_rfl) (by kernel_rfl) (fun _ _ _ h => h) (by kernel_rfl) (fun W hW => y_load (sv := .pointer (some ⟨g, o + (j + 1) * 5, none⟩)) rfl (by kernel_rfl) (l_S W g (o + (j + 1) * 5) nm (D0.out W (LD.out.trans (hW.mono LD.out.size))))) ?_
      refine AnyB.take 8 (.int .i64 ((j + 1 : Nat) : Int)) rfl (by kernel_rfl) (by kernel_rfl) (by kernel_rfl) (fun _ _ _ h => h) (by kernel_rfl) (fun W hW => by kernel_rfl) ?_
      refine AnyB.call 7 21 #[.agg #[.int .i64 z, .slice A n c, .slice (some ⟨g, o, none⟩) m d], .string ⟨nm.toArray⟩] (by kernel_rfl) rfl (by kernel_rfl) (by kernel_rfl) ?_
      refine ((HFd wr.drew LD.out).out).mono ?_
      rintro e w7 ⟨rfl, hb7⟩
      have L7 := Lib.hid (LD.out.trans (hb7.mono LD.out.size))
      refine ⟨_, rfl, hb7, ?_⟩
      refine AnyB.take 9 (.bool false) rfl (by kernel_rfl) (by kernel_rfl) (by kernel_rfl) (fun _ _ _ h => h) (by kernel_rfl) (fun W hW => y_bin (x := .int .i64 ((j + 1 : Nat) : Int)) (y := .int .i64 ((j + 1 : Nat) : Int)) rfl (by kernel_rfl) (by kernel_rfl) rfl (neqk W (j + 1))) ?_
      refine AnyB.take 10 (.bool false) rfl (by kernel_rfl) (by kernel_rfl) (by kernel_rfl) (fun _ _ _ h => h) (by kernel_rfl) (fun W hW => by kernel_rfl) ?_
      refine AnyB.take 11 (.int .i64 ((j + 1 : Nat) : Int)) rfl (by kernel_rfl) (by kernel_rfl) (by kernel_rfl) (fun _ _ _ h => h) (by kernel_rfl) (fun W hW => by kernel_rfl) ?_
      refine AnyB.take 12 (.bool true) rfl (by kernel_rfl) (by kernel_rfl) (by kernel_rfl) (fun _ _ _ h => h) (by kernel_rfl) (fun W hW => y_bin (x := .int .i64 ((j + 1 : Nat) : Int)) (y := .int .i64 0) rfl (by kernel_rfl) (by kernel_rfl) rfl (gtr0 W (j + 1) _ hk0)) ?_
      refine AnyB.take 13 (.bool true) rfl (by kernel_rfl) (by kernel_rfl) (by kernel_rfl) (fun _ _ _ h => h) (by kernel_rfl) (fun W hW => by kernel_rfl) ?_
      refine AnyB.take 14 (.pointer (some ⟨w.heap.size, 2, none⟩)) rfl (by kernel_rfl) (by kernel_rfl) (by kernel_rfl) (fun _ _ _ h => h) (by kernel_rfl) (fun W hW => y_field (sv := .pointer (some ⟨w.heap.size, 0, none⟩)) rfl (by kernel_rfl) (f_r2 W _)) ?_
      refine AnyB.take 15 (.slice (some ⟨g, o, none⟩) m d) rfl (by kernel_rfl) (by kernel_rfl) (by kernel_rfl) (fun _ _ _ h => h) (by kernel_rfl) (fun W hW => y_load (sv := .pointer (some ⟨w.heap.size, 2, none⟩)) rfl (by kernel_rfl) (l_Fl W _ 2 _ _ _ (C2.out W (L7.out.trans (hW.mono L7.out.size))))) ?_
      refine AnyB.take 16 (.int .i64 ((j + 1 : Nat) : Int)) rfl (by kernel_rfl) (by kernel_rfl) (by kernel_rfl) (fun _ _ _ h => h) (by kernel_rfl) (fun W hW => by kernel_rfl) ?_
      refine AnyB.take 17 (.int .i64 (j : Int)) rfl (by kernel_rfl) (by kernel_rfl) (by kernel_rfl) (fun _ _ _ h => h) (by kernel_rfl) (fun W hW => y_bin (x := .int .i64 ((j + 1 : Nat) : Int)) (y := .int .i64 1) rfl (by kernel_rfl) (by kernel_rfl) rfl (sub_one W j hj6)) ?_
      refine AnyB.take 18 (.pointer (some ⟨g, o + j * 5, none⟩)) rfl (by kernel_rfl) (by kernel_rfl) (by kernel_rfl) (fun _ _ _ h => h) (by kernel_rfl) (fun W hW => y_index (sv := .slice (some ⟨g, o, none⟩) m d) (iv := .int .i64 (j : Int)) rfl (by kernel_rfl) (by kernel_rfl) (HIj.out W)) ?_
      refine AnyB.take 19 (.pointer (some ⟨g, o + j * 5, none⟩)) rfl (by kernel_rfl) (by kernel_rfl) (by kernel_rfl) (fun _ _ _ h => h) (by kernel_rfl) (fun W hW => y_field (sv := .pointer (some ⟨g, o + j * 5, none⟩)) rfl (by kernel_rfl) (f_f0 W g (o + j * 5))) ?_
      refine AnyB.take 20 (.string ⟨xj.toArray⟩) rfl (by kernel_rfl) (by kernel_rfl) (by kernel_rfl) (fun _ _ _ h => h) (by kernel_rfl) (fun W hW => y_load (sv := .pointer (some ⟨g, o + j * 5, none⟩)) rfl (by kernel_rfl) (l_S W g (o + j * 5) xj (DJ.out W (L7.out.trans (hW.mono L7.out.size))))) ?_
      refine AnyB.take 21 (.pointer (some ⟨w.heap.size, 2, none⟩)) rfl (by kernel_rfl) (by kernel_rfl) (by kernel_rfl) (fun _ _ _ h => h) (by kernel_rfl) (fun W hW => y_field (sv := .pointer (some ⟨w.heap.size, 0, none⟩)) rfl (by kernel_rfl) (f_r2 W _)) ?_
      refine AnyB.take 22 (.slice (some ⟨g, o, none⟩) m d) rfl (by kernel_rfl) (by kernel_rfl) (by kernel_rfl) (fun _ _ _ h => h) (by kernel_rfl) (fun W hW => y_load (sv := .pointer (some ⟨w.heap.size, 2, none⟩)) rfl (by kernel_rfl) (l_Fl W _ 2 _ _ _ (C2.out W (L7.out.trans (hW.mono L7.out.size))))) ?_
      refine AnyB.take 23 (.int .i64 ((j + 1 : Nat) : Int)) rfl (by kernel_rfl) (by kernel_rfl) (by kernel_rfl) (fun _ _ _ h => h) (by kernel_rfl) (fun W hW => by kernel_rfl) ?_
      refine AnyB.take 24 (.pointer (some ⟨g, o + (j + 1) * 5, none⟩)) rfl (by kernel_rfl) (by kernel_rfl) (by kernel_rfl) (fun _ _ _ h => h) (by kernel_rfl) (fun W hW => y_index (sv := .slice (some ⟨g, o, none⟩) m d) (iv := .int .i64 ((j + 1 : Nat) : Int)) rfl (by kernel_rfl) (by kernel_rfl) (HI.out W)) ?_
      refine AnyB.take 25 (.pointer (some ⟨g, o + (j + 1) * 5, none⟩)) rfl (by kernel_rfl) (by kernel_rfl) (by kernel_rfl) (fun _ _ _ h => h) (by kernel_rfl) (fun W hW => y_field (sv := .pointer (some ⟨g, o + (j + 1) * 5, none⟩)) rfl (by kernel_rfl) (f_f0 W g (o + (j + 1) * 5))) ?_
      refine AnyB.take 26 (.string ⟨nm.toArray⟩) rfl (by kernel_rfl) (by kernel_rfl) (by kernel_rfl) (fun _ _ _ h => h) (by kernel_rfl) (fun W hW => y_load (sv := .pointer (some ⟨g, o + (j + 1) * 5, none⟩)) rfl (by kernel_rfl) (l_S W g (o + (j + 1) * 5) nm (D0.out W (L7.out.trans (hW.mono L7.out.size))))) ?_
      refine AnyB.take 27 (.bool false) rfl (by kernel_rfl) (by kernel_rfl) (by kernel_rfl) (fun _ _ _ h => h) (by kernel_rfl) (fun W hW => y_bin (x := .string ⟨xj.toArray⟩) (y := .string ⟨nm.toArray⟩) rfl (by kernel_rfl) (by kernel_rfl) rfl (geS W xj nm false hlx)) ?_
      refine AnyB.take 28 (.bool false) rfl (by kernel_rfl) (by kernel_rfl) (by kernel_rfl) (fun _ _ _ h => h) (by kernel_rfl) (fun W hW => by kernel_rfl) ?_
      refine AnyB.take 29 (.bool false) rfl (by kernel_rfl) (by kernel_rfl) (by kernel_rfl) (fun _ _ _ h => h) (by kernel_rfl) (fun W hW => by kernel_rfl) ?_
      refine AnyB.take 30 (.bool false) rfl (by kernel_rfl) (by kernel_rfl) (by kernel_rfl) (fun _ _ _ h => h) (by kernel_rfl) (fun W hW => by kernel_rfl) ?_
      refine AnyB.take 31 (.pointer (some ⟨w.heap.size, 2, none⟩)) rfl (by kernel_rfl) (by kernel_rfl) (by kernel_rfl) (fun _ _ _ h => h) (by kernel_rfl) (fun W hW => y_field (sv := .pointer (some ⟨w.heap.size, 0, none⟩)) rfl (by kernel_rfl) (f_r2 W _)) ?_
      refine AnyB.take 32 (.slice (some ⟨g, o, none⟩) m d) rfl (by kernel_rfl) (by kernel_rfl) (by kernel_rfl) (fun _ _ _ h => h) (by kernel_rfl) (fun W hW => y_load (sv := .pointer (some ⟨w.heap.size, 2, none⟩)) rfl (by kernel_rfl) (l_Fl W _ 2 _ _ _ (C2.out W (L7.out.trans (hW.mono L7.out.size))))) ?_
      refine AnyB.take 33 (.int .i64 ((j + 1 : Nat) : Int)) rfl (by kernel_rfl) (by kernel_rfl) (by kernel_rfl) (fun _ _ _ h => h) (by kernel_rfl) (fun W hW => by kernel_rfl) ?_
      refine AnyB.take 34 (.pointer (some ⟨g, o + (j + 1) * 5, none⟩)) rfl (by kernel_rfl) (by kernel_rfl) (by kernel_rfl) (fun _ _ _ h => h) (by kernel_rfl) (fun W hW => y_index (sv := .slice (some ⟨g, o, none⟩) m d) (iv := .int .i64 ((j + 1 : Nat) : Int)) rfl (by kernel_rfl) (by kernel_rfl) (HI.out W)) ?_
      refine AnyB.take 35 (.pointer (some ⟨g, o + (j + 1) * 5, none⟩)) rfl (by kernel_rfl) (by kernel_rfl) (by kernel_rfl) (fun _ _ _ h => h) (by kernel_rfl) (fun W hW => y_field (sv := .pointer (some ⟨g, o + (j + 1) * 5, none⟩)) rfl (by kernel_rfl) (f_f0 W g (o + (j + 1) * 5))) ?_
      refine AnyB.take 36 (.string ⟨nm.toArray⟩) rfl (by kernel_rfl) (by kernel_rfl) (by kernel_rfl) (fun _ _ _ h => h) (by kernel_rfl) (fun W hW => y_load (sv := .pointer (some ⟨g, o + (j + 1) * 5, none⟩)) rfl (by kernel_rfl) (l_S W g (o + (j + 1) * 5) nm (D0.out W (L7.out.trans (hW.mono L7.out.size))))) ?_
      refine AnyB.call 37 19 #[.string ⟨nm.toArray⟩] (by kernel_rfl) rfl (by kernel_rfl) (by kernel_rfl) ?_
      refine ((HNm w7).out).mono ?_
      rintro e w8 ⟨rfl, hw8⟩
      refine ⟨_, rfl, (by rw [← hw8]; exact Below.refl _ _), ?_⟩
      refine AnyB.take 38 (.bool false) rfl (by kernel_rfl) (by kernel_rfl) (by kernel_rfl) (fun _ _ _ h => h) (by kernel_rfl) (fun W hW => by kernel_rfl) ?_
      refine AnyB.take 39 (.bool false) rfl (by kernel_rfl) (by kernel_rfl) (by kernel_rfl) (fun _ _ _ h => h) (by kernel_rfl) (fun W hW => by kernel_rfl) ?_
      refine AnyB.done _ (by kernel_rfl) ?_
      go_simp
      have L8 : Hid (Below wa.heap.size wa w8) := Lib.hid (by rw [← hw8]; exact L7.out)
      have g2 := C2.out w8 L8.out
      have p0 := D0.out w8 L8.out
      clear hw8
      cases b with
      | true =>
        have HQ3 := Lib.hid (HQ2.out true (by rfl))
        clear HQ2
        go_wp2_with fail
        go_roundw
        case rel => exact ⟨L8, (j + 1) + 1, true, hlt, by go_num, by simp, HQ3⟩
        case measure => simp [intOf]; omega
      | false =>
        cases hq : (nm == s) with
        | true =>
          have HQ3 := Lib.hid (HQ2.out true (by rw [hq]; rfl))
          clear HQ2
          go_wp2_with fail
          go_roundw
          case rel => exact ⟨L8, (j + 1) + 1, true, hlt, by go_num, by simp, HQ3⟩
          case measure => simp [intOf]; omega
        | false =>
          have HQ3 := Lib.hid (HQ2.out false (by rw [hq]; rfl))
          clear HQ2
          go_wp2_with fail
          go_roundw
          case rel => exact ⟨L8, (j + 1) + 1, false, hlt, by go_num, by simp, HQ3⟩
          case measure => simp [intOf]; omega
end Go.Proofs.YtnboagmibhllpaaGreatDoor.Ro
