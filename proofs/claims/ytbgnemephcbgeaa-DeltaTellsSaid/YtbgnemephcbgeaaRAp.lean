/-
  The document's Apply.
-/
import Derived.Test.YtbgnemephcbgeaaRMk
import Derived.Test.YtbgnemephcbgeaaRGet
import Derived.Test.YtbgnemephcbgeaaHe
namespace Go.Proofs.Ytbgnemephcbgeaa
open Go Go.RowKit

theorem cut_from_any {w : World} {b : Bs} {A : Option Addr} {N c : Nat} (h : Rb w (.slice A N c) b) (hN : N = b.length) (kd : IntKind) (k : Nat) (hk : k ≤ N) :
    ∃ A1 c1 N1, N1 = (b.drop k).length ∧ (∀ W, (Instr.sliceAt 29 (.slice A N c) (some (.int kd (k : Int))) none none).run Try.prog W = .ok (.slice A1 N1 c1) W) ∧ Rb w (.slice A1 N1 c1) (b.drop k) := by
  subst hN
  refine ⟨(if c = k then A else A.map (·.add (k * 1))), c - k, b.length - k, by rw [List.length_drop], fun W => ?_, h.from' k hk⟩
  have he : Try.prog.elem 29 = 5 := by kernel_rfl
  have hu : Try.prog.underlying 29 = some (.slice (Try.prog.elem 29)) := by rw [he]; exact Try.underlying29
  rw [run_sliceAt_slice W _ _ _ _ _ hu]
  refine (run_slice_l W _ _ _ _ hu kd (k : Int) (by omega) (by omega)).trans ?_
  rw [he, size_u8]
  simp only [Result.andThen, sliced, Int.toNat_natCast]
theorem cut_to_any {w : World} {b : Bs} {A : Option Addr} {N c : Nat} (h : Rb w (.slice A N c) b) (hN : N = b.length) (hc : N ≤ c) (kd : IntKind) (k : Nat) (hk : k ≤ N) :
    ∃ A1 c1 N1, (∀ W, (Instr.sliceAt 29 (.slice A N c) none (some (.int kd (k : Int))) none).run Try.prog W = .ok (.slice A1 N1 c1) W) ∧ Rb w (.slice A1 N1 c1) (b.take k) := by
  subst hN
  refine ⟨(if c = 0 then A else A.map (·.add (0 * 1))), c - 0, k - 0, fun W => ?_, by have := h.cut 0 k (by omega) hk; rwa [List.drop_zero] at this⟩
  have he : Try.prog.elem 29 = 5 := by kernel_rfl
  have hu : Try.prog.underlying 29 = some (.slice (Try.prog.elem 29)) := by rw [he]; exact Try.underlying29
  rw [run_sliceAt_slice W _ _ _ _ _ hu]
  refine (run_slice_h W _ _ _ _ hu kd (k : Int) (by omega) (by omega)).trans ?_
  rw [he, size_u8]
  simp only [Result.andThen, sliced, Int.toNat_natCast]
theorem wpList_apps {ops : Array Oper} {rest : List Oper} {o : Oper} {a : Act} {w : World} {Q : Exit → Act → World → Prop} (hgd : o.guard = none) (s x : Operand)
    (ho : o.op = .call { callee := .builtin .append, args := #[s, x], argTypes := #[29, 9] }) (base : Nat) (v : Value) (l m : List UInt8) (hs : a.eval s = v) (hx : a.eval x = .string ⟨m.toArray⟩)
    (h : Ow w base v l) (hl : l.length + m.length ≤ 140737488355328) (hb : base ≤ w.heap.size)
    (k : ∀ v' w', Ow w' base v' (l ++ m) → Below base w w' → wpList Try.prog ops Q rest (a.put o.dst v') w') : wpList Try.prog ops Q (o :: rest) a w := by
  refine wpList_plain hgd fun K hK => ?_
  obtain ⟨v', w', h1, h2, h3⟩ := run_apps' h m hl hb o.type
  unfold Oper.wp
  simp [execOp, ho, resolve, invoke, builtin, hs, hx, h1, Result.andThen]
  exact hK _ _ (k v' w' h2 (h3.1.below (fun k _ hk => (h.lt k hk).1) hb))

theorem wpList_val {ops : Array Oper} {rest : List Oper} {o : Oper} {a : Act} {w : World} {Q : Exit → Act → World → Prop} (v : Value) (hgd : o.guard = none) (he : (execOp a.eval o).run Try.prog w = .ok (.value v) w)
    (k : wpList Try.prog ops Q rest (a.put o.dst v) w) : wpList Try.prog ops Q (o :: rest) a w := by
  refine wpList_plain hgd fun K hK => ?_
  unfold Oper.wp
  rw [he]
  exact hK _ _ k

/-- What is answered of what is made so far. -/
def fin (tk : Nat) (o : Option Bs) : Option Bs := match o with | none => none | some t => if t.length = tk then some t else none
def Rest (base d : Bs) (tk : Nat) (out b : Bs) : Prop := applyL base d = fin tk ((stepsL base b).map (out ++ ·))
theorem Rest.bad {base d out b : Bs} {tk : Nat} (h : Rest base d tk out b) (hb : b ≠ []) (hs : stepL base b = none) : applyL base d = none := by
  rw [h, stepsL_none hb hs]; rfl
theorem Rest.long {base d out b : Bs} {tk : Nat} (h : Rest base d tk out b) (hl : tk < out.length) : applyL base d = none := by
  rw [h]
  cases stepsL base b with
  | none => rfl
  | some t => exact if_neg (by rw [List.length_append]; omega)
theorem Rest.step {base d out b p r : Bs} {tk : Nat} (h : Rest base d tk out b) (hs : stepL base b = some (p, r)) : Rest base d tk (out ++ p) r := by
  rw [Rest, h, stepsL_some hs, Option.map_map]
  congr 2; funext x; simp
theorem Rest.fin {base d out : Bs} {tk : Nat} (h : Rest base d tk out []) : applyL base d = if out.length = tk then some out else none := by
  rw [h, stepsL_nil]
  simp [Proofs.Ytbgnemephcbgeaa.fin]
def lenS : Value → Nat | .slice _ n _ => n | _ => 0

set_option maxHeartbeats 8000000 in
set_option maxRecDepth 100000 in
theorem RApply_any (base d : Bs) (hb : base.length ≤ 10000) (hd : d.length ≤ 10000) (w : World) :
    Calls Try.prog 11 #[SV base, SV d] w fun e w' => e = .returned (applyR base d) ∧ Below w.heap.size w w' := by
  unfold SV
  go_enter Try.func11, Try.ntmps11
  go_wp2_with (refine wpList_conv (o := ⟨some 20, _, _, _, _, _⟩) rfl _ rfl d rfl ?_)
  intro A0 c0 w1 hr1 hb1
  have HG1 := Lib.hid (RGet_any w1 _ d hr1)
  have HR1 := Lib.hid hr1; have HBe := Lib.hid hb1
  obtain ⟨N0, hN0⟩ : ∃ N0, N0 = d.length := ⟨_, rfl⟩
  rw [← hN0] at HG1 HR1 ⊢
  have HN0 := Lib.hid hN0
  clear hr1 hb1 hN0
  cases hg : getL d with
  | none =>
    rw [hg, gotV_none] at HG1
    have HZ : Hid (applyR base d = .tuple #[.string ⟨#[]⟩, .int .i64 3]) := Lib.hid (applyR_none (by rw [applyL_eq, headL, hg]))
    clear hg
    go_wp2_with fail
    refine HG1.out.mono ?_
    intro e w' hh
    rw [hh.1, ← hh.2]
    clear hh e w' HG1
    go_wp2
    go_ret2
    exact ⟨by rw [HZ.out]; rfl, HBe.out⟩
  | some y =>
    obtain ⟨n0, k0⟩ := y
    rw [hg, gotV_some] at HG1
    obtain ⟨hn0, hk1, hk0, _⟩ := getL_some hg
    rw [← HN0.out] at hk0
    by_cases hne : n0 = base.length
    · have d1 : ((n0 : Int) != (base.length : Int)) = false := by simp only [bne_eq_false_iff_eq]; omega
      obtain ⟨A1, c1, N1, hN1, hs1, hr1⟩ := cut_from_any HR1.out HN0.out .i64 k0 hk0
      have HG2 := Lib.hid (RGet_any w1 _ (d.drop k0) hr1)
      have HR2 := Lib.hid hr1; have HN1 := Lib.hid hN1
      have HE : Hid (headL base d = match getL (d.drop k0) with | none => none | some (len, j) => some (len, (d.drop k0).drop j)) := Lib.hid (by unfold headL; rw [hg]; simp only; rw [if_neg (fun h => h hne)]; cases getL (d.drop k0) <;> rfl)
      clear hg hr1 hN1 HR1 hne
      go_wp2_with fail
      refine HG1.out.mono ?_
      intro e w' hh
      rw [hh.1, ← hh.2]
      clear hh e w' HG1
      cases hg2 : getL (d.drop k0) with
      | none =>
        rw [hg2, gotV_none] at HG2
        have HZ : Hid (applyR base d = .tuple #[.string ⟨#[]⟩, .int .i64 3]) := Lib.hid (applyR_none (by rw [applyL_eq, HE.out, hg2]))
        clear hg2
        go_wp2_with fail
        refine HG2.out.mono ?_
        intro e w' hh
        rw [hh.1, ← hh.2]
        clear hh e w' HG2
        go_wp2
        go_ret2
        exact ⟨by rw [HZ.out]; rfl, HBe.out⟩
      | some y =>
        obtain ⟨tk, k2⟩ := y
        rw [hg2, gotV_some] at HG2
        obtain ⟨hto, _, hk2, _⟩ := getL_some hg2
        rw [← HN1.out] at hk2
        obtain ⟨A2, c2, N2, hN2, hs2, hr2⟩ := cut_from_any HR2.out HN1.out .i64 k2 hk2
        have HR : Hid (Rest base d tk [] ((d.drop k0).drop k2)) := Lib.hid (by
          rw [Rest, applyL_eq, HE.out, hg2]
          simp only
          cases stepsL base ((d.drop k0).drop k2) with
          | none => rfl
          | some t => simp [fin])
        have hl2 : ((d.drop k0).drop k2).length ≤ 10000 := by simp; omega
        obtain ⟨b0, hb0⟩ : ∃ b0, b0 = (d.drop k0).drop k2 := ⟨_, rfl⟩
        rw [← hb0] at HR hN2 hr2 hl2
        have HR3 := Lib.hid hr2; have HN2 := Lib.hid hN2
        have O0 := Lib.hid (Ow.nil w1 w1.heap.size)
        clear hg2 hr2 hN2 HR2 HE hb0 HN0 HN1 hd hn0 hk1
        go_wp2_with fail
        refine HG2.out.mono ?_
        intro e w' hh
        rw [hh.1, ← hh.2]
        clear hh e w' HG2
        go_wp2
        clear hs1 hs2 d1 hk0 hk2
        go_loopw [6, 11, 12, 13, 14, 15, 16, 17, 18] (fun v6 v11 _ _ _ _ _ _ _ wr => ∃ (A : Option Addr) (N c : Nat) (A3 : Option Addr) (K c3 : Nat) (b out : Bs), v6 = .slice A N c ∧ v11 = .slice A3 K c3 ∧ Hid (N = b.length) ∧ Hid (K = out.length) ∧ K ≤ tk ∧ N ≤ 10000 ∧ Hid (Rb w1 (.slice A N c) b) ∧ Hid (Ow wr w1.heap.size (.slice A3 K c3) out) ∧ Hid (Below w1.heap.size w1 wr) ∧ Hid (Rest base d tk out b)) (fun v6 _ _ _ _ _ _ _ _ _ => lenS v6)
        case atStart => exact ⟨_, _, _, none, 0, 0, b0, [], rfl, rfl, HN2, Lib.hid rfl, Nat.zero_le _, by rw [HN2.out]; exact hl2, HR3, O0, Lib.hid (Below.refl _ _), HR⟩
        case round =>
          clear O0 HR HR3 HN2 hl2
          obtain ⟨A, N, c, A3, K, c3, b, out, rfl, rfl, HN, HK, hKt, hN, HRb, HO, HB, HR⟩ := hrel
          have HB1 := Lib.hid HBe.out
          have HBe : Hid (Below w.heap.size w wr) := Lib.hid (HB1.out.trans (HB.out.mono HB1.out.size))
          have HRw : Hid (Rb wr (.slice A N c) b) := Lib.hid (HRb.out.below HB.out (Nat.le_refl _))
          by_cases hlt : 0 < N
          · obtain ⟨x, r, hbx⟩ : ∃ x r, b = x :: r := by
              cases b with
              | nil => have := HN.out; simp at this; omega
              | cons x r => exact ⟨x, r, rfl⟩
            subst hbx
            obtain ⟨g, o, hA, cx⟩ : ∃ g o, A = some ⟨g, o, none⟩ ∧ wr.cell? ⟨g, o, none⟩ = some (.int .u8 (x.toNat : Int)) := by
              rcases HRw.out with ⟨⟨A', e⟩, e2⟩ | ⟨g, o, c', e, _, _, hcell⟩
              · cases e2
              · cases e; exact ⟨g, o, rfl, by have := hcell 0 (by simp); simpa using this⟩
            subst hA
            obtain ⟨A1, c1, M, hM, hs1, hr1⟩ := cut_from_any HRb.out HN.out .i64 1 hlt
            rw [show (x :: r).drop 1 = r from rfl] at hM hr1
            have HM := Lib.hid hM; have HR1 := Lib.hid hr1
            have hs1 : ∀ W, (Instr.sliceAt 29 (.slice (some ⟨g, o, none⟩) N c) (some (.int .i64 1)) none none).run Try.prog W = .ok (.slice A1 M c1) W := hs1
            have hMN : M < N := by have := HN.out; rw [List.length_cons, ← hM] at this; omega
            obtain ⟨y, hy⟩ : ∃ y, y = x.toNat := ⟨_, rfl⟩
            have hxl := x.toNat_lt
            rw [← hy] at cx hxl
            have Hy := Lib.hid hy
            have hst : x ≠ 128 → stepL base (x :: r) = if x = 0 ∨ 127 < x.toNat ∨ r.length < x.toNat then none else some (r.take x.toNat, r.drop x.toNat) := fun h => by rw [stepL, if_neg h]
            have hz : x = 0 ↔ y = 0 := by rw [hy]; exact ⟨fun h => by rw [h]; rfl, fun h => UInt8.toNat_inj.1 h⟩
            have h28 : x = 128 ↔ y = 128 := by rw [hy]; exact ⟨fun h => by rw [h]; rfl, fun h => UInt8.toNat_inj.1 h⟩
            have Hst := Lib.hid hst; have Hz := Lib.hid hz; have H28 := Lib.hid h28
            clear hst hz h28 hy hM hr1 HRb HRw
            rcases Nat.lt_trichotomy y 128 with h128 | h128 | h128
            · have HS : Hid (stepL base (x :: r) = if y = 0 ∨ M < y then none else some (r.take y, r.drop y)) := Lib.hid (by
                rw [Hst.out (fun h => by have := H28.out.1 h; omega), ← Hy.out, ← HM.out]
                by_cases h0 : y = 0 ∨ M < y
                · rw [if_pos h0, if_pos (by have := Hz.out; rcases h0 with h0 | h0; exact .inl (this.2 h0); exact .inr (.inr h0))]
                · rw [if_neg h0, if_neg (by have := Hz.out; rintro (h | h | h); exact h0 (.inl (this.1 h)); omega; exact h0 (.inr h))])
              clear Hst Hz H28
              have e2 : ¬ (128 : Int) < (y : Int) := by omega
              have e3 : (y : Int) < 128 := by omega
              by_cases h0 : y = 0
              · have HZ : Hid (applyR base d = .tuple #[.string ⟨#[]⟩, .int .i64 3]) := Lib.hid (applyR_none (HR.out.bad (by simp) (HS.out.trans (if_pos (.inl h0)))))
                have e1 : ((y : Int) == 0) = true := by simp only [beq_iff_eq]; omega
                clear h0 h128 Hy HS HR HN HM HR1 HO HB HB1
                go_wp2
                go_ret2
                exact ⟨by rw [HZ.out]; rfl, HBe.out⟩
              · have e1 : ((y : Int) == 0) = false := by simp only [beq_eq_false_iff_ne, ne_eq]; omega
                by_cases hMy : M < y
                · have HZ : Hid (applyR base d = .tuple #[.string ⟨#[]⟩, .int .i64 3]) := Lib.hid (applyR_none (HR.out.bad (by simp) (HS.out.trans (if_pos (.inr hMy)))))
                  have e4 : (M : Int) < (y : Int) := by omega
                  clear h0 h128 Hy HS HR HN HM HR1 HO HB HB1
                  go_wp2
                  go_ret2
                  exact ⟨by rw [HZ.out]; rfl, HBe.out⟩
                · have e4 : ¬ (M : Int) < (y : Int) := by omega
                  have HT : Hid (Rest base d tk (out ++ r.take y) (r.drop y)) := Lib.hid (HR.out.step (HS.out.trans (if_neg (by omega))))
                  have hlen : (out ++ r.take y).length = K + y := by rw [List.length_append, ← HK.out, List.length_take, ← HM.out, Nat.min_eq_left (by omega)]
                  by_cases hKy : tk < K + y
                  · have HZ : Hid (applyR base d = .tuple #[.string ⟨#[]⟩, .int .i64 3]) := Lib.hid (applyR_none (HT.out.long (by rw [hlen]; exact hKy)))
                    have e5 : (tk : Int) < (K : Int) + (y : Int) := by omega
                    clear h0 h128 Hy HS HR HN HM HR1 HO HB HB1 HT hlen
                    go_wp2
                    go_ret2
                    exact ⟨by rw [HZ.out]; rfl, HBe.out⟩
                  · have e5 : ¬ (tk : Int) < (K : Int) + (y : Int) := by omega
                    obtain ⟨c', hc'⟩ : ∃ c', c' = c1 := ⟨_, rfl⟩
                    have hMc : M ≤ c1 := by
                      obtain ⟨A', c'', e, hcc⟩ := HR1.out.shape
                      cases e; rw [HM.out]; exact hcc
                    obtain ⟨A4, c4, N4, hs4, hr4⟩ := cut_to_any HR1.out HM.out hMc .u8 y (by omega)
                    obtain ⟨A5, c5, N5, hN5, hs5, hr5⟩ := cut_from_any HR1.out HM.out .u8 y (by omega)
                    have HR4 : Hid (Rb wr (.slice A4 N4 c4) (r.take y)) := Lib.hid (hr4.below HB.out (Nat.le_refl _))
                    have HR5 := Lib.hid hr5; have HN5 := Lib.hid hN5
                    have hN5' : N5 ≤ M := by rw [hN5, List.length_drop, ← HM.out]; omega
                    have Q4 : Hid (out.length + (r.take y).length ≤ 140737488355328) := Lib.hid (by rw [List.length_append] at hlen; omega)
                    have S4 : Hid (w1.heap.size ≤ wr.heap.size) := Lib.hid HB.out.size
                    have Hlen := Lib.hid hlen
                    clear h0 h128 Hy HS HR HN HR1 hr4 hr5 hN5 hlen hMc hc' HBe
                    go_upto_region 19 with fail
                    refine wp_region_lit ?_
                    refine wpList_val (.slice A3 K c3) rfl (by kernel_rfl) ?_
                    refine wpList_val (.slice A1 M c1) rfl (by kernel_rfl) ?_
                    refine wpList_val (.int .u8 (y : Int)) rfl (by kernel_rfl) ?_
                    refine wpList_val (.slice A4 N4 c4) rfl (y_slice (xv := .slice A1 M c1) (lv := none) (hv := some (.int .u8 (y : Int))) (mv := none) rfl (by kernel_rfl) (by kernel_rfl) (by kernel_rfl) (by kernel_rfl) (hs4 wr)) ?_
                    refine wpList_app (o := ⟨some 83, _, _, _, _, _⟩) rfl _ _ rfl w1.heap.size (.slice A3 K c3) (.slice A4 N4 c4) out (r.take y) (by kernel_rfl) (by kernel_rfl) HO.out HR4.out Q4.out S4.out ?_
                    intro v9 w9 o9 b9
                    have B9 : Hid (Below w1.heap.size w1 w9) := Lib.hid (HB.out.trans b9)
                    obtain ⟨A6, c6, rfl, _⟩ := o9.rb.shape
                    obtain ⟨K6, hK6⟩ : ∃ K6, K6 = (out ++ r.take y).length := ⟨_, rfl⟩
                    rw [← hK6] at o9 ⊢
                    have O9 := Lib.hid o9; have HK6 := Lib.hid hK6
                    have hK6t : K6 ≤ tk := by rw [hK6, Hlen.out]; omega
                    clear o9 b9 HO HR4 Q4 S4 hK6 Hlen HB HK
                    go_simp
                    go_wp2
                    go_roundw
                    case rel => exact ⟨A5, N5, c5, A6, K6, c6, r.drop y, out ++ r.take y, rfl, rfl, HN5, HK6, hK6t, by omega, HR5, O9, B9, HT⟩
                    case measure => simp [lenS]; omega
            · subst h128
              have hx : x = 128 := H28.out.2 rfl
              have HS : Hid (stepL base (x :: r) = copyL base r) := Lib.hid (by rw [hx, stepL_copy'])
              clear Hst Hz H28 hx Hy hxl
              have cx : wr.cell? ⟨g, o, none⟩ = some (.int .u8 128) := cx
              have HG3 := Lib.hid (RGet_any wr _ r (HR1.out.below HB.out (Nat.le_refl _)))
              cases hg3 : getL r with
              | none =>
                rw [hg3, gotV_none] at HG3
                have HZ : Hid (applyR base d = .tuple #[.string ⟨#[]⟩, .int .i64 3]) := Lib.hid (applyR_none (HR.out.bad (by simp) (HS.out.trans (by unfold copyL; rw [hg3]))))
                clear hg3 HS HR HN HM HR1 HO HB HB1
                go_wp2_with fail
                refine HG3.out.mono ?_
                intro e w' hh
                rw [hh.1, ← hh.2]
                clear hh e w' HG3
                go_wp2
                go_ret2
                exact ⟨by rw [HZ.out]; rfl, HBe.out⟩
              | some yy =>
                obtain ⟨f, k3⟩ := yy
                rw [hg3, gotV_some] at HG3
                obtain ⟨hf, _, hk3, _⟩ := getL_some hg3
                rw [← HM.out] at hk3
                obtain ⟨A4, c4, N4, hN4, hs4, hr4⟩ := cut_from_any HR1.out HM.out .i64 k3 hk3
                have HG4 := Lib.hid (RGet_any wr _ (r.drop k3) (hr4.below HB.out (Nat.le_refl _)))
                have HR4 := Lib.hid hr4; have HN4 := Lib.hid hN4
                have HS4 : Hid (stepL base (x :: r) = match getL (r.drop k3) with | none => none | some (n, j) => if n = 0 ∨ base.length < f + n then none else some ((base.drop f).take n, (r.drop k3).drop j)) := Lib.hid (HS.out.trans (by unfold copyL; rw [hg3]; show (match getL (r.drop k3) with | none => none | some (n, j) => if n = 0 ∨ base.length < f + n then none else some ((base.drop f).take n, (r.drop k3).drop j)) = _; rfl))
                have hN4' : N4 ≤ M := by rw [hN4, List.length_drop, ← HM.out]; omega
                clear hg3 hr4 hN4 HS
                go_wp2_with fail
                refine HG3.out.mono ?_
                intro e w' hh
                rw [hh.1, ← hh.2]
                clear hh e w' HG3
                cases hg4 : getL (r.drop k3) with
                | none =>
                  rw [hg4, gotV_none] at HG4
                  have HZ : Hid (applyR base d = .tuple #[.string ⟨#[]⟩, .int .i64 3]) := Lib.hid (applyR_none (HR.out.bad (by simp) (HS4.out.trans (by rw [hg4]))))
                  clear hg4 HS4 HR HN HM HR1 HO HB HB1
                  go_wp2_with fail
                  refine HG4.out.mono ?_
                  intro e w' hh
                  rw [hh.1, ← hh.2]
                  clear hh e w' HG4
                  go_wp2
                  go_ret2
                  exact ⟨by rw [HZ.out]; rfl, HBe.out⟩
                | some yy =>
                  obtain ⟨n, j⟩ := yy
                  rw [hg4, gotV_some] at HG4
                  obtain ⟨hn, _, hj, _⟩ := getL_some hg4
                  rw [← HN4.out] at hj
                  obtain ⟨A5, c5, N5, hN5, hs5, hr5⟩ := cut_from_any HR4.out HN4.out .i64 j hj
                  have HR5 := Lib.hid hr5; have HN5 := Lib.hid hN5
                  have hN5' : N5 ≤ N4 := by rw [hN5, List.length_drop, ← HN4.out]; omega
                  have HS5 : Hid (stepL base (x :: r) = if n = 0 ∨ base.length < f + n then none else some ((base.drop f).take n, (r.drop k3).drop j)) := Lib.hid (HS4.out.trans (by rw [hg4]))
                  clear hg4 hr5 hN5 HS4
                  go_wp2_with fail
                  refine HG4.out.mono ?_
                  intro e w' hh
                  rw [hh.1, ← hh.2]
                  clear hh e w' HG4
                  by_cases h0 : n = 0
                  · have HZ : Hid (applyR base d = .tuple #[.string ⟨#[]⟩, .int .i64 3]) := Lib.hid (applyR_none (HR.out.bad (by simp) (HS5.out.trans (if_pos (.inl h0)))))
                    have e1 : (n : Int) < 1 := by omega
                    clear h0 HS5 HR HN HM HR1 HO HB HB1
                    go_wp2
                    go_ret2
                    exact ⟨by rw [HZ.out]; rfl, HBe.out⟩
                  · have e1 : ¬ (n : Int) < 1 := by omega
                    by_cases h1 : base.length < f
                    · have HZ : Hid (applyR base d = .tuple #[.string ⟨#[]⟩, .int .i64 3]) := Lib.hid (applyR_none (HR.out.bad (by simp) (HS5.out.trans (if_pos (.inr (by omega))))))
                      have e2 : (base.length : Int) < (f : Int) := by omega
                      clear h0 h1 HS5 HR HN HM HR1 HO HB HB1
                      go_wp2
                      go_ret2
                      exact ⟨by rw [HZ.out]; rfl, HBe.out⟩
                    · have e2 : ¬ (base.length : Int) < (f : Int) := by omega
                      by_cases h2 : base.length < f + n
                      · have HZ : Hid (applyR base d = .tuple #[.string ⟨#[]⟩, .int .i64 3]) := Lib.hid (applyR_none (HR.out.bad (by simp) (HS5.out.trans (if_pos (.inr h2)))))
                        have e3 : (base.length : Int) - (f : Int) < (n : Int) := by omega
                        clear h0 h1 HS5 HR HN HM HR1 HO HB HB1
                        go_wp2
                        go_ret2
                        exact ⟨by rw [HZ.out]; rfl, HBe.out⟩
                      · have e3 : ¬ (base.length : Int) - (f : Int) < (n : Int) := by omega
                        obtain ⟨p, hp⟩ : ∃ p, p = (base.drop f).take n := ⟨_, rfl⟩
                        have hpl : p.length = n := by rw [hp, List.length_take, List.length_drop, Nat.min_eq_left (by omega)]
                        have HT : Hid (Rest base d tk (out ++ p) ((r.drop k3).drop j)) := Lib.hid (HR.out.step (HS5.out.trans ((if_neg (by omega)).trans (by rw [hp]))))
                        have hlen : (out ++ p).length = K + n := by rw [List.length_append, ← HK.out, hpl]
                        by_cases hKn : tk < K + n
                        · have HZ : Hid (applyR base d = .tuple #[.string ⟨#[]⟩, .int .i64 3]) := Lib.hid (applyR_none (HT.out.long (by rw [hlen]; exact hKn)))
                          have e4 : (tk : Int) - (K : Int) < (n : Int) := by omega
                          clear h0 h1 HS5 HR HN HM HR1 HO HB HB1 HT hlen hp hpl
                          go_wp2
                          go_ret2
                          exact ⟨by rw [HZ.out]; rfl, HBe.out⟩
                        · have e4 : ¬ (tk : Int) - (K : Int) < (n : Int) := by omega
                          have hX : (⟨base.toArray⟩ : ByteArray).extract f (f + n) = ⟨p.toArray⟩ := by rw [extract_S, hp]; congr 2; rw [List.drop_take]; congr 1; omega
                          have hs6 : ∀ W, (Instr.sliceAt 9 (.string ⟨base.toArray⟩) (some (.int .i64 (f : Int))) (some (.int .i64 ((f : Int) + (n : Int)))) none).run Try.prog W = .ok (.string ⟨p.toArray⟩) W := fun W => by
                            have := cut_two W base p f (f + n) (by omega) (by omega) hX
                            rwa [Int.natCast_add] at this
                          have Q4 : Hid (out.length + p.length ≤ 140737488355328) := Lib.hid (by rw [List.length_append] at hlen; omega)
                          have S4 : Hid (w1.heap.size ≤ wr.heap.size) := Lib.hid HB.out.size
                          have Hlen := Lib.hid hlen
                          clear h0 h1 HS5 HR HN HR1 HR4 hlen HBe hp hpl hX
                          go_upto_region 29 with fail
                          refine wp_region_lit ?_
                          refine wpList_val (.slice A3 K c3) rfl (by kernel_rfl) ?_
                          refine wpList_val (.string ⟨base.toArray⟩) rfl (by kernel_rfl) ?_
                          refine wpList_val (.int .i64 (f : Int)) rfl (by kernel_rfl) ?_
                          refine wpList_val (.int .i64 (f : Int)) rfl (by kernel_rfl) ?_
                          refine wpList_val (.int .i64 (n : Int)) rfl (by kernel_rfl) ?_
                          refine wpList_val (.int .i64 ((f : Int) + (n : Int))) rfl (y_bin (x := .int .i64 (f : Int)) (y := .int .i64 (n : Int)) rfl (by kernel_rfl) (by kernel_rfl) rfl (addn_i64 wr f n (by omega) (by omega))) ?_
                          refine wpList_val (.string ⟨p.toArray⟩) rfl (y_slice (xv := .string ⟨base.toArray⟩) (lv := some (.int .i64 (f : Int))) (hv := some (.int .i64 ((f : Int) + (n : Int)))) (mv := none) rfl (by kernel_rfl) (by kernel_rfl) (by kernel_rfl) (by kernel_rfl) (hs6 wr)) ?_
                          refine wpList_apps (o := ⟨some 142, _, _, _, _, _⟩) rfl _ _ rfl w1.heap.size (.slice A3 K c3) out p (by kernel_rfl) (by kernel_rfl) HO.out Q4.out S4.out ?_
                          intro v9 w9 o9 b9
                          have B9 : Hid (Below w1.heap.size w1 w9) := Lib.hid (HB.out.trans b9)
                          obtain ⟨A6, c6, rfl, _⟩ := o9.rb.shape
                          obtain ⟨K6, hK6⟩ : ∃ K6, K6 = (out ++ p).length := ⟨_, rfl⟩
                          rw [← hK6] at o9 ⊢
                          have O9 := Lib.hid o9; have HK6 := Lib.hid hK6
                          have hK6t : K6 ≤ tk := by rw [hK6, Hlen.out]; omega
                          clear o9 b9 HO Q4 S4 hK6 Hlen HB HK
                          go_simp
                          go_wp2
                          go_roundw
                          case rel => exact ⟨A5, N5, c5, A6, K6, c6, (r.drop k3).drop j, out ++ p, rfl, rfl, HN5, HK6, hK6t, by omega, HR5, O9, B9, HT⟩
                          case measure => simp [lenS]; omega
            · have HZ : Hid (applyR base d = .tuple #[.string ⟨#[]⟩, .int .i64 3]) := Lib.hid (applyR_none (HR.out.bad (by simp) (by
                rw [Hst.out (fun h => by have := H28.out.1 h; omega), if_pos (.inr (.inl (by rw [← Hy.out]; omega)))])))
              have e1 : ((y : Int) == 0) = false := by simp only [beq_eq_false_iff_ne, ne_eq]; omega
              have e2 : (128 : Int) < (y : Int) := by omega
              clear h128 Hy HR HN HM HR1 HO HB HB1 Hst Hz H28
              go_wp2
              go_ret2
              exact ⟨by rw [HZ.out]; rfl, HBe.out⟩
          · have hb0 : b = [] := List.length_eq_zero_iff.1 (by have := HN.out; omega)
            have HF := HR.out
            rw [hb0] at HF
            have hF := HF.fin
            have hN0 : N = 0 := by omega
            by_cases hK : K = tk
            · have HZ : Hid (applyR base d = .tuple #[.string ⟨out.toArray⟩, .int .i64 0]) := Lib.hid (applyR_some (hF.trans (if_pos (by rw [← HK.out]; exact hK))))
              have e1 : ((K : Int) != (tk : Int)) = false := by simp only [bne_eq_false_iff_eq]; omega
              have cv := HO.out.rb.conv
              clear hF HF hb0 HR HN HRb HRw HO HB HB1 hN0 hK
              go_wp2
              go_ret2
              exact ⟨by rw [HZ.out]; rfl, HBe.out⟩
            · have HZ : Hid (applyR base d = .tuple #[.string ⟨#[]⟩, .int .i64 3]) := Lib.hid (applyR_none (hF.trans (if_neg (by rw [← HK.out]; exact hK))))
              have e1 : ((K : Int) != (tk : Int)) = true := by simp only [bne_iff_ne, ne_eq]; omega
              clear hF HF hb0 HR HN HRb HRw HO HB HB1 hN0 hK
              go_wp2
              go_ret2
              exact ⟨by rw [HZ.out]; rfl, HBe.out⟩
    · have HZ : Hid (applyR base d = .tuple #[.string ⟨#[]⟩, .int .i64 3]) := Lib.hid (applyR_none (by rw [applyL_eq, headL, hg]; simp only; rw [if_pos hne]))
      have d1 : ((n0 : Int) != (base.length : Int)) = true := by simp only [bne_iff_ne, ne_eq]; omega
      clear hg hne
      go_wp2_with fail
      refine HG1.out.mono ?_
      intro e w' hh
      rw [hh.1, ← hh.2]
      clear hh e w' HG1
      go_wp2
      go_ret2
      exact ⟨by rw [HZ.out]; rfl, HBe.out⟩
end Go.Proofs.Ytbgnemephcbgeaa
