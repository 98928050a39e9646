/-
  parts: what each step makes.
-/
import Derived.Test.YtbgnemephcbgeaaNx
namespace Go.Proofs.Ytbgnemephcbgeaa
open Go Go.RowKit Go.Shelf
attribute [local go_sem] Oper.semAt_some

theorem Rb.but {w w' : World} {v : Value} {l : Bs} {S : Nat → Prop} (h : Rb w v l) (hb : But S w w') (hn : ∀ g, v.ownBlock = some g → ¬ S g) : Rb w' v l := by
  rcases h with h | ⟨g, o, c, rfl, hc, hg, hcell⟩
  · exact .inl h
  · exact .inr ⟨g, o, c, rfl, hc, Nat.lt_of_lt_of_le hg hb.size, fun j hj => by rw [hb.cell (p := ⟨g, o + j, none⟩) hg (hn g rfl)]; exact hcell j hj⟩

theorem Rb.own_lt {w : World} {v : Value} {l : Bs} (h : Rb w v l) (hl : l ≠ []) : ∀ g, v.ownBlock = some g → g < w.heap.size := by
  intro g hg
  rcases h with ⟨_, h⟩ | ⟨g', o, c, rfl, _, h, _⟩
  · exact absurd h hl
  · cases hg; exact h

/-- What is left is some bytes, or nothing behind what is wrong. -/
def PStep (base : Bs) (s : Option Bs) (vs : Array Value) (s' : Option Bs) (W : World) : Prop :=
  ∃ b, s = some b ∧ ((∃ p r, stepL base b = some (p, r) ∧ vs = #[.string ⟨p.toArray⟩, .nilIface] ∧ s' = some r) ∨ (∃ ev, stepL base b = none ∧ b ≠ [] ∧ vs = #[.string ⟨#[]⟩, ev] ∧ FaultIn W ev 3 ∧ s' = none))
def PEnd (s : Option Bs) : Prop := s = some [] ∨ s = none

theorem parts_any (base : Bs) (A : Option Addr) (n c : Nat) (w : World) :
    Calls Try.prog 29 #[.string ⟨base.toArray⟩, .slice A n c] w fun e w' => e = .returned (.func (.func 43) #[] #[.pointer (some ⟨w.heap.size + 1, 0, none⟩), .pointer (some ⟨w.heap.size, 0, none⟩)]) ∧
      (w.alloc (.cells #[.string ⟨base.toArray⟩] 9)).alloc (.cells #[.slice A n c] 29) = w' := by
  go_enter Try.func29, Try.ntmps29
  go_wp2
  go_ret
  exact ⟨rfl, rfl⟩

def lenV : Value → Nat | .slice _ n _ => n | _ => 0
set_option maxHeartbeats 8000000 in
set_option maxRecDepth 100000 in
theorem parts_iter {base b0 : Bs} {w : World} {C0 : Nat → Prop} {bb sb N0 c0 : Nat} {A0 : Option Addr} (hb : base.length ≤ 100000000) (hl : b0.length ≤ 100000000) (hbb : w.cell? ⟨bb, 0, none⟩ = some (.string ⟨base.toArray⟩)) (hsb : w.cell? ⟨sb, 0, none⟩ = some (.slice A0 N0 c0))
    (hr : Rb w (.slice A0 N0 c0) b0) (hN : N0 = b0.length) (lb : bb < w.heap.size) (nb : ¬ C0 bb) (hG : b0 ≠ [] → ∀ g, (Value.slice A0 N0 c0).ownBlock = some g → g < w.heap.size ∧ ¬ C0 g) :
    Iter (PStep base) PEnd (some b0) 43 #[.pointer (some ⟨sb, 0, none⟩), .pointer (some ⟨bb, 0, none⟩)] w C0 := by
  intro l W C1 J Jx hrd hbW hC1 hJ
  show Calls Try.prog 43 #[.func (.yield l) #[] #[], .pointer (some ⟨sb, 0, none⟩), .pointer (some ⟨bb, 0, none⟩)] W _
  have c1 : W.cell? ⟨bb, 0, none⟩ = some (.string ⟨base.toArray⟩) := cell_to hbb hbW
  have c2 : W.cell? ⟨sb, 0, none⟩ = some (.slice A0 N0 c0) := cell_to hsb hbW
  have lbW : bb < W.heap.size := by have := hbW.size; omega
  have nb1 : ¬ C1 bb := fun h => (hC1 _ h).elim nb (fun h => by omega)
  have hG1 : b0 ≠ [] → ∀ g, (Value.slice A0 N0 c0).ownBlock = some g → g < W.heap.size ∧ ¬ C1 g := fun h0 g hg => ⟨by have := (hG h0 g hg).1; have := hbW.size; omega, fun h => (hC1 _ h).elim (hG h0 g hg).2 (fun h => by have := (hG h0 g hg).1; omega)⟩
  have hr1 : Rb W (.slice A0 N0 c0) b0 := hr.below hbW (Nat.le_refl _)
  have HRd := Lib.hid hrd; have HL := Lib.hid (And.intro lbW nb1); have HC := Lib.hid c1; have HG := Lib.hid hG1; have HBt := Lib.hid hb; have HLl := Lib.hid hl; have HJ := Lib.hid hJ
  have H0 : Hid (J (some b0) C1 W ∧ Rb W (.slice A0 N0 c0) b0 ∧ OwnB (.slice A0 N0 c0) (.slice A0 N0 c0) ∧ (∀ k, C1 k → C1 k ∨ W.heap.size ≤ k) ∧ But (fun k => C1 k ∨ W.heap.size ≤ k) W W ∧ b0.length ≤ b0.length) := Lib.hid ⟨hJ, hr1, fun g h => h, fun _ h => .inl h, But.refl _ _, Nat.le_refl _⟩
  have HN := Lib.hid hN
  clear hrd hJ lbW nb1 hG1 hbW hC1 hbb hsb lb nb hG hr hr1 c1 hb hl hN
  go_enter Try.func43, Try.ntmps43
  go_wp2
  clear c2
  go_loopw [4, 5, 6, 7] (fun v4 _ _ _ wr => ∃ (A : Option Addr) (N c : Nat), v4 = .slice A N c ∧ ((N = 0 ∧ ∃ s C, Hid (PEnd s ∧ J s C wr)) ∨ (∃ (b : Bs) (C : Nat → Prop), Hid (N = b.length) ∧ Hid (J (some b) C wr ∧ Rb wr (.slice A N c) b ∧ OwnB (.slice A N c) (.slice A0 N0 c0) ∧ (∀ k, C k → C1 k ∨ W.heap.size ≤ k) ∧ But (fun k => C1 k ∨ W.heap.size ≤ k) W wr ∧ b.length ≤ b0.length)))) (fun v4 _ _ _ _ => lenV v4)
  case atStart => exact ⟨A0, N0, c0, rfl, .inr ⟨b0, C1, HN, H0⟩⟩
  case round =>
    clear H0
    obtain ⟨A, N, c, rfl, ⟨rfl, s, C, HE⟩ | ⟨b, C, HNb, HI⟩⟩ := hrel
    · go_wp2_with fail
      go_end0
      exact ⟨⟨_, rfl⟩, .inl ⟨s, C, HE.out⟩⟩
    · obtain ⟨hj, hrb, how, hcn, hbw, hle⟩ := HI.out
      by_cases hb0 : b = []
      · have HE : Hid (PEnd (some b) ∧ J (some b) C wr) := Lib.hid ⟨.inl (by rw [hb0]), hj⟩
        obtain rfl : N = 0 := by rw [HNb.out, hb0]; rfl
        clear hj hrb how hcn hbw hle hb0
        go_wp2_with fail
        go_end0
        exact ⟨⟨_, rfl⟩, .inl ⟨_, C, HE.out⟩⟩
      · have hN0 : 0 < N := by rw [HNb.out]; exact List.length_pos_iff.2 hb0
        have c1 : wr.cell? ⟨bb, 0, none⟩ = some (.string ⟨base.toArray⟩) := (hbw.cell (p := ⟨bb, 0, none⟩) HL.out.1 (fun h => h.elim HL.out.2 (fun (h : W.heap.size ≤ bb) => by have := HL.out.1; omega))).trans HC.out
        have HX := Lib.hid (next_any (base := base) hrb hb0 (by have := HLl.out; omega) HBt.out)
        have Hb0 := Lib.hid hb0
        clear hj hrb how hcn hbw hle hb0
        go_wp2_with fail
        refine HX.out.mono ?_
        clear HX c1
        rintro e w2 ⟨b2, ⟨hst, ev, rfl, hf⟩ | ⟨p, r, A2, N2, c2, hst, hN2, rfl, hr2, ho2⟩⟩
        · obtain ⟨hj, hrb, how, hcn, hbw, hle⟩ := HI.out
          have hj2 : J (some b) C w2 := HRd.out.st _ _ _ _ hj (But.of_new b2)
          have hyd := HRd.out.rd (some b) C #[.string ⟨#[]⟩, ev] none w2 hj2 ⟨b, rfl, .inr ⟨ev, hst, Hb0.out, rfl, hf, rfl⟩⟩
          obtain ⟨fn, tmps, assign, body, hy, hR⟩ := hyd
          have HHy := Lib.hid hy; have HHR := Lib.hid hR
          clear hj hrb how hcn hbw hle hj2 hy hR b2 hst hf
          go_upto_region 3 with fail
          have hy := HHy.out
          refine (wpIn_wide (n := 6)).1 ?_
          gi_wp2
          refine HHR.out.mono ?_
          clear hy
          rintro e W3 (⟨rfl, C', hJ3, hb3, hC3⟩ | ⟨rfl, hx3⟩)
          · have HE : Hid (PEnd none ∧ J none C' W3) := Lib.hid ⟨.inr rfl, hJ3⟩
            clear hJ3 hb3 hC3
            gi_wp2
            go_wp2_with fail
            go_roundw
            case rel => exact ⟨none, 0, 0, rfl, .inl ⟨rfl, none, C', HE⟩⟩
            case measure => show 0 < N; exact hN0
          · gi_wp2
            go_wp2_with fail
            refine bodyPost_ret (results_none rfl _ _ _) rfl ?_
            exact ⟨⟨_, rfl⟩, .inr hx3⟩
        · obtain ⟨hj, hrb, how, hcn, hbw, hle⟩ := HI.out
          have hlt := stepL_less hst
          have hj2 : J (some b) C w2 := HRd.out.st _ _ _ _ hj (But.of_new b2)
          have hyd := HRd.out.rd (some b) C #[.string ⟨p.toArray⟩, .nilIface] (some r) w2 hj2 ⟨b, rfl, .inl ⟨p, r, hst, rfl, rfl⟩⟩
          obtain ⟨fn, tmps, assign, body, hy, hR⟩ := hyd
          have HHy := Lib.hid hy; have HHR := Lib.hid hR; have HB2 := Lib.hid b2; have HR2 := Lib.hid (And.intro hr2 ho2); have HN2 := Lib.hid hN2
          have hNlt : N2 < N := by rw [hN2, HNb.out]; exact hlt
          have Hlt := Lib.hid hlt
          clear hj hrb how hcn hbw hle hj2 hy hR b2 hst hr2 ho2 hN2 hlt
          go_upto_region 3 with fail
          have hy := HHy.out
          refine (wpIn_wide (n := 6)).1 ?_
          gi_wp2
          refine HHR.out.mono ?_
          clear hy
          rintro e W3 (⟨rfl, C', hJ3, hb3, hC3⟩ | ⟨rfl, hx3⟩)
          · have HI3 : Hid (J (some r) C' W3 ∧ Rb W3 (.slice A2 N2 c2) r ∧ OwnB (.slice A2 N2 c2) (.slice A0 N0 c0) ∧ (∀ k, C' k → C1 k ∨ W.heap.size ≤ k) ∧ But (fun k => C1 k ∨ W.heap.size ≤ k) W W3 ∧ r.length ≤ b0.length) := Lib.hid (by
              obtain ⟨hj, hrb, how, hcn, hbw, hle⟩ := HI.out
              have ho3 := HR2.out.2.trans how
              have hw2 : But (fun k => C1 k ∨ W.heap.size ≤ k) W w2 := hbw.trans (But.of_new HB2.out)
              refine ⟨hJ3, HR2.out.1.but hb3 (fun g hg hc => ?_), ho3, fun i hi => (hC3 i hi).elim (hcn i) (fun h => .inr (by have := hw2.size; omega)), hw2.trans (hb3.mono fun i _ hi => hcn i hi), by have := Hlt.out; omega⟩
              have h1 := HG.out (fun h => by rw [h] at hle; exact Hb0.out (List.length_eq_zero_iff.1 (by simpa using hle))) g (ho3 g hg)
              exact (hcn g hc).elim h1.2 (fun h => by have := h1.1; omega))
            clear hJ3 hb3 hC3 HI
            gi_wp2
            go_wp2_with fail
            go_roundw
            case rel => exact ⟨A2, N2, c2, rfl, .inr ⟨r, C', HN2, HI3⟩⟩
            case measure => show N2 < N; exact hNlt
          · gi_wp2
            go_wp2_with fail
            refine bodyPost_ret (results_none rfl _ _ _) rfl ?_
            exact ⟨⟨_, rfl⟩, .inr hx3⟩
end Go.Proofs.Ytbgnemephcbgeaa
