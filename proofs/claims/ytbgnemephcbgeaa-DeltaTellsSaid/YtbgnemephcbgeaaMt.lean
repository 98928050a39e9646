/-
  matches: what is copied of a base, from the front.
-/
import Derived.Test.YtbgnemephcbgeaaRg
namespace Go.Proofs.Ytbgnemephcbgeaa
open Go Go.RowKit Go.Shelf
attribute [local go_sem] Oper.semAt_some

/-- No copy begins from d on ahead of k. -/
def Skip (base text : Bs) (d k : Nat) : Prop := d ≤ k ∧ k ≤ text.length ∧ ∀ i, d ≤ i → i < k → (lng base (text.drop i)).2 < 5
theorem Skip.self {base text : Bs} {d : Nat} (h : d ≤ text.length) : Skip base text d d := ⟨Nat.le_refl _, h, fun i h1 h2 => by omega⟩
theorem Skip.more {base text : Bs} {d k : Nat} (h : Skip base text d k) (hk : k < text.length) (hl : (lng base (text.drop k)).2 < 5) : Skip base text d (k + 1) :=
  ⟨by have := h.1; omega, hk, fun i h1 h2 => by
    rcases Nat.lt_or_ge i k with h3 | h3
    · exact h.2.2 i h1 h3
    · obtain rfl : i = k := by omega
      exact hl⟩
/-- What is put off. -/
theorem Skip.mkS {base text : Bs} {d k : Nat} (h : Skip base text d k) : mkS base [] (text.drop d) = mkS base ((text.take k).drop d) (text.drop k) := by
  obtain ⟨j, hj⟩ : ∃ j, k = d + j := ⟨k - d, by have := h.1; omega⟩
  subst hj
  induction j with
  | zero => simp
  | succ j ih =>
    obtain ⟨h1, h2, h3⟩ := h
    rw [ih ⟨by omega, by omega, fun i a b => h3 i a (by omega)⟩]
    have hne : text.drop (d + j) ≠ [] := by
      intro e
      have := congrArg List.length e
      rw [List.length_drop, List.length_nil] at this; omega
    rw [mkS_lo hne (h3 _ (by omega) (by omega)), List.drop_drop]
    have hdj : d + j < text.length := by omega
    have e1 : text.take (d + (j + 1)) = text.take (d + j) ++ [text[d + j]] := List.take_succ_eq_append_getElem hdj
    have e2 : (text.drop (d + j)).take 1 = [text[d + j]] := by rw [List.take_one, List.head?_drop, List.getElem?_eq_getElem hdj]; rfl
    rw [e1, e2, List.drop_append_of_le_length (by rw [List.length_take]; omega)]
    rfl
def MStep (base text : Bs) (d : Nat) (vs : Array Value) (d' : Nat) (_ : World) : Prop :=
  ∃ k, Skip base text d k ∧ 5 ≤ (lng base (text.drop k)).2 ∧ vs = #[.agg #[.int .i64 (k : Int), .int .i64 ((lng base (text.drop k)).1 : Int), .int .i64 ((lng base (text.drop k)).2 : Int)]] ∧ d' = k + (lng base (text.drop k)).2
def MEnd (base text : Bs) (d : Nat) : Prop := ∃ k, Skip base text d k ∧ text.length < k + 5

/-- The graph, told by where it lies. -/
def GrN (w : World) (B N gb : Nat) (base : Bs) : Prop := ∃ sb K eb Ke C A own, GrM w B gb sb K eb Ke C ∧ Rep C A own ∧ Good base A ∧ gb < N ∧ sb < N ∧ eb < N
theorem GrB.n {w : World} {B gb : Nat} {base : Bs} (h : GrB w B gb base) : GrN w B w.heap.size gb base := by
  obtain ⟨sb, K, eb, Ke, C, A, own, h1, h2, h3⟩ := h
  exact ⟨sb, K, eb, Ke, C, A, own, h1, h2, h3, h1.lt⟩
theorem GrN.but {w w' : World} {B N gb : Nat} {base : Bs} {S : Nat → Prop} (h : GrN w B N gb base) (hb : But S w w') (hn : ∀ k, B ≤ k → k < N → ¬ S k) : GrN w' B N gb base := by
  obtain ⟨sb, K, eb, Ke, C, A, own, h1, h2, h3, l1, l2, l3⟩ := h
  obtain ⟨k1, k2, k3⟩ := h1.lt
  exact ⟨sb, K, eb, Ke, C, A, own, ⟨(hb.block gb k1 (hn _ h1.hB l1)).trans h1.g, h1.st.other (hb.block sb k2 (hn _ h1.bs l2)), h1.ed.other (hb.block eb k3 (hn _ h1.be l3)), h1.n1, h1.n2, h1.n3, h1.hB, h1.bs, h1.be⟩, h2, h3, l1, l2, l3⟩

theorem matches_any (base text : Bs) (w : World) :
    Calls Try.prog 20 #[SV base, SV text] w fun e w' => e = .returned (.func (.func 36) #[] #[.pointer (some ⟨w.heap.size, 0, none⟩), .pointer (some ⟨w.heap.size + 1, 0, none⟩)]) ∧
      (w.alloc (.cells #[SV base] 9)).alloc (.cells #[SV text] 9) = w' := by
  unfold SV
  go_enter Try.func20, Try.ntmps20
  go_wp2
  go_ret
  exact ⟨rfl, rfl⟩

set_option maxHeartbeats 8000000 in
set_option maxRecDepth 100000 in
theorem matches_iter {base text : Bs} {w : World} {C0 : Nat → Prop} {bb tb : Nat} (hb : base.length ≤ 1000000) (ht : text.length ≤ 1000000) (hbb : w.cell? ⟨bb, 0, none⟩ = some (SV base)) (htb : w.cell? ⟨tb, 0, none⟩ = some (SV text))
    (lb : bb < w.heap.size) (lt : tb < w.heap.size) (nb : ¬ C0 bb) (nt : ¬ C0 tb) :
    Iter (MStep base text) (MEnd base text) 0 36 #[.pointer (some ⟨bb, 0, none⟩), .pointer (some ⟨tb, 0, none⟩)] w C0 := by
  intro l W C1 J Jx hrd hbW hC1 hJ
  show Calls Try.prog 36 #[.func (.yield l) #[] #[], .pointer (some ⟨bb, 0, none⟩), .pointer (some ⟨tb, 0, none⟩)] W _
  have c1 : W.cell? ⟨bb, 0, none⟩ = some (SV base) := cell_to hbb hbW
  have c2 : W.cell? ⟨tb, 0, none⟩ = some (SV text) := cell_to htb hbW
  have lbW : bb < W.heap.size := by have := hbW.size; omega
  have ltW : tb < W.heap.size := by have := hbW.size; omega
  have nb1 : ¬ C1 bb := fun h => (hC1 _ h).elim nb (fun h => by omega)
  have nt1 : ¬ C1 tb := fun h => (hC1 _ h).elim nt (fun h => by omega)
  have hG := graphOf_any W base hb
  have HRd := Lib.hid hrd; have HJ := Lib.hid hJ; have HC := Lib.hid (And.intro nb1 nt1); have HL := Lib.hid (And.intro lbW ltW)
  have HG := Lib.hid hG; have HCc := Lib.hid (And.intro c1 c2); have HBt := Lib.hid hb
  clear hrd hJ nb1 nt1 lbW ltW hG hbW hC1 hbb htb lb lt nb nt hb c2
  unfold SV at c1 HG
  go_enter Try.func36, Try.ntmps36
  go_wp2_with fail
  refine HG.out.mono ?_
  rintro e w1 ⟨gb, rfl, hg1, hb1⟩
  obtain ⟨N, hN⟩ : ∃ N, N = w1.heap.size := ⟨_, rfl⟩
  have HNW : Hid (W.heap.size ≤ N) := Lib.hid (by rw [hN]; exact hb1.size)
  have hg2 := hg1.n
  rw [← hN] at hg2
  have HI : Hid (J 0 C1 w1 ∧ GrN w1 W.heap.size N gb base ∧ (∀ k, C1 k → C1 k ∨ N ≤ k) ∧ But (fun k => C1 k ∨ W.heap.size ≤ k) W w1 ∧ N ≤ w1.heap.size) := Lib.hid ⟨HRd.out.st _ _ _ _ HJ.out (But.of_new hb1), hg2, fun _ h => .inl h, But.of_new hb1, by omega⟩
  clear hg1 hg2 hb1 hN HG c1
  go_wp2_with fail
  go_loopw [5, 6, 7] (fun v5 _ _ wr => ∃ (d k : Nat) (C : Nat → Prop), v5 = .int .i64 (k : Int) ∧ Hid (Skip base text d k) ∧ Hid (J d C wr ∧ GrN wr W.heap.size N gb base ∧ (∀ k, C k → C1 k ∨ N ≤ k) ∧ But (fun k => C1 k ∨ W.heap.size ≤ k) W wr ∧ N ≤ wr.heap.size)) (fun v5 _ _ _ => text.length + 1 - (intOf v5).toNat)
  case atStart => exact ⟨0, 0, C1, rfl, Lib.hid (Skip.self (Nat.zero_le _)), HI⟩
  case round =>
    clear HI
    obtain ⟨d, k, C, rfl, HSk, HI⟩ := hrel
    obtain ⟨hj, hgn, hcn, hbw, hnw⟩ := HI.out
    have c2 : wr.cell? ⟨tb, 0, none⟩ = some (SV text) := (hbw.cell (p := ⟨tb, 0, none⟩) HL.out.2 (fun h => h.elim HC.out.2 (fun (h : W.heap.size ≤ tb) => by have := HL.out.2; omega))).trans HCc.out.2
    unfold SV at c2
    have hk := HSk.out.2.1
    by_cases hlt : k + 5 ≤ text.length
    · have hex : (⟨text.toArray⟩ : ByteArray).extract k text.length = ⟨(text.drop k).toArray⟩ := by rw [extract_S, List.take_length]
      obtain ⟨f, hf⟩ : ∃ f, f = (lng base (text.drop k)).1 := ⟨_, rfl⟩
      obtain ⟨n, hn⟩ : ∃ n, n = (lng base (text.drop k)).2 := ⟨_, rfl⟩
      have HLo : Hid (Calls Try.prog 38 #[.pointer (some ⟨gb, 0, none⟩), .string ((⟨text.toArray⟩ : ByteArray).extract k text.length)] wr fun e w' => e = .returned (.tuple #[.int .i64 (f : Int), .int .i64 (n : Int)]) ∧ wr = w') := Lib.hid (by
        obtain ⟨sb, K, eb, Ke, C', A, own, h1, h2, h3, _⟩ := hgn
        rw [hex, hf, hn]
        exact longest_any h1 h2 h3 HBt.out (text.drop k) (by rw [List.length_drop]; omega))
      have hnk : n ≤ text.length - k := by rw [hn]; have := lng_le base (text.drop k); rw [List.length_drop] at this; exact this
      have Hf := Lib.hid hf; have Hn := Lib.hid hn
      by_cases h5 : n < 5
      · have HS' : Hid (Skip base text d (k + 1)) := Lib.hid (HSk.out.more (by omega) (by rw [← hn]; exact h5))
        clear hj hgn hcn hbw hnw hex hf hn
        go_wp2_with fail
        refine HLo.out.mono ?_
        intro e9 w9 hh
        rw [hh.1, ← hh.2]
        clear hh w9 e9 HLo
        go_wp2
        go_roundw
        case rel => exact ⟨d, k + 1, C, by go_num, HS', HI⟩
        case measure => simp [intOf]; omega
      · have hyd := HRd.out.rd d C #[.agg #[.int .i64 (k : Int), .int .i64 (f : Int), .int .i64 (n : Int)]] (k + n) wr hj ⟨k, HSk.out, by rw [← hn]; omega, by rw [hf, hn], by rw [hn]⟩
        obtain ⟨fn, tmps, assign, body, hy, hR⟩ := hyd
        have HHy := Lib.hid hy; have HHR := Lib.hid hR
        have HS' : Hid (Skip base text (k + n) (k + n)) := Lib.hid (Skip.self (by omega))
        clear hj hgn hcn hbw hnw hex hf hn hy hR
        go_wp2_with fail
        refine HLo.out.mono ?_
        intro e9 w9 hh
        rw [hh.1, ← hh.2]
        clear hh w9 e9 HLo
        go_upto_region 6 with fail
        have hy := HHy.out
        refine (wpIn_wide (n := 6)).1 ?_
        gi_wp2
        refine HHR.out.mono ?_
        clear hy
        rintro e W3 (⟨rfl, C', hJ3, hb3, hC3⟩ | ⟨rfl, hx3⟩)
        · have HI3 : Hid (J (k + n) C' W3 ∧ GrN W3 W.heap.size N gb base ∧ (∀ k, C' k → C1 k ∨ N ≤ k) ∧ But (fun k => C1 k ∨ W.heap.size ≤ k) W W3 ∧ N ≤ W3.heap.size) := Lib.hid (by
            obtain ⟨hj, hgn, hcn, hbw, hnw⟩ := HI.out
            refine ⟨hJ3, hgn.but hb3 (fun i h1 h2 h3 => ?_), fun i hi => (hC3 i hi).elim (hcn i) (fun h => .inr (by omega)), hbw.trans (hb3.mono fun i _ hi => (hcn i hi).imp id (fun h => by have := HNW.out; omega)), by have := hb3.size; omega⟩
            rcases hcn i h3 with h4 | h4
            · have := HRd.out.lt _ _ _ HJ.out i h4; omega
            · omega)
          clear hJ3 hb3 hC3 HI c2
          gi_wp2
          go_wp2_with fail
          go_roundw
          case rel => exact ⟨k + n, k + n, C', by go_num, HS', HI3⟩
          case measure => simp [intOf]; omega
        · gi_wp2
          go_wp2_with fail
          refine bodyPost_ret (results_none rfl _ _ _) rfl ?_
          exact ⟨⟨_, rfl⟩, .inr hx3⟩
    · have hF : Hid (∃ s C, MEnd base text s ∧ J s C wr) := Lib.hid ⟨d, C, ⟨k, HSk.out, by omega⟩, hj⟩
      clear hj hgn hcn hbw hnw
      go_wp2_with fail
      go_end0
      exact ⟨⟨_, rfl⟩, .inl hF.out⟩
end Go.Proofs.Ytbgnemephcbgeaa
