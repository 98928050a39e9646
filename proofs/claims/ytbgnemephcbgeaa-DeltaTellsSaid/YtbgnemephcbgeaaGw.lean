/-
  grow: a byte more.
-/
import Derived.Test.YtbgnemephcbgeaaGa
namespace Go.Proofs.Ytbgnemephcbgeaa
open Go Go.RowKit

theorem s_i32 (W : World) (b o : Nat) (x : Value) (n : Int) (h : W.cell? ⟨b, o, none⟩ = some x) (hf : W.frozen? ⟨b, o, none⟩ = false) : (Instr.storeAt 21 (.pointer (some ⟨b, o, none⟩)) (.int .i32 n)).run Try.prog W = .ok () (W.setCell ⟨b, o, none⟩ (.int .i32 n)) := by
  go_simp

def GrowPost (B gb sb K : Nat) (p : Bs) (A : Au) (c : UInt8) (w : World) (e : Ending) (w' : World) : Prop :=
  ∃ (x : Nat) (C' : Cg) (A' : Au) (own' : Nat → Nat) (eb Ke : Nat), e = .returned (.int .i32 (x : Int)) ∧ GrM w' B gb sb K eb Ke C' ∧ Below B w w' ∧ Rep C' A' own' ∧ A'.n ≤ A.n + 2 ∧ x < A'.n ∧ A'.W x = p ++ [c] ∧ Good (p ++ [c]) A'

set_option maxHeartbeats 4000000 in
set_option maxRecDepth 100000 in
theorem grow_any {w : World} {B gb sb K eb Ke : Nat} {C : Cg} {own : Nat → Nat} {p : Bs} {A : Au} (c : UInt8) {last : Nat} (h : GrM w B gb sb K eb Ke C) (R : Rep C A own) (Gd : Good p A) (hl : last < A.n) (hw : A.W last = p)
    (hp : p.length ≤ 1000000) (hK : C.st.length + 2 ≤ K) (hs : C.st.length ≤ 1999999) :
    Calls Try.prog 48 #[.pointer (some ⟨gb, 0, none⟩), .int .i32 (last : Int), .int .u8 (c.toNat : Int)] w (GrowPost B gb sb K p A c w) := by
  obtain ⟨n, hn⟩ : ∃ n, n = C.st.length := ⟨_, rfl⟩
  have hnA : A.n = n := by rw [hn, R.n]
  obtain ⟨lp, hlp⟩ : ∃ l, l = p.length := ⟨_, rfl⟩
  have hlC : last < C.st.length := by rw [R.n]; exact hl
  have g0 := h.g0
  have s0 := h.s0 hlC
  rw [(R.s last hl).1, hw, ← hlp] at s0
  rw [← hn] at g0 hK hs hlC
  rw [← hlp] at hp
  have HPut : Hid (∀ W, Below w.heap.size w W → Calls Try.prog 47 #[.pointer (some ⟨gb, 0, none⟩), .agg #[.int .i32 ((lp : Int) + 1), .int .i32 ((lp : Int) + 1), .int .i32 0, .int .i32 0]] W (PutPost B gb sb K eb Ke (C.put ⟨lp + 1, lp + 1, 0, 0⟩) (.int .i32 (n : Int)) W)) := Lib.hid fun W hW => by
    have := put_any (h.below hW (Nat.le_refl _)) ⟨lp + 1, lp + 1, 0, 0⟩ (by omega) (by omega)
    rw [← hn] at this
    exact this
  have HR1 : Hid (Rep (C.put ⟨lp + 1, lp + 1, 0, 0⟩) (A.put (p ++ [c]) (p.length + 1) (some 0)) own) := Lib.hid (R.put (by simp [hlp]) (by rw [hlp]) rfl rfl)
  have HM1 : Hid (Mid p A c (some last) (A.put (p ++ [c]) (p.length + 1) (some 0))) := Lib.hid (Mid.start hw)
  have HGo1 : Hid (Goes p A c (some last)) := Lib.hid (Goes.start hl hw)
  have HN1 : Hid ((C.put ⟨lp + 1, lp + 1, 0, 0⟩).st.length = n + 1) := Lib.hid (by unfold Cg.put; simp; exact hn.symm)
  have HnA := Lib.hid hnA; have HGd := Lib.hid Gd; have HP := Lib.hid hlp
  have hlI : (last : Int) < (n : Int) := by omega
  have Hw := Lib.hid (And.intro h.lt h.hB)
  clear h R Gd hn hnA hlp hw hl
  go_enter Try.func48, Try.ntmps48
  go_wp2_with fail
  refine (HPut.out _ (Below.refl _ _)).mono ?_
  rintro e1 w1 ⟨rfl, hg1, hb1⟩
  have HG1 := Lib.hid hg1; have L1 := Lib.hid hb1
  clear hg1 hb1 HPut g0 s0 hlI hlC Hw
  go_wp2_with fail
  obtain ⟨C1, hC1⟩ : ∃ C1, C1 = C.put ⟨lp + 1, lp + 1, 0, 0⟩ := ⟨_, rfl⟩
  obtain ⟨A1, hA1⟩ : ∃ A1, A1 = A.put (p ++ [c]) (p.length + 1) (some 0) := ⟨_, rfl⟩
  rw [← hC1] at HR1 HG1 HN1
  rw [← hA1] at HR1 HM1
  clear hC1 hA1
  go_loopw [9, 10] (fun v9 _ wr => ∃ (y : Option Nat) (C3 : Cg) (A3 : Au) (own3 : Nat → Nat) (eb3 Ke3 : Nat), v9 = .int .i32 (lnkI y) ∧ Hid (C3.st.length = n + 1) ∧ Hid (GrM wr B gb sb K eb3 Ke3 C3) ∧ Hid (Below B w wr) ∧ Hid (Rep C3 A3 own3) ∧ Hid (Mid p A c y A3) ∧ Hid (Goes p A c y)) (fun v9 _ _ => muA A v9)
  case atStart => exact ⟨some last, C1, A1, own, eb, Ke, rfl, HN1, HG1, L1, HR1, HM1, HGo1⟩
  case round =>
    obtain ⟨y, C3, A3, own3, eb3, Ke3, rfl, HN3, HG3, L3, HR3, HM3, HGo3⟩ := hrel
    clear HN1 HG1 L1 HR1 HM1 HGo1
    rcases y with _ | v
    · have hpost : Hid (GrowPost B gb sb K p A c w (.returned (.int .i32 (n : Int))) wr) := Lib.hid (by
        have e1 := HM3.out.n
        have e2 := HnA.out
        refine ⟨n, C3, A3, own3, eb3, Ke3, rfl, HG3.out, L3.out, HR3.out, by omega, by omega, by rw [← e2]; exact HM3.out.Wn, ?_⟩
        exact (HM3.out.all).good HGd.out HGo3.out.long_none HGd.out.pos HGd.out.w0)
      rw [show lnkI none = -1 from rfl]
      go_wp2
      go_ret
      exact hpost.out
    · rw [show lnkI (some v) = (v : Int) from rfl]
      obtain ⟨hv, hvs⟩ := HGo3.out.lt v rfl
      have hvA3 : v < A3.n := by have := HM3.out.n; omega
      have hvC : v < C3.st.length := by rw [HR3.out.n]; exact hvA3
      obtain ⟨r, hr, hrl⟩ := HR3.out.toWf.edgeAt hvC c
      have hδ := HR3.out.δ v c r hvA3 hr
      rw [HM3.out.free hv] at hδ
      have HE := Lib.hid (edge_any HG3.out HR3.out.toWf hvC c hr)
      have b0 : ((v : Int) != -1) = true := by simp only [bne_iff_ne, ne_eq]; omega
      have hfew := HR3.out.few
      have hN3 := HN3.out
      by_cases hr0 : r = 0
      · have b1 : ((r : Int) != 0) = false := by simp only [bne_eq_false_iff_eq]; omega
        have hdn : A.δ v c = none := by rw [hδ, if_pos hr0]
        have hnn : n < A3.n := by have := HM3.out.n; have := HnA.out; omega
        obtain ⟨C5, hC5⟩ : ∃ C5, C5 = C3.join v c n := ⟨_, rfl⟩
        obtain ⟨A5, hA5⟩ : ∃ A5, A5 = A3.edge v c n := ⟨_, rfl⟩
        have HR5 : Hid (Rep C5 A5 (ownJ C3 own3 v)) := Lib.hid (by
          rw [hC5, hA5]
          exact HR3.out.join hvA3 hnn (by rw [HM3.out.free hv]; exact hdn))
        have HM5 : Hid (Mid p A c (A.link v) A5) := Lib.hid (by
          have := HM3.out.next HGd.out HGo3.out
          rw [HnA.out] at this
          rw [hA5]; exact this)
        have HGo5 : Hid (Goes p A c (A.link v)) := Lib.hid (HGo3.out.next HGd.out hdn)
        have HN5 : Hid (C5.st.length = n + 1) := Lib.hid (by rw [hC5, join_len]; exact hN3)
        obtain ⟨l5, hl5⟩ : ∃ l, l = lnkI (A.link v) := ⟨_, rfl⟩
        have HJ : Hid (∀ W, wr = W → Calls Try.prog 55 #[.pointer (some ⟨gb, 0, none⟩), .int .i32 (v : Int), .int .u8 (c.toNat : Int), .int .i32 (n : Int)] W fun e w' => e = .returned (.tuple #[]) ∧ ∃ eb5 Ke5, w'.cell? ⟨gb, 0, none⟩ = some (.slice (some ⟨sb, 0, none⟩) (n + 1) K) ∧ w'.cell? ⟨sb, v * 4 + 2, none⟩ = some (.int .i32 l5) ∧ Hid (GrM w' B gb sb K eb5 Ke5 C5) ∧ Hid (Below B w w')) := Lib.hid fun W hW => by
          subst hW
          refine (join_any HG3.out hvC c n (by omega)).mono ?_
          rintro e5 w5 ⟨h1, eb5, Ke5, h2, h3⟩
          rw [← hC5] at h2
          refine ⟨h1, eb5, Ke5, ?_, ?_, Lib.hid h2, Lib.hid (L3.out.trans h3)⟩
          · have := h2.g0
            rw [HN5.out] at this; exact this
          · have := h2.s2 (v := v) (by rw [HN5.out]; omega)
            rw [(HR5.out.s v (by rw [← HR5.out.n, HN5.out]; omega)).2.2, HM5.out.link v hv, ← hl5] at this; exact this
        have HMu : Hid (muA A (.int .i32 l5) < muA A (.int .i32 (v : Int))) := Lib.hid (by
          rw [hl5]; exact mu_lt fun x hx => (HGd.out.chain hv hvs hx).2.1)
        have Hl5 := Lib.hid hl5
        have hvI : (v : Int) < (n : Int) + 1 := by omega
        have hvI' : (v : Int) < ((n + 1 : Nat) : Int) := by omega
        clear hδ hdn hnn hC5 hA5 hl5 hr hrl hvC hvA3 hvs hv hfew hN3
        go_wp2_with fail
        refine HE.out.mono ?_
        intro e9 w9 hh
        rw [hh.1]
        have HJ9 := Lib.hid (HJ.out w9 hh.2)
        clear hh e9 HJ HE
        go_wp2_with fail
        refine HJ9.out.mono ?_
        rintro e5 w5 ⟨rfl, eb5, Ke5, c50, c52, hg5, hb5⟩
        clear HJ9
        go_wp2_with fail
        go_roundw
        case rel => exact ⟨A.link v, C5, A5, ownJ C3 own3 v, eb5, Ke5, by rw [Hl5.out], HN5, hg5, hb5, HR5, HM5, HGo5⟩
        case measure => exact HMu.out
      · have b1 : ((r : Int) != 0) = true := by simp only [bne_iff_ne, ne_eq]; omega
        rw [if_neg hr0] at hδ
        have HAp : Hid (Calls Try.prog 54 #[.pointer (some ⟨gb, 0, none⟩), .int .i32 (v : Int), .int .i32 (r : Int)] wr.drew fun e w5 => ∃ (x nn : Nat) (_ : w5.frozen? ⟨sb, n * 4 + 2, none⟩ = false), w5.cell? ⟨gb, 0, none⟩ = some (.slice (some ⟨sb, 0, none⟩) nn K) ∧ (∃ u, w5.cell? ⟨sb, n * 4 + 2, none⟩ = some u) ∧ n < nn ∧ e = .returned (.int .i32 (x : Int)) ∧ Hid (∀ W, W = w5.setCell ⟨sb, n * 4 + 2, none⟩ (.int .i32 (x : Int)) → GrowPost B gb sb K p A c w (.returned (.int .i32 (n : Int))) W)) := Lib.hid (by
          have hG := HG3.out.below ((Below.refl wr.heap.size wr).drew) (Nat.le_refl _)
          refine (apart_any hG HR3.out HM3.out HGd.out HGo3.out hr hδ (by rw [← HP.out]; omega) (by omega) (by omega)).mono ?_
          rintro e5 w5 ⟨x, C5, A5, own5, eb5, Ke5, he, hg5, hb5, hR5, hn1, hn2, hx5, hW5, hGd5⟩
          have e2 := HnA.out
          have hnC : n < C5.st.length := by rw [hR5.n]; omega
          obtain ⟨curS, _, _, hsS, _⟩ := hg5.st.blk
          refine ⟨x, C5.st.length, frozen_of hsS, hg5.g0, ⟨_, hg5.s2 hnC⟩, hnC, he, Lib.hid fun W hW => ?_⟩
          refine ⟨n, C5.wide n (x : Int), A5.wide n (some x), own5, eb5, Ke5, rfl, ?_, ?_, hR5.wide (by omega) (some x), by show A5.n ≤ _; omega, by show n < A5.n; omega, by show A5.W n = _; rw [← e2]; exact hW5, by rw [← e2]; exact hGd5⟩
          · refine ⟨?_, ?_, ?_, hg5.n1, hg5.n2, hg5.n3, hg5.hB, hg5.bs, hg5.be⟩
            · rw [hW, setCell_other _ _ _ _ _ hg5.n1, hg5.g]
              unfold grC Cg.wide; simp
            · rw [hW]
              have := hg5.st.setCell stC_len (Cg.s_get hnC) (i := 2) (by decide) (u := .int .i32 (x : Int)) (y := { C5.s n with wider := (x : Int) }) rfl
              have e : (C5.wide n (x : Int)).st.length = C5.st.length := wide_len
              rw [e]
              exact this
            · rw [hW]; exact hg5.ed.other (setCell_other _ _ _ _ _ (fun e => hg5.n3 e.symm))
          · rw [hW]
            refine ((L3.out.drew).trans hb5).trans ⟨rfl, rfl, rfl, by rw [size_setCell]; exact Nat.le_refl _, fun k hk => setCell_other _ _ _ _ _ (by have := hg5.bs; omega)⟩)
        have c0 : Hid (wr.drew.cell? ⟨gb, 0, none⟩ = some (.slice (some ⟨sb, 0, none⟩) (n + 1) K)) := Lib.hid (by have := HG3.out.g0; rw [hN3] at this; exact this)
        have hnn0 : n < n + 1 := by omega
        clear hδ hr hrl hvC hvA3 hvs hv hfew hN3 hr0
        go_wp2_with fail
        refine HE.out.mono ?_
        intro e9 w9 hh
        rw [hh.1, ← hh.2]
        clear hh w9 e9 HE
        go_upto_region 8 with fail
        refine held_start (fun _ : World => True) (by kernel_rfl) ?_
        refine held_take 0 (.pointer (some ⟨gb, 0, none⟩)) rfl (by kernel_rfl) (by kernel_rfl) (by kernel_rfl) (fun _ _ _ h => h) (by kernel_rfl) (fun W hW => by kernel_rfl) (trivial) ?_
        refine held_take 1 (.pointer (some ⟨gb, 0, none⟩)) rfl (by kernel_rfl) (by kernel_rfl) (by kernel_rfl) (fun _ _ _ h => h) (by kernel_rfl) (fun W hW => by kernel_rfl) (trivial) ?_
        refine held_take 2 (.pointer (some ⟨gb, 0, none⟩)) rfl (by kernel_rfl) (by kernel_rfl) (by kernel_rfl) (fun _ _ _ h => h) (by kernel_rfl) (fun W hW => by kernel_rfl) (trivial) ?_
        refine held_take 4 (.int .i32 (n : Int)) rfl (by kernel_rfl) (by kernel_rfl) (by kernel_rfl) (fun _ _ _ h => h) (by kernel_rfl) (fun W hW => by kernel_rfl) (trivial) ?_
        refine held_take 5 (.pointer (some ⟨gb, 0, none⟩)) rfl (by kernel_rfl) (by kernel_rfl) (by kernel_rfl) (fun _ _ _ h => h) (by kernel_rfl) (fun W hW => by kernel_rfl) (trivial) ?_
        refine held_take 6 (.int .i32 (v : Int)) rfl (by kernel_rfl) (by kernel_rfl) (by kernel_rfl) (fun _ _ _ h => h) (by kernel_rfl) (fun W hW => by kernel_rfl) (trivial) ?_
        refine held_take 7 (.int .i32 (r : Int)) rfl (by kernel_rfl) (by kernel_rfl) (by kernel_rfl) (fun _ _ _ h => h) (by kernel_rfl) (fun W hW => by kernel_rfl) (trivial) ?_
        refine held_two (i := 3) (j := 8) (by kernel_rfl) ?_ ?_
        · refine held_op (.slice (some ⟨sb, 0, none⟩) (n + 1) K) _ rfl (by kernel_rfl) (y_load (sv := .pointer (some ⟨gb, 0, none⟩)) rfl (by kernel_rfl) (l_sl _ _ _ _ _ _ c0.out)) (trivial) ?_
          refine held_one (i := 8) (by kernel_rfl) ?_
          refine held_call 54 #[.pointer (some ⟨gb, 0, none⟩), .int .i32 (v : Int), .int .i32 (r : Int)] rfl (by kernel_rfl) (by kernel_rfl) ?_
          refine HAp.out.mono ?_
          rintro e5 w5 ⟨x, nn, f50, c50, ⟨u5, c52⟩, hnn, rfl, hfin⟩
          refine ⟨.int .i32 (x : Int), rfl, trivial, ?_⟩
          refine held_take 9 (.pointer (some ⟨sb, n * 4, none⟩)) rfl (by kernel_rfl) (by kernel_rfl) (by kernel_rfl) (fun _ _ _ h => h) (by kernel_rfl) (fun W hW => y_index (sv := .slice (some ⟨sb, 0, none⟩) (n + 1) K) (iv := .int .i32 (n : Int)) rfl (by kernel_rfl) (by kernel_rfl) (at_st W sb (n + 1) K n hnn0)) (trivial) ?_
          refine held_take 10 (.pointer (some ⟨sb, n * 4 + 2, none⟩)) rfl (by kernel_rfl) (by kernel_rfl) (by kernel_rfl) (fun _ _ _ h => h) (by kernel_rfl) (fun W hW => by kernel_rfl) (trivial) ?_
          refine held_one (i := 11) (by kernel_rfl) ?_
          refine held_store (w5.setCell ⟨sb, n * 4 + 2, none⟩ (.int .i32 (x : Int))) rfl (by kernel_rfl) (y_store (sv := .pointer (some ⟨sb, n * 4 + 2, none⟩)) (xv := .int .i32 (x : Int)) rfl (by kernel_rfl) (by kernel_rfl) (s_i32 _ _ _ _ _ c52 f50)) (trivial) ?_
          refine held_done _ (by kernel_rfl) ?_
          go_simp
          go_wp2
          go_ret
          exact hfin.out _ rfl
        · refine held_call 54 #[.pointer (some ⟨gb, 0, none⟩), .int .i32 (v : Int), .int .i32 (r : Int)] rfl (by kernel_rfl) (by kernel_rfl) ?_
          refine HAp.out.mono ?_
          rintro e5 w5 ⟨x, nn, f50, c50, ⟨u5, c52⟩, hnn, rfl, hfin⟩
          refine ⟨.int .i32 (x : Int), rfl, trivial, ?_⟩
          refine held_one (i := 3) (by kernel_rfl) ?_
          refine held_op (.slice (some ⟨sb, 0, none⟩) nn K) _ rfl (by kernel_rfl) (y_load (sv := .pointer (some ⟨gb, 0, none⟩)) rfl (by kernel_rfl) (l_sl _ _ _ _ _ _ c50)) (trivial) ?_
          refine held_take 9 (.pointer (some ⟨sb, n * 4, none⟩)) rfl (by kernel_rfl) (by kernel_rfl) (by kernel_rfl) (fun _ _ _ h => h) (by kernel_rfl) (fun W hW => y_index (sv := .slice (some ⟨sb, 0, none⟩) nn K) (iv := .int .i32 (n : Int)) rfl (by kernel_rfl) (by kernel_rfl) (at_st W sb nn K n hnn)) (trivial) ?_
          refine held_take 10 (.pointer (some ⟨sb, n * 4 + 2, none⟩)) rfl (by kernel_rfl) (by kernel_rfl) (by kernel_rfl) (fun _ _ _ h => h) (by kernel_rfl) (fun W hW => by kernel_rfl) (trivial) ?_
          refine held_one (i := 11) (by kernel_rfl) ?_
          refine held_store (w5.setCell ⟨sb, n * 4 + 2, none⟩ (.int .i32 (x : Int))) rfl (by kernel_rfl) (y_store (sv := .pointer (some ⟨sb, n * 4 + 2, none⟩)) (xv := .int .i32 (x : Int)) rfl (by kernel_rfl) (by kernel_rfl) (s_i32 _ _ _ _ _ c52 f50)) (trivial) ?_
          refine held_done _ (by kernel_rfl) ?_
          go_simp
          go_wp2
          go_ret
          exact hfin.out _ rfl
end Go.Proofs.Ytbgnemephcbgeaa
