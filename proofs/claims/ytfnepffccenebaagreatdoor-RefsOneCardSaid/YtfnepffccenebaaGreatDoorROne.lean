/-
  RefsOne, walked.
-/
import Derived.Test.YtfnepffccenebaaGreatDoorROrd
import Derived.Test.YtfnepffccenebaaGreatDoorRHead
import Derived.Test.YtfnepffccenebaaGreatDoorRLawP
namespace Go.Proofs.YtfnepffccenebaaGreatDoor.Rf
open Go.Proofs.YtfnepffccenebaaGreatDoor
open Go Go.RowKit

structure OneI (l : List Ref) (u : List Upd) (k : Nat) (now : List Ref) : Prop where
  out : now = outL l (u.take k)
  right : 0 < k → Right l ∧ Right now
  each : ∀ j, j < k → ∀ x, u[j]? = some x → mayB x = true ∧ findL (outL l (u.take j)) x.name = x.old
theorem OneI.start (l : List Ref) (u : List Upd) : OneI l u 0 l := ⟨rfl, (fun h => absurd h (Nat.lt_irrefl _)), fun _ hj => absurd hj (Nat.not_lt_zero _)⟩
theorem OneI.step {l now r : List Ref} {u : List Upd} {k i : Nat} {x : Upd} (h : OneI l u k now) (hx : u[k]? = some x) (ha : IsApply now [x] (r, 0, i)) : OneI l u (k + 1) r := by
  have hd := ha.done
  refine ⟨?_, fun _ => ⟨?_, hd.right'⟩, fun j hj y hy => ?_⟩
  · rw [hd.out, h.out, List.take_add_one, hx, Option.toList_some, outL_app]
  · rcases Nat.eq_zero_or_pos k with h0 | h0
    · have e := h.out
      rw [h0, List.take_zero] at e
      have e2 : now = l := e
      rw [← e2]; exact hd.right
    · exact (h.right h0).1
  · rcases Nat.lt_or_ge j k with hlt | hge
    · exact h.each j hlt y hy
    · have e : j = k := by omega
      subst e
      rw [hx] at hy
      cases hy
      exact ⟨hd.may x (by simp), by rw [← h.out]; exact hd.old x (by simp)⟩
theorem findL_rest {l : List Ref} {v : List Upd} (hr : Right l) (hp : v.Pairwise fun a b => a.name ≠ b.name) {n : Bs} (hn : ∀ x ∈ v, x.name ≠ n) : findL (outL l v) n = findL l n := by
  have hm := fun r => mem_outL (u := v) (r := r) hr.rise hp
  by_cases hz : findL l n = []
  · rw [hz]
    refine findL_none fun r hm2 e => ?_
    rcases (hm r).1 hm2 with ⟨y, hy, _, rfl⟩ | ⟨h1, _⟩
    · exact hn y hy e
    · have := findL_of_mem hr.rise h1
      rw [e, hz] at this
      exact named_ne (hr.id r h1) this.symm
  · have h1 := findL_mem hz
    exact findL_of_mem (r := ⟨n, findL l n⟩) (rise_outL hr.rise) ((hm _).2 (.inr ⟨h1, fun x hx e => hn x hx e.symm⟩))
theorem OneI.all {l now a : List Ref} {u : List Upd} {e i : Nat} (h : OneI l u u.length now) (ha : IsApply l u (a, e, i)) : (e = 0 ∧ a = now) ∨ u.length = 0 ∨ 16 < u.length ∨ e = 1 := by
  rcases ha with ⟨hA, h2⟩ | ⟨_, h2⟩
  case inr =>
    injection h2 with _ h4
    injection h4 with h5
    exact .inr (.inr (.inr h5))
  rcases Nat.eq_zero_or_pos u.length with h0 | h0
  · exact .inr (.inl h0)
  obtain ⟨hr, hr2⟩ := h.right h0
  have hout := h.out
  rw [List.take_length] at hout
  rw [applyL_err] at h2
  rcases firstN_is (p := badI u) (n := u.length) with ⟨k, k1, k2, k3, _⟩ | ⟨kb, _⟩
  · rw [errL_bad k1 k2 k3, if_neg (show ¬ (1 : Nat) = 0 by decide)] at h2
    injection h2 with _ h4
    injection h4 with h5
    exact .inr (.inr (.inr h5))
  have hon := (bad_all kb).2
  have hs : ∀ x ∈ u, findL l x.name = x.old := fun x hx => by
    obtain ⟨j, hj, rfl⟩ := List.mem_iff_getElem.1 hx
    rw [← (h.each j hj u[j] (List.getElem?_eq_getElem hj)).2]
    refine (findL_rest hr (hon.sublist (List.take_sublist _ _)) fun y hy => ?_).symm
    obtain ⟨k, hk, rfl⟩ := List.mem_take_iff_getElem.1 hy
    exact List.pairwise_iff_getElem.1 hon k j (by omega) hj (by omega)
  have hc : ∀ x ∈ u, x.new ≠ [] → ∀ r ∈ outL l u, aboveB x.name r.name = false ∧ aboveB r.name x.name = false := fun x hx hn r hm => by
    rw [← hout] at hm
    have hx2 : ⟨x.name, x.new⟩ ∈ now := by rw [hout]; exact (mem_outL hr.rise hon).2 (.inl ⟨x, hx, hn, rfl⟩)
    exact ⟨hr2.above _ hx2 r hm, hr2.above r hm _ hx2⟩
  have hE : errL l u = (0, 0) := by rw [errL_end kb (stale_none hs) (clash_none hc), ← hout, if_neg (Nat.not_lt.2 hr2.len)]
  rw [hE, if_pos rfl, ← hout] at h2
  injection h2 with h3 h4
  injection h4 with h5
  exact .inl ⟨h5, h3⟩
theorem upds_one {w : World} {g o n c k : Nat} {u : List Upd} (h : UpdsR w (.slice (some ⟨g, o, none⟩) n c) u) {x : Upd} (hx : u[k]? = some x) (hg : g < w.heap.size) (c' : Nat) (hc : 1 ≤ c') : UpdsR w (.slice (some ⟨g, o + k * 3, none⟩) 1 c') [x] :=
  .inr ⟨g, o + k * 3, c', rfl, hc, hg, fun j hj y hy i hi => by
    have hj0 : j = 0 := by simp at hj; exact hj
    subst hj0
    cases hy
    obtain ⟨v, hv⟩ : ∃ v, (updC x)[i]? = some v := ⟨_, List.getElem?_eq_getElem (by rw [updC_len]; exact hi)⟩
    rw [hv]
    have := RdK.at h hx hi hv
    simpa using this⟩
set_option maxRecDepth 100000 in
set_option maxHeartbeats 8000000 in
theorem One_law (w : World) (lv : Value) (l : List Ref) (hv : RefsR w lv l) (hf : Fit l) (hl : l.length ≤ lim) (uv : Value) (u : List Upd) (hu : UpdsR w uv u) (hfu : FitU u) (hul : u.length ≤ lim) :
    Calls Tryz.prog 9 #[lv, uv] w (BoolB true w) := by
  obtain ⟨A, c, rfl⟩ := hv.shape
  obtain ⟨B, d, rfl⟩ := hu.shape
  obtain ⟨N, hN⟩ : ∃ N, N = u.length := ⟨_, rfl⟩
  obtain ⟨M, hM⟩ : ∃ M, M = l.length := ⟨_, rfl⟩
  rw [← hM] at hv
  rw [← hN] at hu
  rw [← hM, ← hN]
  have HH := Lib.hid (head_p w)
  have HV := Lib.hid hv; have HU := Lib.hid hu; have HF := Lib.hid hf; have HFU := Lib.hid hfu; have HN := Lib.hid hN; have HM := Lib.hid hM
  have Hl := Lib.hid hl; have Hul := Lib.hid hul
  clear hv hu hf hfu hN hM hl hul
  go_enter Tryz.func9, Tryz.ntmps9
  go_wp2_with fail
  refine HH.out.mono ?_
  rintro e w1 ⟨rfl, hb⟩
  have L1 := Lib.hid hb
  have HG1 := Lib.hid (GreatR_any (RdK.below HV.out hb (Nat.le_refl _)) Hl.out)
  clear hb HH
  go_wp2_with fail
  refine HG1.out.mono ?_
  rintro e w2 ⟨g1, rfl, hb, hg1⟩
  have L2 := Lib.hid (L1.out.trans (hb.mono L1.out.size))
  clear hb HG1
  cases g1 with
  | true =>
    clear hg1
    go_wp2_with fail
    go_ret
    exact ⟨rfl, L2.out⟩
  | false =>
  have HS1 := Lib.hid (hg1 rfl)
  have HG2 := Lib.hid (GreatU_any (RdK.below HU.out L2.out (Nat.le_refl _)) Hul.out)
  clear hg1
  go_wp2_with fail
  refine HG2.out.mono ?_
  rintro e w3 ⟨g2, rfl, hb, hg2⟩
  have L3 := Lib.hid (L2.out.trans (hb.mono L2.out.size))
  clear hb HG2
  cases g2 with
  | true =>
    clear hg2
    go_wp2_with fail
    go_ret
    exact ⟨rfl, L3.out⟩
  | false =>
  have HS2 := Lib.hid (hg2 rfl)
  have HAp := Lib.hid (Apply_p l _ u _ w3 (RdK.below HV.out L3.out (Nat.le_refl _)) (RdK.below HU.out L3.out (Nat.le_refl _)) HF.out HFU.out (by have := HS1.out.1; omega) (by have := HS2.out.1; omega))
  clear hg2
  go_wp2_with fail
  refine HAp.out.mono ?_
  rintro e w4 ⟨va, a, ec, pl, rfl, hra, hia, hb⟩
  have L4 := Lib.hid (L3.out.trans (hb.mono L3.out.size))
  obtain ⟨A4, c4, rfl⟩ := hra.shape
  obtain ⟨Ma, hMa⟩ : ∃ z, z = a.length := ⟨_, rfl⟩
  rw [← hMa] at hra ⊢
  have HRa := Lib.hid hra; have HIa := Lib.hid hia; have HMa := Lib.hid hMa
  clear hra hia hb HAp hMa
  have hNb : N ≤ 40 := by rw [HN.out]; exact HS2.out.1
  go_wp2_with fail
  go_loopw [9, 10] (fun v9 i wr => ∃ (k : Nat) (now : List Ref), k ≤ N ∧ i = .int .i64 k ∧ Hid (RefsR wr v9 now) ∧ Hid (Fit now ∧ now.length ≤ 100) ∧ Hid (OneI l u k now) ∧ Hid (Below w4.heap.size w4 wr)) (fun _ i _ => N - (intOf i).toNat)
  case atStart => exact ⟨0, l, Nat.zero_le _, rfl, Lib.hid (RdK.below HV.out L4.out (Nat.le_refl _)), Lib.hid ⟨HF.out, HS1.out.1⟩, Lib.hid (OneI.start l u), Lib.hid (Below.refl _ _)⟩
  case round =>
    obtain ⟨k, now, hk, rfl, hR, hFn, hI, hB⟩ := hrel
    obtain ⟨A9, c9, h9⟩ := hR.out.shape
    subst h9
    obtain ⟨M9, hM9⟩ : ∃ z, z = now.length := ⟨_, rfl⟩
    rw [← hM9] at hR ⊢
    have HM9 := Lib.hid hM9
    clear hM9
    by_cases hlt : k < N
    case neg =>
      have hkN : k = N := by omega
      have HFin := Lib.hid ((show OneI l u u.length now by rw [← HN.out, ← hkN]; exact hI.out).all HIa.out)
      have HSm := Lib.hid (Same_p (RdK.below HRa.out hB.out (Nat.le_refl _)) hR.out (by
        rcases HIa.out with ⟨hA, h2⟩ | ⟨_, h2⟩
        · have h3 := congrArg Prod.fst h2
          have h4 : a = (applyL l u).1 := h3
          rw [applyL_err] at h4
          by_cases h0 : (errL l u).1 = 0
          · rw [if_pos h0] at h4
            have := outL_len hA.1.rise u
            have := hA.1.len; have := hA.2.2
            rw [h4]; simp only; omega
          · rw [if_neg h0] at h4
            have := hA.1.len
            rw [h4]; simp only; omega
        · have h3 := congrArg Prod.fst h2
          have h4 : a = [] := h3
          rw [h4]; simp))
      have L5 := Lib.hid (L4.out.trans (hB.out.mono L4.out.size))
      clear hkN hR hFn hI hB
      by_cases h0 : ec = 0
      · subst h0
        by_cases hs : a = now
        · rw [decide_eq_true hs] at HSm
          clear hs HFin
          go_wp2_with fail
          refine HSm.out.mono ?_
          rintro e w7 ⟨rfl, hb⟩
          have L7 := Lib.hid (L5.out.trans (hb.mono L5.out.size))
          clear hb
          go_wp2_with fail
          go_ret
          exact ⟨rfl, L7.out⟩
        · have HF2 : Hid (N = 0 ∨ 16 < N) := Lib.hid (by
            rcases HFin.out with ⟨_, h⟩ | h | h | h
            · exact absurd h hs
            · exact .inl (by rw [HN.out]; exact h)
            · exact .inr (by rw [HN.out]; exact h)
            · cases h)
          rw [decide_eq_false hs] at HSm
          clear hs HFin
          rcases HF2.out with h2 | h2
          · subst h2
            clear HF2
            go_wp2_with fail
            refine HSm.out.mono ?_
            rintro e w7 ⟨rfl, hb⟩
            have L7 := Lib.hid (L5.out.trans (hb.mono L5.out.size))
            clear hb
            go_wp2_with fail
            go_ret
            exact ⟨rfl, L7.out⟩
          · have hI16 : (16 : Int) < (N : Int) := by omega
            have hIn : ((N : Int) == 0) = false := by simp; omega
            clear HF2 h2
            go_wp2_with fail
            refine HSm.out.mono ?_
            rintro e w7 ⟨rfl, hb⟩
            have L7 := Lib.hid (L5.out.trans (hb.mono L5.out.size))
            clear hb
            go_wp2_with fail
            go_ret
            exact ⟨rfl, L7.out⟩
      · have hne : ((ec : Int) == 0) = false := by simp; omega
        have HF2 : Hid (N = 0 ∨ 16 < N ∨ ec = 1) := Lib.hid (by
          rcases HFin.out with ⟨h, _⟩ | h | h | h
          · exact absurd h h0
          · exact .inl (by rw [HN.out]; exact h)
          · exact .inr (.inl (by rw [HN.out]; exact h))
          · exact .inr (.inr h))
        clear HFin HSm
        by_cases hz : N = 0
        · subst hz
          clear HF2 h0
          go_wp2_with fail
          go_ret
          exact ⟨rfl, L5.out⟩
        · have hIn : ((N : Int) == 0) = false := by simp; omega
          by_cases h16 : 16 < N
          · have hI16 : (16 : Int) < (N : Int) := by omega
            clear HF2 h0 hz h16
            go_wp2_with fail
            go_ret
            exact ⟨rfl, L5.out⟩
          · have hI16 : ¬ (16 : Int) < (N : Int) := by omega
            have he1 : ec = 1 := by rcases HF2.out with h | h | h; exact absurd h hz; exact absurd h h16; exact h
            subst he1
            clear HF2 h0 hz h16
            go_wp2_with fail
            go_ret
            exact ⟨rfl, L5.out⟩
    obtain ⟨g, o, c', e, hNd, hg⟩ := HU.out.pos (by have := HN.out; omega)
    obtain rfl : B = some ⟨g, o, none⟩ := by rw [← HN.out] at e; cases e; rfl
    have hNd2 : N ≤ d := by have hd : d = c' := by (rw [← HN.out] at e; cases e; rfl)
                            rw [hd, HN.out]; exact hNd
    clear e hNd
    obtain ⟨x, hx⟩ : ∃ x, u[k]? = some x := ⟨_, List.getElem?_eq_getElem (by have := HN.out; omega)⟩
    have L5 := Lib.hid (L4.out.trans (hB.out.mono L4.out.size))
    have hr1 := upds_one (RdK.below HU.out L5.out (Nat.le_refl _)) hx (Nat.lt_of_lt_of_le hg L5.out.size) (d - k) (by omega)
    have HAp1 := Lib.hid (Apply_p now _ [x] _ wr hR.out hr1 hFn.out.1 (fun y hy => HFU.out y (by rw [List.mem_singleton.1 hy]; exact List.mem_of_getElem? hx)) (by have := hFn.out.2; omega) (by simp))
    have HX := Lib.hid hx
    clear hx hr1 hg
    go_wp2_with fail
    refine HAp1.out.mono ?_
    rintro e w6 ⟨v6, r6, e6, i6, rfl, hr6, hi6, hb⟩
    have L6 := Lib.hid (L5.out.trans (hb.mono L5.out.size))
    have HB6 := Lib.hid (hB.out.trans (hb.mono hB.out.size))
    obtain ⟨A6, c6, rfl⟩ := hr6.shape
    have HR6 := Lib.hid hr6
    have HI6 := Lib.hid hi6
    clear hb hr6 hi6 HAp1 hR hB
    by_cases h6 : e6 = 0
    · subst h6
      have HD := Lib.hid HI6.out.done
      have HS := Lib.hid (hI.out.step HX.out HI6.out)
      have HF6 : Hid (Fit r6 ∧ r6.length ≤ 100) := Lib.hid ⟨fun r hr => by
        have h1 := nameB_len (HD.out.right'.name r hr); have h2 := named_len64 (HD.out.right'.id r hr)
        unfold maxLen; omega, by have := HD.out.right'.len; omega⟩
      clear hI hFn
      go_wp2_with fail
      go_roundw
      case rel => exact ⟨k + 1, r6, hlt, by go_num, HR6, HF6, HS, HB6⟩
      case measure => simp [intOf]; omega
    · have hne : ((e6 : Int) != 0) = true := by simp; omega
      clear h6 hI hFn
      go_wp2_with fail
      go_ret
      exact ⟨rfl, L6.out⟩
end Go.Proofs.YtfnepffccenebaaGreatDoor.Rf
