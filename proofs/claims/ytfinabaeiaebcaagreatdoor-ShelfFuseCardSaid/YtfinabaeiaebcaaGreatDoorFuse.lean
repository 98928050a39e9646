/-
  ShelfFuse: its walk.
-/
import Derived.Test.YtfinabaeiaebcaaGreatDoorDoesM
namespace Go.Proofs.YtfinabaeiaebcaaGreatDoor
open Go Go.RowKit Go.Maps Go.Shelf Go.Deep

theorem newSt_bd0 (r : Int) : Bd (newSt r []) 0 := ⟨by simp [newSt], by simp [newSt], by simp [newSt], by simp [newSt], by simp [newSt], by simp [newSt], by decide⟩

def w0 (o : OpR) : OpR := { o with what := 0 }

/-- A shelf with a fuse of N, a acts done. -/
structure Fz (N : Nat) (st : St) (a : Nat) : Prop where
  le : a ≤ N
  acts : st.acts = a
  fuse : st.fuse = ((N : Int) - a)
  down : st.down = true → a = N
  synced : st.synced = []

theorem fz_on {N a : Nat} {st : St} (h : Fz N st a) (ha : a < N) : on st = true := by
  unfold on
  have h1 : st.down = false := by
    cases hd : st.down with
    | false => rfl
    | true => have := h.down hd; omega
  rw [h1, h.fuse]
  simp; omega
theorem fz_off {N : Nat} {st : St} (h : Fz N st N) : on st = false := by
  unfold on
  rw [h.fuse]
  simp

theorem fz_spent {N : Nat} {st : St} (h : Fz N st N) (o : OpR) : doesN (w0 o) st = 13 ∧ doesSt (w0 o) st = { st with down := true } ∧ Fz N { st with down := true } N := by
  have ho := fz_off h
  refine ⟨?_, ?_, ⟨h.le, h.acts, h.fuse, fun _ => rfl, h.synced⟩⟩
  · show doN st _ = 13; unfold doN; rw [ho]; rfl
  · show doSt st _ _ = _; unfold doSt; rw [ho]; rfl
theorem fz_ok {N a : Nat} {st : St} (h : Fz N st a) (hN : N ≤ 20) (ha : a < N) (o : OpR) (he : writeErr o.path o.b.length st = 0) : doesN (w0 o) st = 0 ∧ (doesSt (w0 o) st).down = false ∧ Fz N (doesSt (w0 o) st) (a + 1) := by
  have ho := fz_on h ha
  have hd : st.down = false := by
    cases hd : st.down with
    | false => rfl
    | true => have := h.down hd; omega
  have e : doesSt (w0 o) st = bump (wrote o.path o.b st) := by
    show doSt st (writeErr o.path o.b.length st) _ = _
    unfold doSt; rw [ho, he]; rfl
  refine ⟨?_, ?_, ?_⟩
  · show doN st (writeErr o.path o.b.length st) = 0; unfold doN; rw [ho, he]; rfl
  · rw [e]; exact hd
  · rw [e]
    refine ⟨ha, ?_, ?_, fun h2 => ?_, h.synced⟩
    · show wrap64 (st.acts + 1) = _
      rw [h.acts, wrap64_in (by omega)]; omega
    · show burnt st.fuse = _
      unfold burnt
      rw [h.fuse, if_neg (by omega), wrap64_in (by omega)]; omega
    · have : st.down = true := h2
      rw [hd] at this; cases this
theorem fz_err {N a : Nat} {st : St} (h : Fz N st a) (ha : a < N) (o : OpR) (he : writeErr o.path o.b.length st ≠ 0) : doesN (w0 o) st = writeErr o.path o.b.length st ∧ doesSt (w0 o) st = st ∧ st.down = false := by
  have ho := fz_on h ha
  refine ⟨?_, ?_, ?_⟩
  · show doN st (writeErr o.path o.b.length st) = _; unfold doN; rw [ho]; rfl
  · show doSt st (writeErr o.path o.b.length st) _ = _
    unfold doSt; rw [ho, if_pos rfl, if_neg he]
  · cases hd : st.down with
    | false => rfl
    | true => have := h.down hd; omega

theorem crashK_nil {l : List (By × Act)} {t : Tb} : ∀ k, crashK l [] t k = t
  | 0 => rfl
  | k + 1 => by
    rw [crashK, crashK_nil k]
    split <;> simp

/-- Behind a crash of all that is loose. -/
def emptied (st : St) : St := { st with files := [], synced := [], loose := [], fuse := -1, down := false }
theorem fz_crash {N a : Nat} {st : St} (h : Fz N st a) : crashSt [] st = emptied st := by
  unfold crashSt emptied
  rw [crashK_nil, h.synced]

set_option maxHeartbeats 8000000 in
set_option maxRecDepth 100000 in
theorem Fuse_law (w : World) (het : Et w) (hg : 0 < w.heap.size) {n : Nat} (hn : n < 256) {v : Value} {l : List OpR} (hl : l.length ≤ lim) (hv : OpsAt w w.heap.size v l) :
    Calls Tryz.prog 7 #[.int .u8 n, v] w (HeadPost w) := by
  have Hh := Lib.hid (head_any w het hg)
  have Hv := Lib.hid hv
  obtain ⟨x, c, rfl, hx⟩ := hv
  have Hx := Lib.hid hx; clear hx
  have Het := Lib.hid het; clear het
  go_enter Tryz.func7, Tryz.ntmps7
  go_wp2_with fail
  refine Hh.out.mono ?_
  rintro e w1 ⟨rfl, hB1⟩
  go_wp2_with fail
  refine (New_any (base := w.heap.size) _ w1 hB1.size).mono ?_
  rintro e w2 ⟨s, f, y, rfl, hk, hB2⟩
  have hB02 := below_two hB1 hB2
  have Hgr := Lib.hid (Great_any (Hv.out.below hB02) hl)
  have HB2 := Lib.hid hB02; have Hk := Lib.hid hk
  clear hB1 hB2 hB02 hk
  go_wp2_with fail
  refine Hgr.out.mono ?_
  rintro e w3 ⟨gr, rfl, hB3, hsm⟩
  have Hk3 := Lib.hid (Hk.out.keep hB3)
  have HB3 := Lib.hid (below_two HB2.out hB3); have Hsm := Lib.hid hsm
  clear hB3 hsm
  cases gr with
  | true =>
    go_wp2_with fail
    go_ret
    exact ⟨rfl, HB3.out⟩
  | false =>
    have hsm := Hsm.out rfl
    obtain ⟨N, hN, eN⟩ : ∃ N : Nat, N < 20 ∧ (n : Int) % 20 = N := ⟨n % 20, Nat.mod_lt _ (by omega), by omega⟩
    have Hf := Lib.hid (Fuse_any Hk3.out (N : Int))
    clear Hsm
    go_wp2_with fail
    refine Hf.out.mono ?_
    rintro e w4 ⟨rfl, k4, hok4⟩
    have hfz : Fz N { newSt 4194304 [] with fuse := max (N : Int) (-1) } 0 := ⟨Nat.zero_le _, rfl, (by show max (N : Int) (-1) = _; omega), fun h => (by cases h), rfl⟩
    have hbd0 : Bd { newSt 4194304 [] with fuse := max (N : Int) (-1) } 0 := ⟨by simp [newSt], by simp [newSt], by simp [newSt], by simp [newSt], by simp [newSt], by simp [newSt], by decide⟩
    have Hk4 := Lib.hid hok4; have HK4 := Lib.hid ((K.of_new (base := w.heap.size) HB3.out (Nat.le_refl _)).trans k4); have Hfz := Lib.hid hfz; have Hbd := Lib.hid hbd0
    clear k4 hok4 hfz hbd0
    go_wp2_with fail
    go_loopw [7] (fun i wr => ∃ k a lv st, k ≤ l.length ∧ i = .int .i64 (k : Nat) ∧ K w.heap.size w wr ∧ Ok wr w.heap.size s f y lv st ∧ Bd st k ∧ Fz N st a) (fun i _ => l.length - (intOf i).toNat)
    case atStart => exact ⟨0, 0, _, _, Nat.zero_le _, rfl, HK4.out, Hk4.out, Hbd.out, Hfz.out⟩
    case round =>
      obtain ⟨k, a, lv, st, hk, rfl, hK, hok, hbd, hfz⟩ := hrel
      have HK := Lib.hid hK; have Hok := Lib.hid hok; have Hbd2 := Lib.hid hbd; have Hfz2 := Lib.hid hfz
      have hacts := Acts_any hok
      rw [hfz.acts] at hacts
      have Hacts := Lib.hid hacts
      by_cases hlt : k < l.length
      · obtain ⟨o, ho⟩ : ∃ o, l[k]? = some o := ⟨_, List.getElem?_eq_getElem hlt⟩
        obtain ⟨b, off, rfl, bvv, kv, h0, h1, h2, h3, h4, h5, h6, h7, _, _, l1, l2, l3, l4⟩ := Hx.out k o ho
        obtain ⟨va, vc, rfl⟩ := h6.slice
        obtain ⟨ka, kc, rfl⟩ := h7.slice
        replace h0 := cell_below' hK.below h0
        replace h1 := cell_below' hK.below h1
        replace h2 := cell_below' hK.below h2
        replace h3 := cell_below' hK.below h3
        replace h4 := cell_below' hK.below h4
        replace h5 := cell_below' hK.below h5
        rw [add_at] at h1 h2 h3 h4 h5
        unfold S at h1 h2
        have Hb := Lib.hid (h6.below hK.below)
        have B := below_alloc wr (.cells #[.int .i64 0, .string ⟨o.path.toArray⟩, .string ⟨o.to.toArray⟩, .slice va o.b.length vc, .int .i64 o.n, .slice ka o.keep.length kc] 34)
        have kB := hK.trans (K.of_new (base := w.heap.size) B hK.size)
        have hdo := does_any (o := w0 o) (kv := .slice ka o.keep.length kc) (hok.keep B) hbd (Het.out.keep kB hg) hg ((h6.below hK.below).below B) (Nat.le_trans l1 lim_le) (Nat.le_trans l2 lim_le) (Nat.le_trans l3 lim_le)
        have hbd' := hbd.does (by have := hsm.1; omega) (w0 o) (Nat.le_trans l1 lim_le) (Nat.le_trans l2 lim_le)
        have HKB := Lib.hid kB; have Hbd3 := Lib.hid hbd'
        have eo : opV (w0 o) (.slice va o.b.length vc) (.slice ka o.keep.length kc) = .agg #[.int .i64 0, .string ⟨o.path.toArray⟩, .string ⟨o.to.toArray⟩, .slice va o.b.length vc, .int .i64 o.n, .slice ka o.keep.length kc] := rfl
        rw [eo] at hdo
        have hl3 : l.length ≤ 300 := hsm.1
        have haL : a ≤ 20 := by have := hfz.le; omega
        by_cases haN : a = N
        · subst haN
          obtain ⟨e1, e2, hf2⟩ := fz_spent hfz o
          rw [e1, e2] at hdo
          rw [e2] at hbd'
          have Hdo := Lib.hid hdo; have Hf2 := Lib.hid hf2; have Hbd4 := Lib.hid hbd'
          clear hK hok hbd hfz hacts h6 h7 hdo hf2 hbd' e1 e2 eo kB B
          go_wp2_with fail
          refine Hacts.out.mono ?_
          rintro e w' ⟨rfl, rfl⟩
          go_wp2_with fail
          refine Hdo.out.mono ?_
          rintro e w6 ⟨rfl, k6, lv6, hok6⟩
          have Hd := Lib.hid (Down_any hok6)
          have HK6 := Lib.hid (HKB.out.trans k6); have Hok6 := Lib.hid hok6
          clear k6 hok6
          go_wp2_with fail
          refine Hd.out.mono ?_
          rintro e w' ⟨rfl, rfl⟩
          go_wp2_with fail
          go_roundw
          case rel => exact ⟨k + 1, a, _, _, hlt, by go_num, HK6.out, Hok6.out, Hbd4.out, Hf2.out⟩
          case measure => simp [intOf]; omega
        · have haI : ¬ (a : Int) = (N : Int) := by omega
          have haN' : a < N := by have := hfz.le; omega
          by_cases her : writeErr o.path o.b.length st = 0
          · obtain ⟨e1, e2, hf2⟩ := fz_ok hfz (by omega) haN' o her
            rw [e1] at hdo
            generalize hst : doesSt (w0 o) st = st' at hdo e2 hf2 hbd'
            have Hdo := Lib.hid hdo; have Hf2 := Lib.hid hf2; have Hbd4 := Lib.hid hbd'
            have e4 : st'.acts = (a : Int) + 1 := by rw [hf2.acts]; omega
            clear hK hok hbd hfz hacts h6 h7 hdo hf2 hbd' e1 eo kB B hst her
            go_wp2_with fail
            refine Hacts.out.mono ?_
            rintro e w' ⟨rfl, rfl⟩
            go_wp2_with fail
            refine Hdo.out.mono ?_
            rintro e w6 ⟨rfl, k6, lv6, hok6⟩
            have hd := Down_any hok6
            have ha := Acts_any hok6
            rw [e2] at hd
            rw [e4] at ha
            have Hd := Lib.hid hd; have Ha := Lib.hid ha
            have HK6 := Lib.hid (HKB.out.trans k6); have Hok6 := Lib.hid hok6
            clear k6 hok6 hd ha e2 e4
            go_wp2_with fail
            refine Hd.out.mono ?_
            rintro e w' ⟨rfl, rfl⟩
            go_wp2_with fail
            refine Ha.out.mono ?_
            rintro e w' ⟨rfl, rfl⟩
            go_wp2_with fail
            go_roundw
            case rel => exact ⟨k + 1, a + 1, _, _, hlt, by go_num, HK6.out, Hok6.out, Hbd4.out, Hf2.out⟩
            case measure => simp [intOf]; omega
          · obtain ⟨e1, e2, e3⟩ := fz_err hfz haN' o her
            rw [e1, e2] at hdo
            have hne : ¬ writeErr o.path o.b.length st = 13 := writeErr_ne
            generalize writeErr o.path o.b.length st = er at hdo her hne
            have hE : (er == 13) = false := by simpa using hne
            have hA : ((a : Int) == (N : Int)) = false := by simpa using haI
            have hZ : (er == 0) = false := by simpa using her
            have Hdo := Lib.hid hdo; have Hbd4 := Lib.hid (hbd.mono (Nat.le_succ k) (by have := hsm.1; omega))
            clear hK hok hbd hfz hacts h6 h7 hdo hbd' e1 e2 eo kB B
            go_wp2_with fail
            refine Hacts.out.mono ?_
            rintro e w' ⟨rfl, rfl⟩
            go_wp2_with fail
            refine Hdo.out.mono ?_
            rintro e w6 ⟨rfl, k6, lv6, hok6⟩
            have hd := Down_any hok6
            rw [e3] at hd
            have Hd := Lib.hid hd
            have HK6 := Lib.hid (HKB.out.trans k6); have Hok6 := Lib.hid hok6
            clear k6 hok6 hd e3
            go_wp2_with fail
            refine Hd.out.mono ?_
            rintro e w' ⟨rfl, rfl⟩
            go_wp2_with fail
            go_roundw
            case rel => exact ⟨k + 1, a, _, _, hlt, by go_num, HK6.out, Hok6.out, Hbd4.out, Hfz2.out⟩
            case measure => simp [intOf]; omega
      · obtain rfl : k = l.length := by omega
        have hl3 : l.length ≤ 300 := hsm.1
        have ec := fz_crash hfz
        have hcr := Crash_any hok hbd (kv := .slice none 0 0) (ks := []) (.inl ⟨rfl, rfl⟩) (by decide)
        have hbc := hbd.crash []
        rw [ec] at hcr hbc
        have Hcr := Lib.hid hcr; have Hbc := Lib.hid hbc
        clear hK hok hbd hfz hacts hcr hbc ec
        go_wp2_with fail
        refine Hcr.out.mono ?_
        rintro e w5 ⟨rfl, k5, f5, hok5⟩
        have hK5 := HK.out.trans k5
        have hsy := DoPost.cast (n' := 0) (st' := bump (emptied st)) rfl rfl (Sync_any hok5 Hbc.out (Het.out.keep hK5 hg) hg (d := [97]) (by decide))
        have Hsy := Lib.hid hsy; have HK5 := Lib.hid hK5
        clear k5 hok5 hK5 hsy
        go_wp2_with fail
        refine Hsy.out.mono ?_
        rintro e w6 ⟨rfl, k6, lv6, hok6⟩
        have Hd := Lib.hid (Down_any hok6)
        have Hfi := Lib.hid (Files_any hok6 Hbc.out.bump)
        have HK6 := Lib.hid (HK5.out.trans k6)
        clear k6 hok6
        go_wp2_with fail
        refine Hd.out.mono ?_
        rintro e w' ⟨rfl, rfl⟩
        go_wp2_with fail
        refine Hfi.out.mono ?_
        rintro e w7 ⟨v7, rfl, hfl, hB7⟩
        obtain ⟨av, cv, rfl⟩ := hfl.slice
        have HK7 := Lib.hid (HK6.out.trans (K.of_new hB7 HK6.out.size))
        clear hfl hB7
        go_wp2_with fail
        go_ret
        exact ⟨rfl, HK7.out.below⟩
end Go.Proofs.YtfinabaeiaebcaaGreatDoor
