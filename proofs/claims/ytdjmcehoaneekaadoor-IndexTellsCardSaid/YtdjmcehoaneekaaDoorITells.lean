/-
  IndexTells, walked, over what the document's Put gives.
-/
import Derived.Test.YtdjmcehoaneekaaDoorIRefP
namespace Go.Proofs.YtdjmcehoaneekaaDoor.Ix
open Go.Proofs.YtdjmcehoaneekaaDoor
open Go Go.RowKit

/-- The contract of the document's Put. -/
def RPutH : Prop := ∀ (W : World) (u : Value) (ids : List Bs), StrsR W u ids → (∀ x ∈ ids, x.length ≤ maxLen) → ids.length ≤ 1000000 → Calls Tryd.prog 12 #[u] W (PutPost ids W)
/-- What Put says of texts: its error, its bytes. -/
def OutE (ids : List Bs) (n : Nat) (bs : Bs) : Prop := (putE ids = some n ∧ bs = []) ∨ (putE ids = none ∧ n = 0 ∧ ∃ rows, Srt ids rows ∧ bs = indexL rows)
theorem OutE.uniq {ids : List Bs} {n n' : Nat} {bs bs' : Bs} (h : OutE ids n bs) (h' : OutE ids n' bs') : n = n' ∧ bs = bs' := by
  rcases h with ⟨h1, rfl⟩ | ⟨h1, rfl, rows, h2, rfl⟩
  · rcases h' with ⟨h3, rfl⟩ | ⟨h3, _⟩
    · rw [h1] at h3; exact ⟨Option.some.inj h3, rfl⟩
    · rw [h1] at h3; cases h3
  · rcases h' with ⟨h3, _⟩ | ⟨_, rfl, rows', h4, rfl⟩
    · rw [h1] at h3; cases h3
    · exact ⟨rfl, by rw [h2.uniq h4]⟩
theorem put_out {ids : List Bs} {w w' : World} {e : Ending} (h : PutPost ids w e w') : Below w.heap.size w w' ∧ ∃ A N c, ∃ n : Nat, ∃ bs, e = .returned (.tuple #[.slice A N c, .int .i64 (n : Int)]) ∧ Rb w' (.slice A N c) bs ∧ OutE ids n bs := by
  obtain ⟨h0, ⟨n, hn, rfl⟩ | ⟨hn, rows, A, N, c, hs, rfl, hN, ho⟩⟩ := h
  · exact ⟨h0, none, 0, 0, n, [], rfl, .inl ⟨⟨none, rfl⟩, rfl⟩, .inl ⟨hn, rfl⟩⟩
  · exact ⟨h0, A, N, c, 0, indexL rows, rfl, Dl.Ow.rb ho, .inr ⟨hn, rfl, rows, hs, rfl⟩⟩
theorem beq_b (b : Bool) : (b == b) = true := by cases b <;> rfl
set_option maxRecDepth 100000 in
set_option maxHeartbeats 4000000 in
theorem Tells_of (hR : RPutH) (w : World) (hp : Pr w) {v : Value} {ids : List Bs} (hv : StrsR w v ids) (hl : ids.length ≤ 140737488355328) (u : Value) (b : Bs) (hbl : b.length ≤ maxLen) (hb : Rb w u b) (id : Bs) (hid : id.length ≤ maxLen) :
    Calls Tryd.prog 3 #[v, u, SV id] w (BoolP true w) := by
  unfold maxLen at hbl hid
  have hplt := hp.lt
  have HH := Lib.hid (head_any w hp)
  have HG : Hid (∀ W, Below w.heap.size w W → Calls Tryd.prog 10 #[v] W (GrtP ids W)) := Lib.hid fun W hW => great_any (hv.below hW (Nat.le_refl _)) hl
  have HPut : Hid (∀ W, Below w.heap.size w W → Small ids → Calls Tryd.prog 11 #[v] W (PutPost ids W)) := Lib.hid fun W hW hs => Put_any (hp.below hW hplt) (hv.below hW (Nat.le_refl _)) (small_len hs).2 (small_len hs).1
  have HRPut : Hid (∀ W, Below w.heap.size w W → Small ids → Calls Tryd.prog 12 #[v] W (PutPost ids W)) := Lib.hid fun W hW hs => hR W v ids (hv.below hW (Nat.le_refl _)) (small_len hs).2 (small_len hs).1
  obtain ⟨Au, cu, rfl⟩ := hb.shape
  obtain ⟨n, hn⟩ : ∃ n, n = b.length := ⟨_, rfl⟩
  have HBv : Hid (Rb w (.slice Au n cu) b) := Lib.hid (by rw [hn]; exact hb)
  have HNm : Hid (n ≤ 20000 → ∀ W, Below w.heap.size w W → Calls Tryd.prog 33 #[.slice Au n cu] W (NmP b W)) := Lib.hid fun h W hW => Rnames_of W _ b (HBv.out.below hW (Nat.le_refl _)) (by rw [← hn]; omega) fun W' u ids _ hu h5 hs => hR W' u ids hu hs (by omega)
  have HFi : Hid (n ≤ 20000 → ∀ W, Below w.heap.size w W → Calls Tryd.prog 13 #[.slice Au n cu, .string ⟨id.toArray⟩] W (FndP (findB b id) W)) := Lib.hid fun h W hW => Find_any (hp.below hW hplt) (HBv.out.below hW (Nat.le_refl _)) (by rw [← hn]; omega) (by unfold maxLen; exact hid)
  have HRFi : Hid (n ≤ 20000 → ∀ W, Below w.heap.size w W → Calls Tryd.prog 14 #[.slice Au n cu, .string ⟨id.toArray⟩] W (FndP (findB b id) W)) := Lib.hid fun h W hW => RFind_of W _ b id (HNm.out h W hW)
  have HRi : Hid (n ≤ 20000 → ∀ W, Below w.heap.size w W → Calls Tryd.prog 15 #[.slice Au n cu] W (BoolP (readI b).isSome W)) := Lib.hid fun h W hW => Right_any (hp.below hW hplt) (HBv.out.below hW (Nat.le_refl _)) (by rw [← hn]; omega)
  have HRRi : Hid (n ≤ 20000 → ∀ W, Below w.heap.size w W → Calls Tryd.prog 16 #[.slice Au n cu] W (BoolP (readI b).isSome W)) := Lib.hid fun h W hW => RRight_of W _ b (HNm.out h W hW)
  have HAl : Hid (n ≤ 20000 → ∀ W, Below w.heap.size w W → Calls Tryd.prog 18 #[.slice Au n cu] W (AllPost (allB b) W)) := Lib.hid fun h W hW => All_any (hp.below hW hplt) (HBv.out.below hW (Nat.le_refl _)) (by rw [← hn]; omega)
  have HRAl : Hid (n ≤ 20000 → ∀ W, Below w.heap.size w W → Calls Tryd.prog 19 #[.slice Au n cu] W (AllPost (allB b) W)) := Lib.hid fun h W hW => RAll_of W _ b (HBv.out.below hW (Nat.le_refl _)) (by rw [← hn]; omega) (HNm.out h W hW)
  have HAb : Hid ((allB b).length ≤ 1000000) := Lib.hid (by
    cases hr : readI b with
    | none => rw [allB_none hr]; exact Nat.zero_le _
    | some rows => rw [allB_some hr]; unfold allI; rw [List.length_map]; have := (readI_iff.1 hr).few; omega)
  obtain ⟨A, c, rfl⟩ := hv.shape
  obtain ⟨N, hN⟩ : ∃ N, N = ids.length := ⟨_, rfl⟩
  rw [← hN] at HG HPut HRPut hl ⊢
  rw [← hn] at hbl ⊢
  obtain ⟨rb, hrb⟩ : ∃ rb, rb = (readI b).isSome := ⟨_, rfl⟩
  obtain ⟨fo, hfo⟩ : ∃ fo, fo = findB b id := ⟨_, rfl⟩
  obtain ⟨al, hal⟩ : ∃ al, al = allB b := ⟨_, rfl⟩
  rw [← hrb] at HRi HRRi
  rw [← hfo] at HFi HRFi
  rw [← hal] at HAl HRAl HAb
  have hbb := beq_b rb
  unfold SV
  clear hv hN hp hn hb hR hrb hfo hal HBv HNm
  go_enter Tryd.func3, Tryd.ntmps3
  go_wp2_with fail
  refine HH.out.mono ?_
  rintro e w1 ⟨rfl, l1⟩
  have L1 := Lib.hid l1
  clear l1
  go_wp2_with fail
  refine (HG.out w1 L1.out).mono ?_
  rintro e w2 ⟨g, rfl, l2, hsm⟩
  have L2 : Hid (Below w.heap.size w w2) := Lib.hid (L1.out.trans (l2.mono L1.out.size))
  clear l2
  cases g with
  | true =>
    clear hsm
    go_wp2_with fail
    go_ret
    exact ⟨rfl, L2.out⟩
  | false =>
    have HSm := Lib.hid (hsm rfl)
    clear hsm
    by_cases h2 : 20000 < n
    · have h2I : (20000 : Int) < (n : Int) := by omega
      go_wp2_with fail
      go_ret
      exact ⟨rfl, L2.out⟩
    · have h2I : ¬ (20000 : Int) < (n : Int) := by omega
      have hn2 : n ≤ 20000 := by omega
      by_cases h3 : 3000 < id.length
      · have h3I : (3000 : Int) < (id.length : Int) := by omega
        go_wp2_with fail
        go_ret
        exact ⟨rfl, L2.out⟩
      · have h3I : ¬ (3000 : Int) < (id.length : Int) := by omega
        have HPt := Lib.hid (HPut.out w2 L2.out HSm.out)
        clear h2 h3
        go_wp2_with fail
        refine HPt.out.mono ?_
        rintro e w3 hh
        obtain ⟨l3, A3, N3, c3, n3, bs, rfl, hr3, ho3⟩ := put_out hh
        have L3 : Hid (Below w.heap.size w w3) := Lib.hid (L2.out.trans (l3.mono L2.out.size))
        have HP3 := Lib.hid (HRPut.out w3 L3.out HSm.out)
        have HR3 := Lib.hid hr3; have HO3 := Lib.hid ho3
        clear l3 HPt hh hr3 ho3
        go_wp2_with fail
        refine HP3.out.mono ?_
        rintro e w4 hh
        obtain ⟨l4, A4, N4, c4, n4, bs4, rfl, hr4, ho4⟩ := put_out hh
        obtain ⟨rfl, rfl⟩ := HO3.out.uniq ho4
        have L4 : Hid (Below w.heap.size w w4) := Lib.hid (L3.out.trans (l4.mono L3.out.size))
        have HR34 : Hid (Rb w4 (.slice A3 N3 c3) bs) := Lib.hid (HR3.out.below l4 (Nat.le_refl _))
        have HR4 := Lib.hid hr4
        clear l4 hh hr4 ho4 HP3 HO3
        go_wp2_with fail
        refine (HFi.out hn2 w4 L4.out).mono ?_
        rintro e w5 ⟨rfl, l5⟩
        have L5 : Hid (Below w4.heap.size w4 w5) := Lib.hid l5
        have L5w : Hid (Below w.heap.size w w5) := Lib.hid (L4.out.trans (l5.mono L4.out.size))
        clear l5
        have hee := eqn n3
        cases fo
        case' none => unfold findV; go_wp2_with fail
        case' some p => unfold findV; have hpp := eqn p; go_wp2_with fail
        all_goals
          refine (HRFi.out hn2 w5 L5w.out).mono ?_
          rintro e w6 ⟨rfl, l6⟩
          have L56 : Below w4.heap.size w4 w6 := L5.out.trans (l6.mono L5.out.size)
          have L6 : Hid (Below w.heap.size w w6) := Lib.hid (L4.out.trans (L56.mono L4.out.size))
          have HC1 := Lib.hid (Rb.conv (HR34.out.below L56 (Nat.le_refl _))); have HC2 := Lib.hid (Rb.conv (HR4.out.below L56 (Nat.le_refl _)))
          clear l6 L56
          unfold findV
          go_wp2_with (first
            | (refine wpList_run (by kernel_rfl) (.string ⟨bs.toArray⟩) w6 (y_conv (s := .tmp 54) (x := .slice A3 N3 c3) rfl (by kernel_rfl) HC1.out) ?_)
            | (refine wpList_run (by kernel_rfl) (.string ⟨bs.toArray⟩) w6 (y_conv (s := .tmp 56) (x := .slice A4 N4 c4) rfl (by kernel_rfl) HC2.out) ?_))
          refine (HRi.out hn2 w6 L6.out).mono ?_
          rintro e w7 ⟨rfl, l7⟩
          have L7 : Hid (Below w.heap.size w w7) := Lib.hid (L6.out.trans (l7.mono L6.out.size))
          clear l7
          go_wp2_with fail
          refine (HRRi.out hn2 w7 L7.out).mono ?_
          rintro e w8 ⟨rfl, l8⟩
          have L8 : Hid (Below w.heap.size w w8) := Lib.hid (L7.out.trans (l8.mono L7.out.size))
          clear l8
          go_wp2_with fail
          refine (HAl.out hn2 w8 L8.out).mono ?_
          rintro e w9 ⟨l9, v9, rfl, ho9⟩
          have L9 : Hid (Below w.heap.size w w9) := Lib.hid (L8.out.trans (l9.mono L8.out.size))
          have HO9 : Hid (StrsR w9 v9 al) := Lib.hid (own_rd (f := strC) (k := 1) (fun _ => rfl) ho9)
          clear l9 ho9
          go_wp2_with fail
          refine (HRAl.out hn2 w9 L9.out).mono ?_
          rintro e w10 ⟨l10, v10, rfl, ho10⟩
          have L10 : Hid (Below w.heap.size w w10) := Lib.hid (L9.out.trans (l10.mono L9.out.size))
          have hs := SameTexts_any (HO9.out.below l10 (Nat.le_refl _)) (own_rd (f := strC) (k := 1) (fun _ => rfl) ho10) HAb.out
          have hdt : decide (al = al) = true := decide_eq_true rfl
          rw [hdt] at hs
          have HS := Lib.hid hs
          clear l10 ho10 hs hdt
          go_wp2_with fail
          refine HS.out.mono ?_
          rintro e w11 ⟨rfl, l11⟩
          have L11 : Hid (Below w.heap.size w w11) := Lib.hid (L10.out.trans (l11.mono L10.out.size))
          clear l11
          go_wp2_with fail
          go_ret
          exact ⟨rfl, L11.out⟩
theorem Tells_law (w : World) (hp : Pr w) {v : Value} {ids : List Bs} (hv : StrsR w v ids) (hl : ids.length ≤ 140737488355328) (u : Value) (b : Bs) (hbl : b.length ≤ maxLen) (hb : Rb w u b) (id : Bs) (hid : id.length ≤ maxLen) :
    Calls Tryd.prog 3 #[v, u, SV id] w (BoolP true w) :=
  Tells_of (fun W u ids h1 h2 h3 => RPut_any W u ids h1 h2 h3) w hp hv hl u b hbl hb id hid
end Go.Proofs.YtdjmcehoaneekaaDoor.Ix
