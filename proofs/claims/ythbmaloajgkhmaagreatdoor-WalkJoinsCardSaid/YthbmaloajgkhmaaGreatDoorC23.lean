/-
  The library's stable sort, of any length.
  The document's Right, Id, Wants; ObjectTells, walked.
-/
import Derived.Test.YthbmaloajgkhmaaGreatDoorC21
import Derived.Test.YthbmaloajgkhmaaGreatDoorC22
import Derived.Test.YthbmaloajgkhmaaGreatDoorC20
import Derived.Test.YthbmaloajgkhmaaGreatDoorC19
import Derived.Test.YthbmaloajgkhmaaGreatDoorC12

namespace Go.Proofs.YthbmaloajgkhmaaGreatDoor
open Go Go.RowKit Go.Maps Go.Sort

theorem symMerge_any {B g c n : Nat} (hn : n ≤ 1000000) : ∀ (N : Nat) (w : World) (p A Bl r : List Hld) (a m b : Nat), A.length + Bl.length ≤ N → 0 < A.length → 0 < Bl.length → SortedH A → SortedH Bl → NewH B w (.slice (some ⟨g, 0, none⟩) n c) (p ++ (A ++ (Bl ++ r))) → a = p.length → m = a + A.length → b = m + Bl.length →
    Calls Tryz.prog 87 #[.slice (some ⟨g, 0, none⟩) n c, .int .i64 (a : Int), .int .i64 (m : Int), .int .i64 (b : Int), .func (.func 37) #[] #[]] w (MergePost B g c n p A Bl r w)
  | 0, w, p, A, Bl, r, a, m, b, hN, h1, h2, hA, hB, h, ha, hm, hb => by omega
  | N + 1, w, p, A, Bl, r, a, m, b, hN, h1, h2, hA, hB, h, ha, hm, hb => by
    by_cases hA1 : A.length = 1
    · obtain ⟨x, rfl⟩ := List.length_eq_one_iff.1 hA1
      exact merge_left h2 hB h hn ha hm hb
    · by_cases hB1 : Bl.length = 1
      · obtain ⟨y, rfl⟩ := List.length_eq_one_iff.1 hB1
        exact merge_right (by omega) hA h hn ha hm hb
      · exact merge_gen (by omega) (by omega) hA hB h hn ha hm hb fun w' p' A' B' r' a' m' b' k1 k2 k3 k4 k5 k6 k7 k8 k9 => symMerge_any hn N w' p' A' B' r' a' m' b' (by omega) k2 k3 k4 k5 k6 k7 k8 k9
def SegPost (B g c n : Nat) (p x r : List Hld) (w : World) (e : Ending) (w' : World) : Prop := e = .returned (.tuple #[]) ∧ ∃ y, Stab x y ∧ NewH B w' (.slice (some ⟨g, 0, none⟩) n c) (p ++ (y ++ r)) ∧ But (fun q => q = g) w w'
theorem ins_seg {w : World} {B g c n a b : Nat} {p x r : List Hld} (h : NewH B w (.slice (some ⟨g, 0, none⟩) n c) (p ++ (x ++ r))) (hn : n ≤ 1000000) (ha : a = p.length) (hb : b = a + x.length) :
    Calls Tryz.prog 86 #[.slice (some ⟨g, 0, none⟩) n c, .int .i64 (a : Int), .int .i64 (b : Int), .func (.func 37) #[] #[]] w (SegPost B g c n p x r w) := by
  obtain ⟨cur, hnl, hB, hg, r1, r2, r3, hc⟩ := cells_of_own h
  subst hnl
  have hi := ins_any (c := c) hg hc a b (by omega) (by rw [List.length_append, List.length_append]; omega) hn
  refine hi.mono ?_
  rintro e w' ⟨rfl, k, os, rfl⟩
  obtain ⟨y, hy, hst⟩ := insertion_blk p x r
  rw [← ha, ← hb] at hy
  refine ⟨rfl, y, hst, ?_, (but_sortedK _).mono fun q _ e => (Option.some.inj e).symm⟩
  have hsz : (insertionSort ltH (p ++ (x ++ r)).toArray a b).size = (p ++ (x ++ r)).length := by
    have := congrArg List.length hy
    rw [Array.length_toList] at this
    rw [this, List.length_append, List.length_append, List.length_append, List.length_append, hst.perm.length_eq]
  have := own_sortedK (n := k) h (insertionSort ltH (p ++ (x ++ r)).toArray a b) hsz os
  rw [hy] at this
  exact this
theorem cutH_two (m : List Hld) (a s : Nat) : m = m.take a ++ ((m.drop a).take s ++ m.drop (a + s)) := by
  have e2 : m.drop a = (m.drop a).take s ++ m.drop (a + s) := by rw [← List.drop_drop (i := s) (j := a)]; exact (List.take_append_drop _ _).symm
  rw [← e2, List.take_append_drop]
theorem cutH_one (m : List Hld) (a : Nat) : m = m.take a ++ (m.drop a ++ []) := by rw [List.append_nil, List.take_append_drop]
set_option maxHeartbeats 4000000 in
set_option maxRecDepth 100000 in
theorem sort_nil {w : World} {B : Nat} : SortOk B [] (.slice none 0 0) w := by
  unfold SortOk
  have HI : Hid (∀ W, Calls Tryz.prog 86 #[.slice none 0 0, .int .i64 0, .int .i64 0, .func (.func 37) #[] #[]] W fun e w' => e = .returned (.tuple #[]) ∧ W = w') := Lib.hid fun W => by
    go_enter Tryz.func86, Tryz.ntmps86
    go_wp2_with fail
    refine wp_loop_rounds 1 ?_
    rw [rounds_succ]
    go_wp2_with fail
    go_end0
    exact ⟨rfl, rfl⟩
  go_enter Tryz.func59, Tryz.ntmps59
  go_wp2_with fail
  refine wp_loop_rounds 1 ?_
  rw [rounds_succ]
  go_wp2_with fail
  refine (HI.out _).mono ?_
  rintro e w2 ⟨rfl, rfl⟩
  go_wp2_with fail
  refine wp_loop_rounds 1 ?_
  rw [rounds_succ]
  go_wp2_with fail
  go_end0
  exact ⟨rfl, [], Stab.nil, World.ownsRow_nil _ _ _ _, But.refl _ _⟩
set_option maxHeartbeats 8000000 in
set_option maxRecDepth 100000 in
theorem sort_big {w : World} {B g c n : Nat} {l : List Hld} (h : NewH B w (.slice (some ⟨g, 0, none⟩) n c) l) (hnl : n = l.length) (h20 : 20 ≤ n) (hn : n ≤ 1000000) : Calls Tryz.prog 59 #[.slice (some ⟨g, 0, none⟩) n c, .int .i64 (n : Int), .func (.func 37) #[] #[]] w (SortPost B l (.slice (some ⟨g, 0, none⟩) n c) w) := by
  have H := Lib.hid h; have HN := Lib.hid hnl
  have HIns : Hid (∀ W p x r a b, NewH B W (.slice (some ⟨g, 0, none⟩) n c) (p ++ (x ++ r)) → a = p.length → b = a + x.length → Calls Tryz.prog 86 #[.slice (some ⟨g, 0, none⟩) n c, .int .i64 (a : Int), .int .i64 (b : Int), .func (.func 37) #[] #[]] W (SegPost B g c n p x r W)) := Lib.hid fun W p x r a b h1 h2 h3 => ins_seg h1 hn h2 h3
  have HMer : Hid (∀ W p A Bl r a m b, 0 < A.length → 0 < Bl.length → SortedH A → SortedH Bl → NewH B W (.slice (some ⟨g, 0, none⟩) n c) (p ++ ((A ++ Bl) ++ r)) → a = p.length → m = a + A.length → b = m + Bl.length → Calls Tryz.prog 87 #[.slice (some ⟨g, 0, none⟩) n c, .int .i64 (a : Int), .int .i64 (m : Int), .int .i64 (b : Int), .func (.func 37) #[] #[]] W (MergePost B g c n p A Bl r W)) := Lib.hid fun W p A Bl r a m b k1 k2 k3 k4 k5 k6 k7 k8 => symMerge_any hn _ W p A Bl r a m b (Nat.le_refl _) k1 k2 k3 k4 (by rw [List.append_assoc] at k5; exact k5) k6 k7 k8
  clear h hnl
  go_enter Tryz.func59, Tryz.ntmps59
  go_wp2_with fail
  go_loopw [7, 8] (fun av bv wr => ∃ (a k : Nat) (m : List Hld), a ≤ n ∧ av = .int .i64 a ∧ bv = .int .i64 ((a + 20 : Nat) : Int) ∧ Hid (a = k * 20) ∧ Hid (Ini 20 k l m) ∧ Hid (NewH B wr (.slice (some ⟨g, 0, none⟩) n c) m) ∧ Hid (But (fun q => q = g) w wr)) (fun av _ _ => n - (intOf av).toNat)
  case atStart => exact ⟨0, 0, l, Nat.zero_le _, rfl, rfl, Lib.hid (by omega), Lib.hid (Ini.start 20 l), H, Lib.hid (But.refl _ _)⟩
  case round =>
    clear H
    obtain ⟨a, k, m, han, rfl, rfl, hak, hI, hN, hBt⟩ := hrel
    have hml : m.length = n := by rw [hI.out.len, HN.out]
    by_cases hlt : a + 20 ≤ n
    · obtain ⟨p, hp⟩ : ∃ x, x = m.take a := ⟨_, rfl⟩
      obtain ⟨x, hx⟩ : ∃ y, y = (m.drop a).take 20 := ⟨_, rfl⟩
      obtain ⟨r, hr⟩ : ∃ x, x = m.drop (a + 20) := ⟨_, rfl⟩
      have hc := cutH_two m a 20
      rw [← hp, ← hx, ← hr] at hc
      have hpl : p.length = a := by rw [hp, List.length_take]; omega
      have hxl : x.length = 20 := by rw [hx, List.length_take, List.length_drop]; omega
      obtain ⟨b, hb⟩ : ∃ b, b = a + 20 := ⟨_, rfl⟩
      have HC := Lib.hid (HIns.out wr p x r a b (by rw [← hc]; exact hN.out) hpl.symm (by rw [hb, hxl]))
      have HI2 : Hid (∀ y, Stab x y → Ini 20 (k + 1) l (p ++ (y ++ r))) := Lib.hid fun y hy => Ini.step (by rw [← hc]; exact hI.out) (by rw [hpl, hak.out]) (.inl hxl) hy
      have hbI : (b : Int) ≤ (n : Int) := by omega
      have hbn : b ≤ n := by omega
      have HB := Lib.hid hb
      rw [← hb]
      have HAK : Hid (b = (k + 1) * 20) := Lib.hid (by rw [hb, hak.out]; omega)
      have HBt := Lib.hid hBt.out
      have hba : a < b := by omega
      have w1 : IntKind.i64.wrap ((b : Int) + 20) = ((b + 20 : Nat) : Int) := by rw [show ((b : Int) + 20) = ((b + 20 : Nat) : Int) by omega]; exact IntWalk.i64_in _ (by omega)
      clear hp hx hr hc hpl hxl hb hI hN hBt hml hlt hak
      go_wp2_with fail
      refine HC.out.mono ?_
      rintro e w2 ⟨rfl, y, hst, n2, b2⟩
      have HN2 := Lib.hid n2; have HB2 := Lib.hid (HBt.out.trans b2); have HI3 := Lib.hid (HI2.out y hst)
      clear n2 b2 hst HC HI2 HBt
      go_wp2_with fail
      go_roundw
      case rel => exact ⟨b, k + 1, _, hbn, rfl, by first | rfl | go_num, HAK, HI3, HN2, HB2⟩
      case measure => simp [intOf]; omega
    have hc := cutH_one m a
    have hpl : (m.take a).length = a := by rw [List.length_take]; omega
    have hxl : (m.drop a).length = n - a := by rw [List.length_drop, hml]
    have HC := Lib.hid (HIns.out wr (m.take a) (m.drop a) [] a n (by rw [← hc]; exact hN.out) hpl.symm (by rw [hxl]; omega))
    have HP2 : Hid (∀ y, Stab (m.drop a) y → Parts 20 l (m.take a ++ (y ++ []))) := Lib.hid fun y hy => Ini.parts (Ini.step (k := k) (by rw [← hc]; exact hI.out) (by rw [hpl, hak.out]) (.inr ⟨rfl, by rw [hxl]; omega⟩) hy) (by rw [← HN.out]; have := hak.out; omega)
    have hbI : ¬ ((a + 20 : Nat) : Int) ≤ (n : Int) := by omega
    have HBt := Lib.hid hBt.out
    clear hc hpl hxl hI hN hBt hml hlt hak
    go_wp2_with fail
    refine HC.out.mono ?_
    rintro e w2 ⟨rfl, y, hst, n2, b2⟩
    have HN2 := Lib.hid n2; have HB2 := Lib.hid (HBt.out.trans b2); have HP3 := Lib.hid (HP2.out y hst)
    clear n2 b2 hst HC HP2 HBt hbI
    go_wp2_with fail
    go_loopw [6, 7, 8, 9] (fun sv _ _ _ wr => ∃ (s : Nat) (m : List Hld), 20 ≤ s ∧ s ≤ 2 * n ∧ sv = .int .i64 s ∧ Hid (Parts s l m) ∧ Hid (NewH B wr (.slice (some ⟨g, 0, none⟩) n c) m) ∧ Hid (But (fun q => q = g) w wr)) (fun sv _ _ _ _ => n - (intOf sv).toNat)
    case atStart => exact ⟨20, _, Nat.le_refl _, by omega, rfl, HP3, HN2, HB2⟩
    case round =>
      clear HP3 HN2 HB2
      obtain ⟨s, m, hs20, hs2n, rfl, hP, hN, hBt⟩ := hrel
      by_cases hlt : s < n
      · obtain ⟨s2, hs2⟩ : ∃ x, x = 2 * s := ⟨_, rfl⟩
        have w1 : IntKind.i64.wrap (2 * (s : Int)) = (s2 : Int) := by rw [show (2 * (s : Int)) = (s2 : Int) by omega]; exact IntWalk.i64_in _ (by omega)
        have w2 : IntKind.i64.wrap ((s : Int) * 2) = (s2 : Int) := by rw [show ((s : Int) * 2) = (s2 : Int) by omega]; exact IntWalk.i64_in _ (by omega)
        have hsI : (s : Int) < (n : Int) := by omega
        have hs2b : s2 ≤ 2 * n := by omega
        have hs2c : s < s2 := by omega
        have HS2 := Lib.hid hs2
        have HM0 := Lib.hid hP.out.mix
        have HN0 := Lib.hid hN.out; have HBt0 := Lib.hid hBt.out
        clear hs2 hP hN hBt hlt
        go_wp2_with fail
        generalize wr = wq at HN0 HBt0 ⊢
        go_loopw [7, 8] (fun av bv wr => ∃ (a b k : Nat) (m : List Hld), a ≤ n ∧ av = .int .i64 a ∧ bv = .int .i64 b ∧ b ≤ a + s2 ∧ Hid (b = a + s2) ∧ Hid (a = k * (2 * s)) ∧ Hid (Mix s k l m) ∧ Hid (NewH B wr (.slice (some ⟨g, 0, none⟩) n c) m) ∧ Hid (But (fun q => q = g) w wr)) (fun av _ _ => n - (intOf av).toNat)
        case atStart => exact ⟨0, s2, 0, m, Nat.zero_le _, rfl, rfl, by omega, Lib.hid (by omega), Lib.hid (by omega), HM0, HN0, HBt0⟩
        case round =>
          clear HN0 HBt0 HM0
          obtain ⟨a, b, k, m, han, rfl, rfl, hbb, hb, hak, hM, hN, hBt⟩ := hrel
          have hml : m.length = n := by rw [hM.out.len, HN.out]
          have h2s := HS2.out
          have hka : 2 * k * s = a := by rw [hak.out, ← Nat.mul_assoc, Nat.mul_comm k 2]
          have hka2 : (2 * k + 1) * s = a + s := by rw [Nat.add_mul, Nat.one_mul, hka]
          obtain ⟨hso1, hso2⟩ := hM.out.sorted
          unfold chunkL at hso1 hso2
          rw [hka] at hso1
          rw [hka2] at hso2
          obtain ⟨p, hp⟩ : ∃ x, x = m.take a := ⟨_, rfl⟩
          obtain ⟨A, hA⟩ : ∃ y, y = (m.drop a).take s := ⟨_, rfl⟩
          obtain ⟨Bl, hBl⟩ : ∃ y, y = (m.drop (a + s)).take s := ⟨_, rfl⟩
          obtain ⟨r, hr⟩ : ∃ x, x = m.drop (a + s + s) := ⟨_, rfl⟩
          have hc := cut_four m a s
          rw [← hp, ← hA, ← hBl, ← hr] at hc
          rw [← hA] at hso1
          rw [← hBl] at hso2
          have hpl : p.length = a := by rw [hp, List.length_take]; omega
          obtain ⟨q, hq⟩ : ∃ x, x = a + s := ⟨_, rfl⟩
          have w3 : IntKind.i64.wrap ((a : Int) + (s : Int)) = (q : Int) := by rw [show ((a : Int) + (s : Int)) = (q : Int) by omega]; exact IntWalk.i64_in _ (by omega)
          have hbe := hb.out
          by_cases hlt : b ≤ n
          · have hAl : A.length = s := by rw [hA, List.length_take, List.length_drop]; omega
            have hBll : Bl.length = s := by rw [hBl, List.length_take, List.length_drop]; omega
            have HC := Lib.hid (HMer.out wr p A Bl r a q b (by omega) (by omega) hso1 hso2 (by rw [← hc]; exact hN.out) hpl.symm (by omega) (by omega))
            have HM2 : Hid (∀ M, Stab (A ++ Bl) M → Mix s (k + 1) l (p ++ (M ++ r))) := Lib.hid fun M hM2 => Mix.step (by rw [← hc]; exact hM.out) (by rw [hpl, hak.out]) hAl (.inl hBll) hM2
            have HAK : Hid (b = (k + 1) * (2 * s)) := Lib.hid (by rw [Nat.add_mul, Nat.one_mul, ← hak.out]; omega)
            have hbI : (b : Int) ≤ (n : Int) := by omega
            have w4 : IntKind.i64.wrap ((b : Int) + (s2 : Int)) = ((b + s2 : Nat) : Int) := by rw [show ((b : Int) + (s2 : Int)) = ((b + s2 : Nat) : Int) by omega]; exact IntWalk.i64_in _ (by omega)
            have hab : a < b := by omega
            have HBt := Lib.hid hBt.out
            clear hp hA hBl hr hc hpl hq hAl hBll hM hN hBt hml h2s hka hka2 hso1 hso2 hbe hb hak
            go_wp2_with fail
            refine HC.out.mono ?_
            rintro e w2 ⟨rfl, M, hst, n2, b2⟩
            have HN2 := Lib.hid n2; have HB2 := Lib.hid (HBt.out.trans b2); have HM3 := Lib.hid (HM2.out M hst)
            clear n2 b2 hst HC HM2 HBt
            go_wp2_with fail
            go_roundw
            case rel => exact ⟨b, b + s2, k + 1, _, hlt, rfl, rfl, Nat.le_refl _, Lib.hid rfl, HAK, HM3, HN2, HB2⟩
            case measure => simp [intOf]; omega
          have hbI : ¬ (b : Int) ≤ (n : Int) := by omega
          have HBt := Lib.hid hBt.out
          by_cases hqn : q < n
          · have hqI : (q : Int) < (n : Int) := by omega
            have hAl : A.length = s := by rw [hA, List.length_take, List.length_drop]; omega
            have hBll : Bl.length = n - q := by rw [hBl, List.length_take, List.length_drop]; omega
            have hr0 : r = [] := by rw [hr]; exact List.drop_of_length_le (by omega)
            have HC := Lib.hid (HMer.out wr p A Bl r a q n (by omega) (by omega) hso1 hso2 (by rw [← hc]; exact hN.out) hpl.symm (by omega) (by omega))
            have HM2 : Hid (∀ M, Stab (A ++ Bl) M → Parts s2 l (p ++ (M ++ r))) := Lib.hid fun M hM2 => by
              have h := (Mix.step (k := k) (by rw [← hc]; exact hM.out) (by rw [hpl, hak.out]) hAl (.inr ⟨hr0, by omega⟩) hM2).parts (by rw [← HN.out, Nat.add_mul, Nat.one_mul, ← hak.out]; omega)
              rw [← h2s] at h; exact h
            clear hp hA hBl hr hc hpl hq hAl hBll hM hN hBt hml h2s hka hka2 hso1 hso2 hbe hb hak hr0
            go_wp2_with fail
            refine HC.out.mono ?_
            rintro e w2' ⟨rfl, M, hst, n2, b2⟩
            have HN2 := Lib.hid n2; have HB2 := Lib.hid (HBt.out.trans b2); have HM3 := Lib.hid (HM2.out M hst)
            clear n2 b2 hst HC HM2 HBt
            go_wp2_with fail
            go_roundw
            case rel => exact ⟨s2, _, by omega, hs2b, rfl, HM3, HN2, HB2⟩
            case measure => simp [intOf]; omega
          · have hqI : ¬ (q : Int) < (n : Int) := by omega
            have HM3 : Hid (Parts s2 l m) := Lib.hid (by
              have h := hM.out.parts (by rw [← HN.out, ← hak.out]; omega)
              rw [← h2s] at h; exact h)
            have HN2 := Lib.hid hN.out
            clear hp hA hBl hr hc hpl hq hM hN hBt hml h2s hka hka2 hso1 hso2 hbe hb hak
            go_wp2_with fail
            go_roundw
            case rel => exact ⟨s2, m, by omega, hs2b, rfl, HM3, HN2, HBt⟩
            case measure => simp [intOf]; omega
      · have hst := hP.out.all (by rw [← HN.out]; omega)
        have HSt := Lib.hid hst
        have hsI : ¬ (s : Int) < (n : Int) := by omega
        clear hst hP
        go_wp2_with fail
        go_end0
        exact ⟨rfl, m, HSt.out, hN.out, hBt.out.mono fun q _ e => by rw [e]; rfl⟩
/-- The library's stable sort does its work, whatever the length. -/
theorem sort_any {w : World} {B : Nat} {v : Value} {l : List Hld} (h : NewH B w v l) (hl : l.length ≤ 1000000) : SortOk B l v w := by
  rcases h.2 with ⟨rfl, hz⟩ | ⟨g, cap, cur, rfl, _⟩
  · obtain rfl : l = [] := List.eq_nil_of_length_eq_zero hz
    exact sort_nil
  · by_cases h20 : l.length < 20
    · exact sort_small h h20
    · exact sort_big h rfl (by omega) hl
end Go.Proofs.YthbmaloajgkhmaaGreatDoor


namespace Go.Proofs.YthbmaloajgkhmaaGreatDoor
open Go Go.RowKit Go.Shelf
def dd0 (m : Nat) : List UInt8 := if m = 0 then [] else Lib.decDigits m
theorem dd0_step {m : Nat} (h : 0 < m) : dd0 (m / 10) ++ [UInt8.ofNat (48 + m % 10)] = dd0 m := by
  unfold dd0
  rw [if_neg (show ¬ m = 0 by omega)]
  by_cases h10 : m < 10
  · rw [if_pos (by omega), dd_lo h10, Nat.mod_eq_of_lt h10]; rfl
  · rw [if_neg (by omega), dd_hi (u := m) (by omega)]
theorem dd_step (n : Nat) : dd0 (n / 10) ++ [UInt8.ofNat (48 + n % 10)] = Lib.decDigits n := by
  by_cases h : n = 0
  · subst h; rw [dd_zero]; rfl
  · rw [dd0_step (by omega)]; unfold dd0; rw [if_neg h]
theorem conv_one (w : World) (c : UInt8) : (convert 57 9 (.slice (some ⟨w.heap.size, 0, none⟩) 1 1)).run Tryz.prog (w.alloc (.cells #[.int .u8 (c.toNat : Int)] 5)) = .ok (.string ⟨([c] : List UInt8).toArray⟩) (w.alloc (.cells #[.int .u8 (c.toNat : Int)] 5)) := (rb_one w c).conv
set_option maxRecDepth 100000 in
set_option maxHeartbeats 1000000 in
theorem RText_nat (n : Nat) (h1 : n ≤ 9223372036854775807) (w : World) :
    Calls Tryz.prog 28 #[.int .i64 (n : Int)] w fun e w' => e = .returned (SV (Lib.decDigits n)) ∧ Below w.heap.size w w' := by
  have HL : Hid ((Lib.decDigits n).length ≤ 20) := Lib.hid (by rw [Lib.decDigits_length]; exact nd_len 19 n (Nat.lt_of_le_of_lt h1 (by decide)))
  have HS := Lib.hid (dd_step n)
  generalize Lib.decDigits n = D at HL HS ⊢
  unfold SV
  obtain ⟨x, hx⟩ : ∃ x, x = UInt8.ofNat (48 + n % 10) := ⟨_, rfl⟩
  have gx : IntKind.u8.wrap (48 + (n : Int) % 10) = (x.toNat : Int) := by rw [hx, byte_of (by omega), IntKind.wrap_u8']; omega
  have gx2 : 48 + (n : Int) % 10 = (x.toNat : Int) := by rw [hx, byte_of (by omega)]; omega
  have hcv := conv_one w x
  have L0 : Hid (Below w.heap.size w (w.alloc (.cells #[.int .u8 (x.toNat : Int)] 5))) := Lib.hid (below_new w _)
  rw [← hx] at HS
  clear hx
  go_enter Tryz.func28, Tryz.ntmps28
  go_wp2
  clear gx gx2 hcv
  go_loopw [0, 3] (fun vn vo wr => ∃ (m : Nat) (r : List UInt8), m ≤ 9223372036854775807 ∧ vn = .int .i64 m ∧ vo = .string ⟨r.toArray⟩ ∧ Hid (dd0 m ++ r = D) ∧ Below w.heap.size w wr) (fun vn _ _ => (intOf vn).toNat)
  case atStart => exact ⟨n / 10, [x], by omega, by go_num, rfl, HS, L0.out⟩
  case round =>
    obtain ⟨m, r, hm, rfl, rfl, hD, hb⟩ := hrel
    have hr20 : r.length ≤ 20 := by have := HL.out; rw [← hD.out, List.length_append] at this; omega
    by_cases hlt : 0 < m
    · obtain ⟨x, hx⟩ : ∃ x, x = UInt8.ofNat (48 + m % 10) := ⟨_, rfl⟩
      have gx : IntKind.u8.wrap (48 + (m : Int) % 10) = (x.toNat : Int) := by rw [hx, byte_of (by omega), IntKind.wrap_u8']; omega
      have gx2 : 48 + (m : Int) % 10 = (x.toNat : Int) := by rw [hx, byte_of (by omega)]; omega
      have hcv := conv_one wr x
      have L1 : Hid (Below w.heap.size w (wr.alloc (.cells #[.int .u8 (x.toNat : Int)] 5))) := Lib.hid (hb.alloc hb.size _)
      have happ : (⟨([x] : List UInt8).toArray⟩ : ByteArray) ++ (⟨r.toArray⟩ : ByteArray) = ⟨(x :: r).toArray⟩ := append_S [x] r
      have HD : Hid (dd0 (m / 10) ++ (x :: r) = D) := Lib.hid (by rw [← hD.out, ← dd0_step hlt, hx, List.append_assoc]; rfl)
      clear hx hb hD
      go_wp2
      go_roundw
      case rel => exact ⟨m / 10, x :: r, by omega, by go_num, rfl, HD.out, L1.out⟩
      case measure => simp [intOf]; omega
    · have HD : Hid (r = D) := Lib.hid (by have := hD.out; rw [show m = 0 by omega] at this; exact this)
      have hle : ¬ (0 : Int) < (m : Int) := by omega
      clear hD hlt
      go_wp2
      go_ret
      exact ⟨by rw [HD.out]; rfl, hb⟩
set_option maxHeartbeats 400000 in
theorem RText_any (n : Int) (h1 : n ≤ 9223372036854775807) (w : World) :
    Calls Tryz.prog 28 #[.int .i64 n] w fun e w' => e = .returned (SV (textL n)) ∧ Below w.heap.size w w' := by
  by_cases h : n < 0
  · rw [show textL n = [] from if_pos h]
    unfold SV
    go_enter Tryz.func28, Tryz.ntmps28
    go_wp2
    go_ret
    exact ⟨rfl, Below.refl _ _⟩
  · obtain ⟨m, rfl⟩ := Int.eq_ofNat_of_zero_le (show 0 ≤ n by omega)
    rw [textL_nat]
    exact RText_nat m (by omega) w
/-- What lies in an object's box. -/
theorem obj_box (w : World) (k : Int) (d : List UInt8) (W : World) (hW : Below (w.alloc (.cells #[.int .i64 k, .string ⟨d.toArray⟩] 26)).heap.size (w.alloc (.cells #[.int .i64 k, .string ⟨d.toArray⟩] 26)) W) :
    W.cell? ⟨w.heap.size, 0, none⟩ = some (.int .i64 k) ∧ W.cell? ⟨w.heap.size, 1, none⟩ = some (.string ⟨d.toArray⟩) :=
  ⟨(hW.cell (p := ⟨w.heap.size, 0, none⟩) (by simp)).trans (by simp), (hW.cell (p := ⟨w.heap.size, 1, none⟩) (by simp)).trans (by simp)⟩
set_option maxRecDepth 100000 in
set_option maxHeartbeats 4000000 in
theorem RRight_any (k : Int) (d : List UInt8) (hs : d.length ≤ 100000) (w : World) : Calls Tryz.prog 25 #[.agg #[.int .i64 k, .string ⟨d.toArray⟩]] w (RetBelow (.bool (wantsO k d).isSome) w) := by
  have HB := Lib.hid (below_new w (.cells #[.int .i64 k, .string ⟨d.toArray⟩] 26))
  by_cases hd : d.length ≤ 65536
  case neg =>
    have HF : Hid ((wantsO k d).isSome = false) := Lib.hid (by rw [wantsO_over d k hd]; rfl)
    have hd2 : 65536 < (d.length : Int) := by omega
    go_enter Tryz.func25, Tryz.ntmps25
    go_wp2_with fail
    go_ret
    exact ⟨ret_bool HF.out.symm, HB.out⟩
  have hd2 : ¬ 65536 < (d.length : Int) := by omega
  have HI := Lib.hid (wantsO_in d k hd)
  by_cases h1 : k = 1
  · have HF : Hid ((wantsO k d).isSome = true) := Lib.hid (by rw [HI.out, if_pos h1]; rfl)
    subst h1
    go_enter Tryz.func25, Tryz.ntmps25
    go_wp2_with fail
    go_ret
    exact ⟨ret_bool HF.out.symm, HB.out⟩
  have b1 : (k == 1) = false := by simpa using h1
  by_cases h2 : k = 2
  · have HF : Hid ((wantsO k d).isSome = (getT d).isSome) := Lib.hid (by rw [HI.out, if_neg h1, if_pos h2, Option.isSome_map])
    have HG := Lib.hid (fun W => RGetTree_any d hs W)
    subst h2
    go_enter Tryz.func25, Tryz.ntmps25
    go_wp2_with fail
    refine (HG.out _).mono ?_
    rintro e w1 ⟨⟨v, l, rfl, hr, hl⟩, l1⟩
    obtain ⟨A, c, rfl⟩ := hr.shape
    have L1 := Lib.hid (HB.out.trans (l1.mono HB.out.size))
    clear hr hl l1
    go_wp2_with fail
    go_ret
    exact ⟨ret_bool HF.out.symm, L1.out⟩
  have b2 : (k == 2) = false := by simpa using h2
  by_cases h3 : k = 3
  · have HF : Hid ((wantsO k d).isSome = (getC d).isSome) := Lib.hid (by rw [HI.out, if_neg h1, if_neg h2, if_pos h3, Option.isSome_map])
    have HG := Lib.hid (fun W => RGetChange_any d hs W)
    subst h3
    go_enter Tryz.func25, Tryz.ntmps25
    go_wp2_with fail
    refine (HG.out _).mono ?_
    rintro e w1 ⟨l1, c, vp, hr, he, hc⟩
    obtain ⟨A, ca, rfl⟩ := hr.shape
    obtain ⟨ct, cp, cw, cx⟩ := c
    unfold ChgV at he
    simp only at he
    subst he
    have L1 := Lib.hid ((HB.out.trans (l1.mono HB.out.size)).alloc (HB.out.trans (l1.mono HB.out.size)).size (.cells #[.string ⟨ct.toArray⟩, .slice A cp.length ca, .string ⟨cw.toArray⟩, .string ⟨cx.toArray⟩] 86))
    clear hr hc l1
    go_wp2_with fail
    go_ret
    exact ⟨ret_bool HF.out.symm, L1.out⟩
  have b3 : (k == 3) = false := by simpa using h3
  by_cases h4 : k = 4
  · have HF : Hid ((wantsO k d).isSome = (getL4 d).isSome) := Lib.hid (by rw [HI.out, if_neg h1, if_neg h2, if_neg h3, if_pos h4, Option.isSome_map])
    have HG := Lib.hid (fun W => RGetLabel_any d hs W)
    subst h4
    go_enter Tryz.func25, Tryz.ntmps25
    go_wp2_with fail
    refine (HG.out _).mono ?_
    rintro e w1 ⟨l1, he⟩
    obtain ⟨f, hf⟩ : ∃ f, f = (getL4 d).getD noLbl := ⟨_, rfl⟩
    rw [← hf] at he
    obtain ⟨fi, fk, fn, fx⟩ := f
    unfold LblV at he
    simp only at he
    subst he
    have L1 := Lib.hid ((HB.out.trans (l1.mono HB.out.size)).alloc (HB.out.trans (l1.mono HB.out.size)).size (.cells #[.string ⟨fi.toArray⟩, .int .i64 fk, .string ⟨fn.toArray⟩, .string ⟨fx.toArray⟩] 90))
    clear hf l1
    go_wp2_with fail
    go_ret
    exact ⟨ret_bool HF.out.symm, L1.out⟩
  have b4 : (k == 4) = false := by simpa using h4
  have HF : Hid ((wantsO k d).isSome = false) := Lib.hid (by rw [HI.out, if_neg h1, if_neg h2, if_neg h3, if_neg h4]; rfl)
  clear h1 h2 h3 h4
  go_enter Tryz.func25, Tryz.ntmps25
  go_wp2_with fail
  go_ret
  exact ⟨ret_bool HF.out.symm, HB.out⟩
set_option maxRecDepth 100000 in
set_option maxHeartbeats 4000000 in
theorem RId_any (k : Int) (d : List UInt8) (hs : d.length ≤ 70000) (w : World) : Calls Tryz.prog 14 #[.agg #[.int .i64 k, .string ⟨d.toArray⟩]] w (RetBelow (SV (idL k d)) w) := by
  have B0 := below_new w (.cells #[.int .i64 k, .string ⟨d.toArray⟩] 26)
  have hrt := fun W => RRight_any k d (by omega) W
  have HO := Lib.hid (obj_box w k d)
  have HB0 := Lib.hid B0
  cases h : wantsO k d with
  | none =>
    rw [h] at hrt
    have HR := Lib.hid hrt
    rw [show idL k d = [] from by unfold idL; rw [h]; rfl]
    unfold SV
    clear hrt h B0
    go_enter Tryz.func14, Tryz.ntmps14
    go_wp2_with fail
    refine (HR.out _).mono ?_
    rintro e w1 ⟨rfl, l1⟩
    go_wp2_with fail
    go_ret
    exact ⟨rfl, HB0.out.trans (l1.mono HB0.out.size)⟩
  | some l =>
    rw [h] at hrt
    have HR := Lib.hid hrt
    rw [show idL k d = nameL (headL k d) from by unfold idL; rw [h]; rfl]
    obtain ⟨kw, hkw⟩ : ∃ kw, kw = kindW k := ⟨_, rfl⟩
    obtain ⟨tx, htx⟩ : ∃ tx, tx = textL (d.length : Int) := ⟨_, rfl⟩
    have hk6 : kw.length ≤ 6 := by rw [hkw]; exact kind_short k
    have ht20 : tx.length ≤ 20 := by rw [htx]; exact textL_len (by omega)
    have hall : ((kw ++ [32]) ++ tx ++ [10]) ++ d = headL k d := by rw [hkw, htx]; unfold headL; simp
    have HWd : Hid (∀ W : World, Calls Tryz.prog 27 #[.int .i64 k] W fun e w' => e = .returned (.string ⟨kw.toArray⟩) ∧ W = w') := Lib.hid fun W => by rw [hkw]; exact RWord_any k W
    have HTx : Hid (∀ W : World, Calls Tryz.prog 28 #[.int .i64 (d.length : Int)] W fun e w' => e = .returned (.string ⟨tx.toArray⟩) ∧ Below W.heap.size W w') := Lib.hid fun W => by rw [htx]; exact RText_any _ (by omega) W
    have HNm : Hid (∀ (W : World) (v : Value), Rb W v (headL k d) → Calls Tryz.prog 26 #[v] W fun e w' => e = .returned (SV (nameL (headL k d))) ∧ Below W.heap.size W w') := Lib.hid fun W v hr => RName_any W v _ (by rw [← hall]; simp; omega) hr
    have HAll := Lib.hid hall
    obtain ⟨p1, h1⟩ : ∃ p1, p1 = kw ++ [32] := ⟨_, rfl⟩
    obtain ⟨p2, h2⟩ : ∃ p2, p2 = p1 ++ tx := ⟨_, rfl⟩
    obtain ⟨p3, h3⟩ : ∃ p3, p3 = p2 ++ [10] := ⟨_, rfl⟩
    obtain ⟨p4, h4⟩ : ∃ p4, p4 = headL k d := ⟨_, rfl⟩
    have z1 : p1.length ≤ 7 := by rw [h1]; simp; omega
    have z2 : p2.length ≤ 27 := by rw [h2]; simp; omega
    have z3 : p3.length ≤ 28 := by rw [h3]; simp; omega
    have c1 := cat_run kw [32] ⟨p1.toArray⟩ (by rw [h1]) (by omega) (by simp)
    have c2 := cat_run p1 tx ⟨p2.toArray⟩ (by rw [h2]) (by omega) (by omega)
    have c3 := cat_run p2 [10] ⟨p3.toArray⟩ (by rw [h3]) (by omega) (by simp)
    have c4 := cat_run p3 d ⟨p4.toArray⟩ (by rw [h4, h3, h2, h1, hall]) (by omega) (by omega)
    rw [← h4] at HNm ⊢
    have C1 := Lib.hid c1; have C2 := Lib.hid c2; have C3 := Lib.hid c3; have C4 := Lib.hid c4
    clear hrt B0 h hkw htx hall c1 c2 c3 c4 h1 h2 h3 h4 z1 z2 z3 HAll
    go_enter Tryz.func14, Tryz.ntmps14
    go_wp2_with fail
    refine (HR.out _).mono ?_
    rintro e w1 ⟨rfl, hb⟩
    have HX := Lib.hid hb
    have q0 : ∀ W, Below w1.drew.heap.size w1.drew W → W.cell? ⟨w.heap.size, 0, none⟩ = some (.int .i64 k) := fun W hW => (HO.out W (HX.out.drew.trans (hW.mono HX.out.size))).1
    have q1 : ∀ W, Below w1.drew.heap.size w1.drew W → W.cell? ⟨w.heap.size, 1, none⟩ = some (.string ⟨d.toArray⟩) := fun W hW => (HO.out W (HX.out.drew.trans (hW.mono HX.out.size))).2
    have Q0 := Lib.hid q0; have Q1 := Lib.hid q1; have HB := Lib.hid (HB0.out.trans (hb.mono HB0.out.size)).drew
    clear q0 q1 hb
    go_wp2_with fail
    refine AnyB.start (by kernel_rfl) ?_
    refine AnyB.take 0 (.pointer (some ⟨w.heap.size, 0, none⟩)) rfl (by kernel_rfl) (by kernel_rfl) (by kernel_rfl) (fun _ _ _ h => h) (by kernel_rfl) (fun W hW => by kernel_rfl) ?_
    refine AnyB.take 1 (.int .i64 k) rfl (by kernel_rfl) (by kernel_rfl) (by kernel_rfl) (fun _ _ _ h => h) (by kernel_rfl) (fun W hW => y_load (sv := .pointer (some ⟨w.heap.size, 0, none⟩)) rfl (by kernel_rfl) (by have hW2 := Q0.out W hW; simp [go_sem, hW2])) ?_
    refine AnyB.take 4 (.pointer (some ⟨w.heap.size, 1, none⟩)) rfl (by kernel_rfl) (by kernel_rfl) (by kernel_rfl) (fun _ _ _ h => h) (by kernel_rfl) (fun W hW => by kernel_rfl) ?_
    refine AnyB.take 5 (.string ⟨d.toArray⟩) rfl (by kernel_rfl) (by kernel_rfl) (by kernel_rfl) (fun _ _ _ h => h) (by kernel_rfl) (fun W hW => y_load (sv := .pointer (some ⟨w.heap.size, 1, none⟩)) rfl (by kernel_rfl) (by have hW2 := Q1.out W hW; simp [go_sem, hW2])) ?_
    refine AnyB.take 6 (.int .i64 (d.length : Int)) rfl (by kernel_rfl) (by kernel_rfl) (by kernel_rfl) (fun _ _ _ h => h) (by kernel_rfl) (fun W hW => by kernel_rfl) ?_
    refine AnyB.take 10 (.pointer (some ⟨w.heap.size, 1, none⟩)) rfl (by kernel_rfl) (by kernel_rfl) (by kernel_rfl) (fun _ _ _ h => h) (by kernel_rfl) (fun W hW => by kernel_rfl) ?_
    refine AnyB.take 11 (.string ⟨d.toArray⟩) rfl (by kernel_rfl) (by kernel_rfl) (by kernel_rfl) (fun _ _ _ h => h) (by kernel_rfl) (fun W hW => y_load (sv := .pointer (some ⟨w.heap.size, 1, none⟩)) rfl (by kernel_rfl) (by have hW2 := Q1.out W hW; simp [go_sem, hW2])) ?_
    refine AnyB.call 2 27 #[.int .i64 k] (by kernel_rfl) rfl (by kernel_rfl) (by kernel_rfl) ((HWd.out _).mono ?_)
    rintro e w2 ⟨rfl, rfl⟩
    refine ⟨_, rfl, Below.refl _ _, ?_⟩
    refine AnyB.take 3 (.string ⟨p1.toArray⟩) rfl (by kernel_rfl) (by kernel_rfl) (by kernel_rfl) (fun _ _ _ h => h) (by kernel_rfl) (fun W hW => y_bin (x := .string ⟨kw.toArray⟩) (y := .string ⟨#[32]⟩) rfl (by kernel_rfl) (by kernel_rfl) rfl (by have := C1.out W; simp [go_sem, this])) ?_
    refine AnyB.call 7 28 #[.int .i64 (d.length : Int)] (by kernel_rfl) rfl (by kernel_rfl) (by kernel_rfl) ((HTx.out _).mono ?_)
    rintro e w2 ⟨rfl, l2⟩
    refine ⟨_, rfl, l2, ?_⟩
    have L2 := Lib.hid (HB.out.trans (l2.mono HB.out.size))
    refine AnyB.take 8 (.string ⟨p2.toArray⟩) rfl (by kernel_rfl) (by kernel_rfl) (by kernel_rfl) (fun _ _ _ h => h) (by kernel_rfl) (fun W hW => y_bin (x := .string ⟨p1.toArray⟩) (y := .string ⟨tx.toArray⟩) rfl (by kernel_rfl) (by kernel_rfl) rfl (by have := C2.out W; simp only [binOp]; simp [go_sem, this])) ?_
    refine AnyB.take 9 (.string ⟨p3.toArray⟩) rfl (by kernel_rfl) (by kernel_rfl) (by kernel_rfl) (fun _ _ _ h => h) (by kernel_rfl) (fun W hW => y_bin (x := .string ⟨p2.toArray⟩) (y := .string ⟨#[10]⟩) rfl (by kernel_rfl) (by kernel_rfl) rfl (by have := C3.out W; simp [go_sem, this])) ?_
    refine AnyB.take 12 (.string ⟨p4.toArray⟩) rfl (by kernel_rfl) (by kernel_rfl) (by kernel_rfl) (fun _ _ _ h => h) (by kernel_rfl) (fun W hW => y_bin (x := .string ⟨p3.toArray⟩) (y := .string ⟨d.toArray⟩) rfl (by kernel_rfl) (by kernel_rfl) rfl (by have := C4.out W; simp [go_sem, this])) ?_
    obtain ⟨A3, c3, w3, hrun, hr3, l3⟩ := conv_bytes w2 (p4)
    refine AnyB.op 13 (.slice A3 (p4).length c3) w3 (by kernel_rfl) rfl (by kernel_rfl) (y_conv' (x := .string ⟨p4.toArray⟩) rfl (by kernel_rfl) hrun) l3 ?_
    have L3 := Lib.hid (L2.out.trans (l3.mono L2.out.size))
    refine AnyB.call 14 26 #[.slice A3 (p4).length c3] (by kernel_rfl) rfl (by kernel_rfl) (by kernel_rfl) ((HNm.out _ _ hr3).mono ?_)
    rintro e w4 ⟨rfl, l4⟩
    refine ⟨_, rfl, l4, ?_⟩
    have L4 := Lib.hid (L3.out.trans (l4.mono L3.out.size))
    clear hrun hr3 l3 l4 l2
    unfold SV
    refine AnyB.take 15 (.string ⟨(nameL p4).toArray⟩) rfl (by kernel_rfl) (by kernel_rfl) (by kernel_rfl) (fun _ _ _ h => h) (by kernel_rfl) (fun W hW => by kernel_rfl) ?_
    refine AnyB.done _ (by kernel_rfl) ?_
    go_simp
    go_wp2_with fail
    go_ret
    exact ⟨rfl, L4.out⟩
theorem wantsO_len {k : Int} {d : List UInt8} {l : List (List UInt8 × Int)} (h : wantsO k d = some l) : l.length ≤ 256 := by
  unfold wantsO at h
  by_cases h0 : 65536 < d.length
  · rw [if_pos h0] at h; cases h
  rw [if_neg h0] at h
  by_cases h1 : k = 1
  · rw [if_pos h1] at h; cases h; simp
  rw [if_neg h1] at h
  by_cases h2 : k = 2
  · rw [if_pos h2] at h
    obtain ⟨m, hm, rfl⟩ := Option.map_eq_some_iff.1 h
    rw [List.length_map]; exact (rightT_parts.1 (getT_iff.1 hm).1).1
  rw [if_neg h2] at h
  by_cases h3 : k = 3
  · rw [if_pos h3] at h
    obtain ⟨c, hc, rfl⟩ := Option.map_eq_some_iff.1 h
    have := (rightC_parts.1 (getC_iff.1 hc).1).2.1
    simp only [wantC, List.length_cons, List.length_map]; omega
  rw [if_neg h3] at h
  by_cases h4 : k = 4
  · rw [if_pos h4] at h
    obtain ⟨c, hc, rfl⟩ := Option.map_eq_some_iff.1 h
    simp [wantL]
  · rw [if_neg h4] at h; cases h
theorem l_objT (W : World) (b : Nat) (k : Int) (d : List UInt8) (h : W.cell? ⟨b, 0, none⟩ = some (.int .i64 k) ∧ W.cell? ⟨b, 1, none⟩ = some (.string ⟨d.toArray⟩)) : (Instr.loadAt 26 (.pointer (some ⟨b, 0, none⟩))).run Tryz.prog W = .ok (.agg #[.int .i64 k, .string ⟨d.toArray⟩]) W := by
  obtain ⟨h0, h1⟩ := h
  simp [go_sem, h0, h1]
end Go.Proofs.YthbmaloajgkhmaaGreatDoor
