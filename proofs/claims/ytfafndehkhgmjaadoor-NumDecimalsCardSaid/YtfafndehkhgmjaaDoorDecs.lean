/-
  NumDecimals, walked.
-/
import Derived.Test.YtfafndehkhgmjaaDoorApart
namespace Go.Proofs.YtfafndehkhgmjaaDoor
open Go Go.RowKit

theorem dd_first (a : Nat) : ∃ c : UInt8, (Lib.decDigits a).getD 0 0 = c ∧ (0 < a → 49 ≤ c.toNat) ∧ (a = 0 → c.toNat = 48) := by
  refine ⟨_, rfl, fun h => ?_, fun h => by rw [h, dd_zero]; rfl⟩
  obtain ⟨c, t, e, hc⟩ := dd_head a h
  rw [e]; exact hc

set_option maxRecDepth 100000 in
set_option maxHeartbeats 4000000 in
theorem Decs_law (w : World) (hp : Pr w) (a : Nat) (ha : a < 4294967296) (b : Nat) (hb : b < 4294967296) (c : UInt8) :
    Calls Tryd.prog 7 #[.int .u32 (a : Int), .int .u32 (b : Int), .int .u8 (c.toNat : Int)] w fun e w' => e = .returned (.bool true) ∧ Below w.heap.size w w' := by
  have HH := Lib.hid (head_any w hp)
  have Hp := Lib.hid hp
  clear hp
  have HT : Hid (∀ (n : Nat) (W : World), n < 4294967296 → Pr W → Calls Tryd.prog 15 #[.int .i64 (n : Int)] W fun e w' => e = .returned (.string ⟨(Lib.decDigits n).toArray⟩) ∧ Below W.heap.size W w') := Lib.hid fun n W hn hW => by
    have h := Text_any (n : Int) (by omega) (by omega) W hW
    rw [textL_nat] at h
    exact h
  have H0 : Hid (decL (48 :: Lib.decDigits a) = none) := Lib.hid (decL_nought_dd a)
  have H1 := Lib.hid (decL_snoc ha c)
  have Hdig := Lib.hid (dd_digit a)
  obtain ⟨c0, hc0, hc0p, hc0z⟩ := dd_first a
  have hle1 : (Lib.decDigits a).length ≤ 10 := by rw [Lib.decDigits_length]; exact nd_len 9 a (Nat.lt_of_lt_of_le ha (by decide))
  have hle2 : (Lib.decDigits b).length ≤ 10 := by rw [Lib.decDigits_length]; exact nd_len 9 b (Nat.lt_of_lt_of_le hb (by decide))
  have hpos := dd_pos a
  have Hmono : Hid (a ≤ b → (Lib.decDigits a).length ≤ (Lib.decDigits b).length) := Lib.hid fun h => by rw [Lib.decDigits_length, Lib.decDigits_length]; exact nd_mono a b h
  have HTa := Lib.hid (fun W => HT.out a W ha)
  have HTb := Lib.hid (fun W => HT.out b W hb)
  clear HT
  obtain ⟨s, hs⟩ : ∃ s, s = Lib.decDigits a := ⟨_, rfl⟩
  obtain ⟨t, ht⟩ : ∃ t, t = Lib.decDigits b := ⟨_, rfl⟩
  rw [← hs] at HTa H0 H1 Hdig hc0 hle1 hpos Hmono
  rw [← ht] at HTb hle2 Hmono
  obtain ⟨n, hn⟩ : ∃ n, n = s.length := ⟨_, rfl⟩
  obtain ⟨m, hm⟩ : ∃ m, m = t.length := ⟨_, rfl⟩
  rw [← hn] at hle1 hpos Hmono
  rw [← hm] at hle2 Hmono
  have hsz : (⟨s.toArray⟩ : ByteArray).size = n := hn.symm
  have hsz2 : (⟨t.toArray⟩ : ByteArray).size = m := hm.symm
  have g0 : ∀ h, (⟨s.toArray⟩ : ByteArray)[0]'h = c0 := fun h => by rw [ba_get s 0 h, hc0]
  have HN := Lib.hid hn
  have G0 := Lib.hid g0; have Hsz := Lib.hid hsz; have Hsz2 := Lib.hid hsz2
  clear hs ht hn hm hc0 g0
  go_enter Tryd.func7, Tryd.ntmps7
  go_wp2_with fail
  refine HH.out.mono ?_
  rintro e w1 ⟨rfl, l1⟩
  have L1 := Lib.hid l1
  clear HH l1
  go_wp2_with fail
  refine (HTa.out _ (Hp.out.below L1.out)).mono ?_
  rintro e w2 ⟨rfl, l2⟩
  have L2 := Lib.hid (L1.out.trans (l2.mono L1.out.size))
  clear HTa L1 l2
  go_wp2_with fail
  refine (HTb.out _ (Hp.out.below L2.out)).mono ?_
  rintro e w3 ⟨rfl, l3⟩
  have L3 := Lib.hid (L2.out.trans (l3.mono L2.out.size))
  clear HTb L2 l3
  go_wp2
  go_loop [10] (fun vi => ∃ k : Nat, k ≤ n ∧ vi = .int .i64 k) (fun vi => n - (intOf vi).toNat)
  case atStart => exact ⟨0, Nat.zero_le _, rfl⟩
  case round =>
    obtain ⟨k, hk, rfl⟩ := hrel
    by_cases hlt : k < n
    · obtain ⟨x, hx⟩ : ∃ x, x = s.getD k 0 := ⟨_, rfl⟩
      have gx : ∀ h, (⟨s.toArray⟩ : ByteArray)[k]'h = x := fun h => by rw [hx]; exact ba_get s k h
      have hmem : x ∈ s := by rw [hx]; exact getD_mem (by rw [← HN.out]; exact hlt)
      obtain ⟨hx1, hx2⟩ := Hdig.out x hmem
      clear hx hmem
      go_wp2
      go_round
      case rel => exact ⟨k + 1, by omega, by go_num⟩
      case measure => simp [intOf]; omega
    · have happ0 : (⟨#[48]⟩ : ByteArray) ++ (⟨s.toArray⟩ : ByteArray) = ⟨(48 :: s).toArray⟩ := append_S [48] s
      have happ1 : (⟨s.toArray⟩ : ByteArray) ++ (⟨([c] : List UInt8).toArray⟩ : ByteArray) = ⟨(s ++ [c]).toArray⟩ := append_S s [c]
      have HD0 : Hid (∀ W : World, Pr W → Calls Tryd.prog 11 #[.string ⟨(48 :: s).toArray⟩] W fun e w' => e = .returned (.tuple #[.int .i64 0, .bool false]) ∧ Below W.heap.size W w') := Lib.hid fun W hW => by
        have h := Decimal_any (48 :: s) (by rw [List.length_cons, ← HN.out]; omega) W hW
        rw [H0.out, decV_none] at h
        exact h
      have Happ1 := Lib.hid happ1
      clear happ1
      go_wp2_with fail
      refine (HD0.out _ (Hp.out.below L3.out)).mono ?_
      rintro e w4 ⟨rfl, l4⟩
      have L4 := Lib.hid (L3.out.trans (l4.mono L3.out.size))
      have L5 : Hid (Below w.heap.size w (w4.alloc (.cells #[.int .u8 (c.toNat : Int)] 5))) := Lib.hid (L4.out.alloc L4.out.size _)
      clear HD0 L3 l4 happ0
      have hcv := conv_one w4 c
      have happ1 := Happ1.out
      clear Happ1 hlt
      have hcl := c.toNat_lt
      have hba : decide (b ≤ a) = true ∨ (decide (b ≤ a) = false ∧ decide (n ≤ m) = true) := by
        by_cases h : b ≤ a
        · exact .inl (by simpa using h)
        · exact .inr ⟨by simpa using h, by have := Hmono.out (by omega); simpa using this⟩
      by_cases hd : (48 ≤ c.toNat ∧ c.toNat ≤ 57) ∧ 0 < a
      · have HD1 : Hid (∀ W : World, Pr W → Calls Tryd.prog 11 #[.string ⟨(s ++ [c]).toArray⟩] W fun e w' => e = .returned (.tuple #[.int .i64 ((a * 10 + (c.toNat - 48) : Nat) : Int), .bool true]) ∧ Below W.heap.size W w') := Lib.hid fun W hW => by
          have h := Decimal_any (s ++ [c]) (by rw [List.length_append, ← HN.out]; show n + 1 ≤ _; omega) W hW
          rw [H1.out, if_pos hd, decV_some] at h
          exact h
        obtain ⟨⟨d1, d2⟩, d3⟩ := hd
        obtain ⟨p, hpp⟩ : ∃ p, p = a * 10 + (c.toNat - 48) := ⟨_, rfl⟩
        rw [← hpp] at HD1
        go_wp2_with fail
        refine (HD1.out _ (Hp.out.below L5.out)).mono ?_
        rintro e w6 ⟨rfl, l6⟩
        have L6 := Lib.hid (L5.out.trans (l6.mono L5.out.size))
        have gq : (p : Int) % 10 = (c.toNat : Int) - 48 := by omega
        have a0 : ((a : Int) == 0) = false := beq_eq_false_iff_ne.2 (by omega)
        have a1 : decide (0 < a) = true := by simp; omega
        have a2 : (0 : Int) < (a : Int) := by omega
        have hc0 : ((c0.toNat : Int) == 48) = false := beq_eq_false_iff_ne.2 (by have := hc0p d3; omega)
        have hc0' : ((c0.toNat : Int) != 48) = true := by rw [bne, hc0]; rfl
        have g0 := G0.out
        clear hcv happ1 HD1 L5 l6 hpp
        rcases hba with e6 | ⟨e6, e7⟩
        all_goals
          go_wp2
          go_ret
          exact ⟨rfl, L6.out⟩
      · have HD1 : Hid (∀ W : World, Pr W → Calls Tryd.prog 11 #[.string ⟨(s ++ [c]).toArray⟩] W fun e w' => e = .returned (.tuple #[.int .i64 0, .bool false]) ∧ Below W.heap.size W w') := Lib.hid fun W hW => by
          have h := Decimal_any (s ++ [c]) (by rw [List.length_append, ← HN.out]; show n + 1 ≤ _; omega) W hW
          rw [H1.out, if_neg hd, decV_none] at h
          exact h
        go_wp2_with fail
        refine (HD1.out _ (Hp.out.below L5.out)).mono ?_
        rintro e w6 ⟨rfl, l6⟩
        have L6 := Lib.hid (L5.out.trans (l6.mono L5.out.size))
        have g0 := G0.out
        clear hcv happ1 HD1 L5 l6
        have ha3 : (a = 0 ∧ ((a : Int) == 0) = true ∧ decide ((0 : Int) < (a : Int)) = false ∧ ((c0.toNat : Int) == 48) = true ∧ ((c0.toNat : Int) != 48) = false) ∨ (0 < a ∧ ((a : Int) == 0) = false ∧ decide ((0 : Int) < (a : Int)) = true ∧ ((c0.toNat : Int) == 48) = false ∧ ((c0.toNat : Int) != 48) = true) := by
          rcases Nat.eq_zero_or_pos a with h | h
          · have h2 := hc0z h
            have h3 : ((c0.toNat : Int) == 48) = true := by rw [beq_iff_eq]; omega
            exact .inl ⟨h, by rw [beq_iff_eq]; omega, by simp; omega, h3, by rw [bne, h3]; rfl⟩
          · have h2 := hc0p h
            have h3 : ((c0.toNat : Int) == 48) = false := beq_eq_false_iff_ne.2 (by omega)
            exact .inr ⟨h, beq_eq_false_iff_ne.2 (by omega), by simp; omega, h3, by rw [bne, h3]; rfl⟩
        have hc3 : (decide ((48 : Int) ≤ (c.toNat : Int)) = false ∧ ¬ 48 ≤ c.toNat) ∨ (decide ((48 : Int) ≤ (c.toNat : Int)) = true ∧ decide ((c.toNat : Int) ≤ 57) = false ∧ ¬ c.toNat ≤ 57) ∨ (decide ((48 : Int) ≤ (c.toNat : Int)) = true ∧ decide ((c.toNat : Int) ≤ 57) = true ∧ (48 ≤ c.toNat ∧ c.toNat ≤ 57)) := by
          by_cases h1 : 48 ≤ c.toNat
          · by_cases h2 : c.toNat ≤ 57
            · exact .inr (.inr ⟨by simp; omega, by simp; omega, h1, h2⟩)
            · exact .inr (.inl ⟨by simp; omega, by simp; omega, h2⟩)
          · exact .inl ⟨by simp; omega, h1⟩
        rcases ha3 with ⟨z, z1, z2, z3, z4⟩ | ⟨z, z1, z2, z3, z4⟩
        · have z5 : decide (0 < a) = false := by simp; omega
          have z6 : ¬ 0 < a := by omega
          clear z hc0p hc0z hd
          rcases hc3 with ⟨y1, y⟩ | ⟨y1, y2, y⟩ | ⟨y1, y2, y⟩
          all_goals clear y
          all_goals rcases hba with e6 | ⟨e6, e7⟩
          all_goals
            go_wp2
            go_ret
            exact ⟨rfl, L6.out⟩
        · rcases hc3 with ⟨y1, y⟩ | ⟨y1, y2, y⟩ | ⟨y1, y2, y⟩
          · clear z hc0p hc0z hd y
            rcases hba with e6 | ⟨e6, e7⟩
            all_goals
              go_wp2
              go_ret
              exact ⟨rfl, L6.out⟩
          · clear z hc0p hc0z hd y
            rcases hba with e6 | ⟨e6, e7⟩
            all_goals
              go_wp2
              go_ret
              exact ⟨rfl, L6.out⟩
          · exact absurd ⟨y, z⟩ hd
end Go.Proofs.YtfafndehkhgmjaaDoor
