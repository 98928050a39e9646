/-
  Deltas that stand on one another are resolved up to as many as may be.
-/
import Derived.Test.YtgjddkeogboojaaGreatDoorC27

namespace Go.Proofs.YtgjddkeogboojaaGreatDoor.Pk
open Go.Proofs.YtgjddkeogboojaaGreatDoor
open Go Go.RowKit Go.Maps

theorem own_lit4 (w : World) (x : Ent) (b : Nat) (hb : b ≤ w.heap.size) : NewE b (w.alloc (.cells #[.int .i64 x.kind, .int .i64 x.back, .string ⟨x.base.toArray⟩, .string ⟨x.data.toArray⟩] 51)) (.slice (some ⟨w.heap.size, 0, none⟩) 1 1) [x] := by
  refine ⟨by simp [entC], .inr ⟨w.heap.size, 1, #[.int .i64 x.kind, .int .i64 x.back, .string ⟨x.base.toArray⟩, .string ⟨x.data.toArray⟩], rfl, hb, heap_alloc_new _ _, Nat.le_refl _, ?_, ?_, ?_⟩⟩
  · decide
  · rfl
  · simp [entC, SV]
theorem chainD_self {s : Bs} (hs : s.length ≤ 200) (n : Nat) : ChainD s s (Dl.makeL s s) n := by
  have := makeL_len6 s s (by omega) (by omega)
  exact ⟨by omega, by omega, by omega, fun _ => Dl.apply_make (by omega) (by omega), fun _ => Dl.apply_make (by omega) (by omega)⟩
theorem chain_mem {s d : Bs} {n : Nat} {e : Ent} (h : e ∈ chainL s d n) : e.base = [] ∧ (e.data = s ∨ e.data = d) := by
  unfold chainL at h
  rcases List.mem_cons.1 h with rfl | h
  · exact ⟨rfl, .inl rfl⟩
  · rw [List.eq_of_mem_replicate h]
    exact ⟨rfl, .inr rfl⟩
theorem chain_last {s t : Bs} {n : Nat} : ((chainT s t n).map dpM)[n]? = some (n : Int) := by
  rw [List.getElem?_map]
  match n with
  | 0 => rfl
  | n + 1 =>
    unfold chainT
    rw [List.getElem?_cons_succ, List.getElem?_map, List.getElem?_range (by omega)]
    rfl
set_option maxHeartbeats 8000000 in
set_option maxRecDepth 100000 in
theorem Chain_law (w : World) (hw : Wd w) (n : Nat) (hn : n < 256) (s : Bs) (hs : s.length ≤ maxLen) :
    Calls Tryz.prog 8 #[.int .u8 (n : Int), .string ⟨s.toArray⟩] w (RetBelow (.bool true) w) := by
  unfold maxLen at hs
  have HH := Lib.hid (head_any w hw)
  have Hw := Lib.hid hw
  clear hw
  by_cases c1 : 200 < s.length
  · have d1 : (200 : Int) < (s.length : Int) := by omega
    go_enter Tryz.func8, Tryz.ntmps8
    go_wp2_with fail
    refine HH.out.mono ?_
    rintro e w1 ⟨rfl, b1⟩
    have H1 := Lib.hid b1; clear b1 HH
    go_wp2
    go_ret
    exact ⟨rfl, H1.out⟩
  have d1 : ¬ (200 : Int) < (s.length : Int) := by omega
  obtain ⟨m, hm⟩ : ∃ m, m = n % 40 := ⟨_, rfl⟩
  have hm40 : m < 40 := by rw [hm]; exact Nat.mod_lt _ (by omega)
  have HM : Hid ((m : Int) = (n : Int) % 40) := Lib.hid (by rw [hm]; omega)
  clear hm
  have HC := Lib.hid (chainD_self (s := s) (by omega))
  obtain ⟨d, hd⟩ : ∃ d, d = Dl.makeL s s := ⟨_, rfl⟩
  have hdl := makeL_len6 s s (by omega) (by omega)
  have HMk : Hid (∀ W, Calls Tryz.prog 23 #[.string ⟨s.toArray⟩, .string ⟨s.toArray⟩] W (RetBelow (.string ⟨d.toArray⟩) W)) := Lib.hid fun W => by rw [hd]; exact Dl.RMake_any s s (by omega) (by omega) W
  rw [← hd] at HC hdl
  have Hdl := Lib.hid hdl
  clear hd hdl c1
  go_enter Tryz.func8, Tryz.ntmps8
  go_wp2_with fail
  refine HH.out.mono ?_
  rintro e w1 ⟨rfl, b1⟩
  have H1 := Lib.hid b1; clear b1 HH
  obtain ⟨w2, hw2⟩ : ∃ z, z = w1.alloc (.cells #[.int .i64 1, .int .i64 0, .string ⟨#[]⟩, .string ⟨s.toArray⟩] 51) := ⟨_, rfl⟩
  have hL : NewE w1.heap.size w2 (.slice (some ⟨w1.heap.size, 0, none⟩) 1 1) (chainL s d 0) := by rw [hw2]; exact own_lit4 w1 ⟨1, 0, [], s⟩ _ (Nat.le_refl _)
  have b2 : Below w1.heap.size w1 w2 := by rw [hw2]; exact below_new w1 _
  have HW2 := Lib.hid hw2; have HB2 := Lib.hid b2; have HL := Lib.hid hL
  clear hw2 b2 hL
  go_upto_region 5 with fail
  rw [← HW2.out]
  clear HW2
  go_wp2_with fail
  go_loopw [6, 7] (fun z i wr => Hid (Below w1.heap.size w1 wr) ∧ ∃ k : Nat, k ≤ m ∧ i = .int .i64 k ∧ Hid (NewE w1.heap.size wr z (chainL s d k))) (fun _ i _ => m - (intOf i).toNat)
  case atStart => exact ⟨HB2, 0, Nat.zero_le _, rfl, HL⟩
  case round =>
    obtain ⟨hB, k, hk, rfl, hN⟩ := hrel
    by_cases hlt : k < m
    · have hltI : (k : Int) < (n : Int) % 40 := by have := HM.out; omega
      go_wp2_with fail
      refine (HMk.out _).mono ?_
      rintro e w4 ⟨rfl, b4⟩
      have HN4 := Lib.hid (OwK.below hN.out b4 (Nat.le_refl _)); have HB4 := Lib.hid (hB.out.trans (b4.mono hB.out.size))
      have HS := Lib.hid (chainL_snoc s d k)
      have HLn := Lib.hid (chainL_len s d k)
      obtain ⟨zs, hzs⟩ : ∃ zs, zs = chainL s d k := ⟨_, rfl⟩
      rw [← hzs] at HN4 HS HLn
      clear b4 hB hN hzs
      go_wp2_with (at_builtin; refine wpList_one entK rfl _ _ rfl w1.heap.size u6 zs ⟨6, 1, [], d⟩ _ rfl rfl (by simp [go_sem]) HN4.out ?c1 (by decide) ?c2 ?_)
      case c1 => have := HLn.out; omega
      case c2 => exact HB4.out.size
      intro z' w6 hN6 hb6
      have HN6 := Lib.hid hN6
      have HB6 : Hid (Below w1.heap.size w1 w6) := Lib.hid (HB4.out.trans hb6)
      clear hN6 hb6
      go_wp2_with fail
      go_roundw
      case rel => exact ⟨HB6, k + 1, hlt, by go_num, Lib.hid (by rw [HS.out]; exact HN6.out)⟩
      case measure => simp [intOf]; omega
    · obtain rfl : k = m := by omega
      have hltI : ¬ (k : Int) < (n : Int) % 40 := by have := HM.out; omega
      obtain ⟨g, c, rfl, -⟩ := own_at (k := 4) (f := entC) (fun _ => rfl) hN.out (by rw [chainL_len]; omega)
      have hr : EntsR wr _ (chainL s d k) := hN.out.rd
      have hsm : Smal (chainL s d k) := ⟨by rw [chainL_len]; omega, fun e he => by
        have h1 := chain_mem he
        have h2 := Hdl.out
        rcases h1 with ⟨h3, h4 | h4⟩ <;> rw [h3, h4] <;> exact ⟨by simp, by omega⟩⟩
      have HD := Lib.hid (Deep_nil hr hsm (fun e he => by
        have h1 := chain_mem he
        have h2 := Hdl.out
        rcases h1 with ⟨h3, h4 | h4⟩ <;> rw [h4] <;> omega) (Hw.out.below (H1.out.trans (hB.out.mono H1.out.size))))
      have HBr := Lib.hid (H1.out.trans (hB.out.mono H1.out.size))
      have hcl := chainL_len s d k
      rw [hcl] at HD ⊢
      clear hr hsm hN hB
      go_wp2_with fail
      refine HD.out.mono ?_
      rintro e w5 ⟨b5, hh⟩
      have HB5 := Lib.hid (HBr.out.trans (b5.mono HBr.out.size))
      clear b5 HD HBr
      by_cases h16 : 16 < k
      · rw [chain_deep (HC.out k) [] h16 (by omega)] at hh
        simp only at hh
        rw [hh]
        have h16I : (16 : Int) < (n : Int) % 40 := by have := HM.out; omega
        clear hh
        go_wp2_with fail
        go_ret
        exact ⟨rfl, HB5.out⟩
      · rw [chain_ok (HC.out k) [] (by omega)] at hh
        obtain ⟨u, he, ho⟩ := hh
        obtain ⟨g5, c5, rfl, hc⟩ := own_at (k := 1) (f := intC) (fun _ => rfl) ho (by rw [List.length_map, chainT_len]; omega)
        have hx := hc k _ chain_last 0 Nat.zero_lt_one
        have hx5 : w5.cell? ⟨g5, k, none⟩ = some (.int .i64 (k : Int)) := by
          have : k * 1 + 0 = k := by omega
          rw [this] at hx; exact hx
        rw [List.length_map, chainT_len] at he
        rw [he]
        obtain ⟨K, hK⟩ : ∃ K, K = k + 1 := ⟨_, rfl⟩
        rw [← hK]
        have hK1 : 1 ≤ (K : Int) := by omega
        have hK2 : (K : Int) ≤ 17 := by omega
        have hix : ∀ W, (Instr.indexAt 43 (.slice (some ⟨g5, 0, none⟩) K c5) (.int .i64 ((K : Int) - 1))).run Tryz.prog W = .ok (.pointer (some ⟨g5, k, none⟩)) W := fun W => by
          have h1 : (K : Int) - 1 < (K : Int) := by omega
          have h2 : ((K : Int) - 1).toNat = k := by omega
          simp [go_sem, h1, h2]
          omega
        clear hK
        have h16I : ¬ (16 : Int) < (n : Int) % 40 := by have := HM.out; omega
        have heq : ((k : Int) == (n : Int) % 40) = true := by rw [HM.out]; simp
        clear he ho hc hx
        go_wp2_with fail
        go_ret
        exact ⟨rfl, HB5.out⟩
end Go.Proofs.YtgjddkeogboojaaGreatDoor.Pk
