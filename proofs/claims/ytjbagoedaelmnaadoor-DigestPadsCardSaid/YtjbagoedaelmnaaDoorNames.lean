/-
  DigestNames, walked.
-/
import Derived.Test.YtjbagoedaelmnaaDoorStill
import Derived.BigRegion
namespace Go.Proofs.YtjbagoedaelmnaaDoor
open Go Go.RowKit

theorem flat2_get (f g : UInt8 → UInt8) : ∀ (s : List UInt8) (i : Nat), i < s.length → (s.flatMap fun c => [f c, g c])[2 * i]? = some (f (s.getD i 0)) ∧ (s.flatMap fun c => [f c, g c])[2 * i + 1]? = some (g (s.getD i 0))
  | [], i, h => absurd h (Nat.not_lt_zero _)
  | c :: s, 0, _ => ⟨rfl, rfl⟩
  | c :: s, i + 1, h => by
    have ih := flat2_get f g s i (by simpa using h)
    exact ih
theorem name_get (l : List UInt8) (i : Nat) (h : i < 32) : (nameL l)[2 * i]? = some (hexD ((sumL l).getD i 0 / 16)) ∧ (nameL l)[2 * i + 1]? = some (hexD ((sumL l).getD i 0 % 16)) :=
  flat2_get _ _ _ i (by rw [sumL_length]; exact h)
theorem name_at (l : List UInt8) (i : Nat) (h : i < 64) : isD ((nameL l).getD i 0) = true := by
  have hn := named_nameL l
  unfold namedB at hn
  rw [Bool.and_eq_true] at hn
  rw [List.getD_eq_getElem?_getD, List.getElem?_eq_getElem (by rw [nameL_length]; exact h)]
  exact List.all_eq_true.1 hn.2 _ (List.getElem_mem _)
def val (c : UInt8) : Nat := if 97 ≤ c.toNat then c.toNat - 87 else c.toNat - 48
theorem val_hex (b : UInt8) : val (hexD (b / 16)) * 16 + val (hexD (b % 16)) = b.toNat := by
  have h : (val (hexD (b / 16)) * 16 + val (hexD (b % 16)) == b.toNat) = true := u8_all (p := fun b => val (hexD (b / 16)) * 16 + val (hexD (b % 16)) == b.toNat) (by decide +kernel) b
  simpa using h
theorem isD_hex (b : UInt8) : isD (hexD (b / 16)) = true ∧ isD (hexD (b % 16)) = true := isD_of_div b

theorem value_still (c : UInt8) (hc : isD c = true) (w : World) : Calls Tryd.prog 16 #[.int .u8 (c.toNat : Int)] w fun e w' => e = .returned (.int .i64 (val c : Int)) ∧ w' = w :=
  (value_any c hc w).mono fun _ _ h => ⟨h.1, h.2.symm⟩

theorem extract_S (p : List UInt8) (a b : Nat) : (⟨p.toArray⟩ : ByteArray).extract a b = ⟨((p.take b).drop a).toArray⟩ := by
  apply ByteArray.ext
  rw [ByteArray.data_extract]
  apply Array.ext'
  simp [List.drop_take]
theorem append_S (p q : List UInt8) : (⟨p.toArray⟩ : ByteArray) ++ (⟨q.toArray⟩ : ByteArray) = ⟨(p ++ q).toArray⟩ := by
  apply ByteArray.ext
  rw [ByteArray.data_append]
  apply Array.ext'
  simp

/-- One byte of the name is another. -/
theorem named_other (nm : List UInt8) (k : Nat) (c : UInt8) (hl : nm.length = 64) (hn : namedB nm = true) (hk : k < 64) : namedB (nm.take k ++ [c] ++ nm.drop (k + 1)) = isD c := by
  unfold namedB at hn ⊢
  rw [Bool.and_eq_true] at hn
  have h1 : (nm.take k).all isD = true := List.all_eq_true.2 fun x hx => List.all_eq_true.1 hn.2 x (List.mem_of_mem_take hx)
  have h2 : (nm.drop (k + 1)).all isD = true := List.all_eq_true.2 fun x hx => List.all_eq_true.1 hn.2 x (List.mem_of_mem_drop hx)
  rw [List.all_append, List.all_append, h1, h2]
  have : (nm.take k ++ [c] ++ nm.drop (k + 1)).length = 64 := by simp [hl]; omega
  rw [this]; simp

set_option maxRecDepth 100000 in
set_option maxHeartbeats 2000000 in
theorem Names_law (w : World) (hp : Pr w) (v : Value) (l : List UInt8) (hl : l.length ≤ maxLen) (hr : Rb w v l) (a c : UInt8) :
    Calls Tryd.prog 4 #[v, .int .u8 (a.toNat : Int), .int .u8 (c.toNat : Int)] w fun e w' => e = .returned (.bool true) ∧ Below w.heap.size w w' := by
  unfold maxLen at hl
  obtain ⟨A, cc, hv⟩ := hr.shape
  have HH := Lib.hid (head_any w hp)
  have hplt := hp.lt
  by_cases h2 : 20000 < l.length
  · clear hp hr
    subst hv
    go_enter Tryd.func4, Tryd.ntmps4
    go_wp2_with fail
    refine HH.out.mono ?_
    rintro e w1 ⟨rfl, l1⟩
    go_wp2
    go_ret
    exact ⟨rfl, l1⟩
  · have hS : ∀ W : World, Below w.heap.size w W → Calls Tryd.prog 10 #[v] W fun e w' => e = .returned (.agg (u8s 32 (byteV (sumV l)))) ∧ Below W.heap.size W w' := fun W hW => Sum_any W v l (hp.below hW hplt) (by omega) (hr.below hW (Nat.le_refl _))
    have hN : ∀ W : World, Below w.heap.size w W → Calls Tryd.prog 12 #[v] W fun e w' => e = .returned (SV (nameL l)) ∧ Below W.heap.size W w' := fun W hW => Name_any W v l (hp.below hW hplt) (by omega) (hr.below hW (Nat.le_refl _))
    obtain ⟨S, hSS⟩ : ∃ S, S = byteV (sumV l) := ⟨_, rfl⟩
    obtain ⟨nm, hnm⟩ : ∃ nm, nm = nameL l := ⟨_, rfl⟩
    rw [← hSS] at hS
    rw [← hnm] at hN
    unfold SV at hN
    have Hlen : Hid (nm.length = 64) := Lib.hid (by rw [hnm]; exact nameL_length l)
    have Hnd : Hid (namedB nm = true) := Lib.hid (by rw [hnm]; exact named_nameL l)
    have hget : ∀ i, i < 32 → nm[2 * i]? = some (hexD (S i / 16)) ∧ nm[2 * i + 1]? = some (hexD (S i % 16)) := fun i hi => by
      have h := name_get l i hi
      have e : (sumL l).getD i 0 = S i := by
        rw [hSS, List.getD_eq_getElem?_getD]
        unfold sumL
        rw [List.getElem?_map, List.getElem?_range hi]; rfl
      rw [e] at h
      rw [hnm]; exact h
    have Hget := Lib.hid hget
    subst hv
    have HS := Lib.hid hS; have HN := Lib.hid hN
    have hlb : nm.length ≤ 64 := by rw [Hlen.out]; exact Nat.le_refl _
    have hlb' : 64 ≤ nm.length := by rw [Hlen.out]; exact Nat.le_refl _
    have hne : ((nm.length : Int) != 64) = false := by rw [Hlen.out]; rfl
    clear hS hN hSS hnm hp hr hget
    go_enter Tryd.func4, Tryd.ntmps4
    go_wp2_with fail
    refine HH.out.mono ?_
    rintro e w1 ⟨rfl, l1⟩
    go_wp2_with fail
    refine (HS.out w1 l1).mono ?_
    rintro e w2 ⟨rfl, l2⟩
    have lw2 : Below w.heap.size w w2 := l1.trans (l2.mono l1.size)
    have lw3 : Below w.heap.size w (w2.alloc (Obj.cells (u8s 32 S) 24)) := lw2.alloc lw2.size _
    have b3 : Blk (w2.alloc (Obj.cells (u8s 32 S) 24)) w2.heap.size 24 (u8s 32 S) := Blk.new w2 _ _
    have hz32 : ∀ W, (zeroValue 24).run Tryd.prog W = .ok (.agg (u8s 32 fun _ => 0)) W := (zero_of_info (n := 32) (by kernel_rfl)).1
    go_wp2_with (refine wpList_store_row rfl 24 _ _ rfl w2.heap.size (u8s 32 S) rfl rfl 24 (u8s 32 fun _ => 0) (by exact Blk.new w2 _ _) (by rw [u8s_size]; kernel_rfl) (by rw [u8s_size, u8s_size]) (u8s_one 32 S) ?_; rw [World.setRow_alloc_new])
    have B3 := Lib.hid b3; have L3 := Lib.hid lw3
    clear b3 lw3 lw2 l2
    refine (HN.out _ L3.out).mono ?_
    rintro e w4 ⟨rfl, l4⟩
    have b4 : Blk w4 w2.heap.size 24 (u8s 32 S) := B3.out.below l4 B3.out.lt
    have lw4 : Below w.heap.size w w4 := L3.out.trans (l4.mono L3.out.size)
    have hnd := Named_any nm w4 (by unfold maxLen; omega)
    rw [Hnd.out] at hnd
    unfold SV at hnd
    have HND := Lib.hid hnd
    clear hnd l4 B3 L3 l1
    go_wp2_with fail
    refine HND.out.mono ?_
    rintro e w5 ⟨rfl, rfl⟩
    go_wp2
    go_loopw [10] (fun i wr => ∃ (k nq : Nat), k ≤ 32 ∧ i = .int .i64 k ∧ wr = w4.drewN nq) (fun i _ => 32 - (intOf i).toNat)
    case atStart => exact ⟨0, 0, Nat.zero_le _, rfl, (World.drewN_zero _).symm⟩
    case round =>
      obtain ⟨k, nq, hk, rfl, hwr⟩ := hrel
      have Hwr := Lib.hid hwr
      by_cases hlt : k < 32
      · obtain ⟨s, hs⟩ : ∃ s, s = S k := ⟨_, rfl⟩
        obtain ⟨hg1, hg2⟩ := Hget.out k hlt
        rw [← hs] at hg1 hg2
        obtain ⟨x, hx⟩ : ∃ x, x = hexD (s / 16) := ⟨_, rfl⟩
        obtain ⟨y, hy⟩ : ∃ y, y = hexD (s % 16) := ⟨_, rfl⟩
        have hvx : isD x = true := by rw [hx]; exact (isD_hex s).1
        have hvy : isD y = true := by rw [hy]; exact (isD_hex s).2
        have hval : val x * 16 + val y = s.toNat := by rw [hx, hy]; exact val_hex s
        have gx : ∀ h, ((⟨nm.toArray⟩ : ByteArray)[2 * k]'h) = x := fun h => by rw [List.getElem?_eq_getElem (show 2 * k < nm.length by omega)] at hg1; rw [hx]; exact Option.some.inj hg1
        have gy : ∀ h, ((⟨nm.toArray⟩ : ByteArray)[2 * k + 1]'h) = y := fun h => by rw [List.getElem?_eq_getElem (show 2 * k + 1 < nm.length by omega)] at hg2; rw [hy]; exact Option.some.inj hg2
        have cs : wr.cell? ⟨w2.heap.size, k, none⟩ = some (.int .u8 (s.toNat : Int)) := by rw [hwr, hs]; exact b4.byte k (by omega)
        obtain ⟨a0, ha0⟩ : ∃ a, a = val x := ⟨_, rfl⟩
        obtain ⟨a1, ha1⟩ : ∃ a, a = val y := ⟨_, rfl⟩
        rw [← ha0, ← ha1] at hval
        have hsl := s.toNat_lt
        obtain ⟨m, hm⟩ : ∃ m, m = a0 * 16 := ⟨_, rfl⟩
        have g2 : IntKind.i64.wrap ((a0 : Int) * 16) = (m : Int) := by rw [IntWalk.i64_in _ (by omega)]; omega
        have g3 : IntKind.i64.wrap ((m : Int) + (a1 : Int)) = (s.toNat : Int) := by rw [IntWalk.i64_in _ (by omega)]; omega
        have g4 : IntKind.i64.wrap (s.toNat : Int) = (s.toNat : Int) := IntWalk.i64_in _ (by omega)
        have q0 : IntKind.i64.wrap (2 * (k : Int)) = 2 * (k : Int) := IntWalk.i64_in _ (by omega)
        have q1 : IntKind.i64.wrap (2 * (k : Int) + 1) = 2 * (k : Int) + 1 := IntWalk.i64_in _ (by omega)
        have e0 : (2 * (k : Int)).toNat = 2 * k := by omega
        have e1 : (2 * (k : Int) + 1).toNat = 2 * k + 1 := by omega
        have p0 : 0 ≤ 2 * (k : Int) := by omega
        have p1 : 0 ≤ 2 * (k : Int) + 1 := by omega
        have r0 : 2 * k < nm.length := by omega
        have r0' : 2 * (k : Int) < (nm.length : Int) := by omega
        have r1' : 2 * (k : Int) + 1 < (nm.length : Int) := by omega
        have r1 : 2 * k + 1 < nm.length := by omega
        have HX : Hid (∀ W : World, Calls Tryd.prog 16 #[.int .u8 (x.toNat : Int)] W fun e w' => e = .returned (.int .i64 (a0 : Int)) ∧ w' = W) := Lib.hid fun W => by rw [ha0]; exact value_still x hvx W
        have HY : Hid (∀ W : World, Calls Tryd.prog 16 #[.int .u8 (y.toNat : Int)] W fun e w' => e = .returned (.int .i64 (a1 : Int)) ∧ w' = W) := Lib.hid fun W => by rw [ha1]; exact value_still y hvy W
        clear hs hg1 hg2 hx hy hvx hvy hval ha0 ha1 hm hwr
        go_wp2_with fail
        go_quiet (first | (with_reducible exact Calls.quiet_of_same (HX.out _)) | (with_reducible exact Calls.quiet_of_same (HY.out _)))
        clear gx gy g2 g3 g4 q0 q1 e0 e1 p0 p1 r0 r1 r0' r1' cs
        go_wp2
        go_roundw
        case rel => exact ⟨k + 1, _, by omega, by go_num, by rw [Hwr.out, World.drewN_drewN]⟩
        case measure => simp [intOf]; omega
      · obtain ⟨kk, hkk⟩ : ∃ kk, kk = a.toNat % 64 := ⟨_, rfl⟩
        have hk64 : kk < 64 := by omega
        have gk : (a.toNat : Int) % 64 = (kk : Int) := by omega
        have lwr : Below w.heap.size w wr := by rw [hwr]; exact ⟨lw4.os, lw4.tape, lw4.output, lw4.size, lw4.block⟩
        clear hwr Hwr b4 hkk
        have hcv : (convert 22 9 (.slice (some ⟨wr.heap.size, 0, none⟩) 1 1)).run Tryd.prog (wr.alloc (.cells #[.int .u8 (c.toNat : Int)] 5)).drew = .ok (.string ⟨([c] : List UInt8).toArray⟩) (wr.alloc (.cells #[.int .u8 (c.toNat : Int)] 5)).drew :=
          run_convert_bytes_back (P := Tryd.prog) _ 22 9 5 ⟨wr.heap.size, 0, none⟩ 1 [c] Tryd.underlying22 Tryd.underlying5 Tryd.underlying9 (fun j hj => by
            have hj0 : j = 0 := by simpa using hj
            subst hj0
            rw [add_none]
            refine Eq.trans rfl ((Blk.new wr 5 #[.int .u8 (c.toNat : Int)]).cell 0))
        have u0 : 0 ≤ (kk : Int) := by omega
        have u1 : (kk : Int) ≤ (nm.length : Int) := by omega
        have u2 : 0 ≤ (kk : Int) + 1 := by omega
        have u3 : (kk : Int) + 1 ≤ (nm.length : Int) := by omega
        have u4 : IntKind.i64.wrap ((kk : Int) + 1) = (kk : Int) + 1 := IntWalk.i64_in _ (by omega)
        have u5 : ((kk : Int) + 1).toNat = kk + 1 := by omega
        go_wp2
        go_region
        clear hcv u0 u2 u3 u4 u5 gk
        obtain ⟨ot, hot⟩ : ∃ ot, ot = nm.take kk ++ [c] ++ nm.drop (kk + 1) := ⟨_, rfl⟩
        obtain ⟨p1, hp1⟩ : ∃ p, p = nm.take kk := ⟨_, rfl⟩
        obtain ⟨p2, hp2⟩ : ∃ p, p = nm ++ [48] := ⟨_, rfl⟩
        have E1 : (⟨nm.toArray⟩ : ByteArray).extract 0 kk = ⟨p1.toArray⟩ := by rw [extract_S, hp1]; rfl
        have E2 : (⟨nm.toArray⟩ : ByteArray).extract (kk + 1) nm.length = ⟨(nm.drop (kk + 1)).toArray⟩ := by rw [extract_S, List.take_length]
        have E3 : (⟨nm.toArray⟩ : ByteArray) ++ (⟨#[48]⟩ : ByteArray) = ⟨p2.toArray⟩ := by rw [hp2]; exact append_S nm [48]
        have E0 : (⟨nm.toArray⟩ : ByteArray).extract 0 kk ++ (⟨#[c]⟩ : ByteArray) ++ (⟨nm.toArray⟩ : ByteArray).extract (kk + 1) nm.length = ⟨ot.toArray⟩ := by
          rw [E1, E2, hot, hp1]
          exact (congrArg (· ++ (⟨(nm.drop (kk + 1)).toArray⟩ : ByteArray)) (append_S (nm.take kk) [c])).trans (append_S _ _)
        rw [E0]
        obtain ⟨w6, hw6⟩ : ∃ w6, w6 = (wr.alloc (Obj.cells #[Value.int .u8 (c.toNat : Int)] 5)).drew := ⟨_, rfl⟩
        rw [← hw6]
        have l6 : Below w.heap.size w w6 := by rw [hw6]; exact (lwr.alloc lwr.size _).drew
        have L6 := Lib.hid l6
        have n1 := Named_any p1 w6 (by rw [hp1, List.length_take]; unfold maxLen; omega)
        have n2 := Named_any p2 w6 (by rw [hp2, List.length_append, Hlen.out]; decide)
        have n3 := Named_any ot w6 (by rw [hot]; simp only [List.length_append, List.length_take, List.length_drop, List.length_cons, List.length_nil]; unfold maxLen; omega)
        rw [show namedB p1 = false from named_len _ (by rw [hp1, List.length_take]; omega)] at n1
        rw [show namedB p2 = false from named_len _ (by rw [hp2, List.length_append, Hlen.out]; decide)] at n2
        rw [show namedB ot = isD c by rw [hot]; exact named_other nm kk c Hlen.out Hnd.out hk64] at n3
        unfold SV at n1 n2 n3
        have hlen48 : nm.length + 1 ≤ 65 := by omega
        have hcl := c.toNat_lt
        clear hot hp1 hp2 E0 E2 hw6 l6 lwr
        have N1 := Lib.hid n1; have N2 := Lib.hid n2
        clear n1 n2
        have hcase : (c.toNat : Int) < 48 ∨ (48 ≤ (c.toNat : Int) ∧ (c.toNat : Int) ≤ 57) ∨ (57 < (c.toNat : Int) ∧ (c.toNat : Int) < 97) ∨ (97 ≤ (c.toNat : Int) ∧ (c.toNat : Int) ≤ 102) ∨ 102 < (c.toNat : Int) := by omega
        rcases hcase with k1 | ⟨k1, k2⟩ | ⟨k1, k2⟩ | ⟨k1, k2⟩ | k1
        · rw [show isD c = false by rw [isD_int, Bool.eq_iff_iff]; simp; omega] at n3
          have N3 := Lib.hid n3; clear n3
          go_wp2_with (first
            | ((with_reducible refine N1.out.mono ?_); rintro e w' ⟨rfl, rfl⟩)
            | ((with_reducible refine N2.out.mono ?_); rintro e w' ⟨rfl, rfl⟩)
            | ((with_reducible refine N3.out.mono ?_); rintro e w' ⟨rfl, rfl⟩))
          go_ret
          first
            | exact ⟨rfl, L6.out⟩
            | (refine ⟨?_, L6.out⟩; show Ending.returned (.bool _) = _; exact ret_bool (by simp; omega))
        · rw [show isD c = true by rw [isD_int, Bool.eq_iff_iff]; simp; omega] at n3
          have N3 := Lib.hid n3; clear n3
          go_wp2_with (first
            | ((with_reducible refine N1.out.mono ?_); rintro e w' ⟨rfl, rfl⟩)
            | ((with_reducible refine N2.out.mono ?_); rintro e w' ⟨rfl, rfl⟩)
            | ((with_reducible refine N3.out.mono ?_); rintro e w' ⟨rfl, rfl⟩))
          go_ret
          first
            | exact ⟨rfl, L6.out⟩
            | (refine ⟨?_, L6.out⟩; show Ending.returned (.bool _) = _; exact ret_bool (by simp; omega))
        · rw [show isD c = false by rw [isD_int, Bool.eq_iff_iff]; simp; omega] at n3
          have N3 := Lib.hid n3; clear n3
          go_wp2_with (first
            | ((with_reducible refine N1.out.mono ?_); rintro e w' ⟨rfl, rfl⟩)
            | ((with_reducible refine N2.out.mono ?_); rintro e w' ⟨rfl, rfl⟩)
            | ((with_reducible refine N3.out.mono ?_); rintro e w' ⟨rfl, rfl⟩))
          go_ret
          first
            | exact ⟨rfl, L6.out⟩
            | (refine ⟨?_, L6.out⟩; show Ending.returned (.bool _) = _; exact ret_bool (by simp; omega))
        · rw [show isD c = true by rw [isD_int, Bool.eq_iff_iff]; simp; omega] at n3
          have N3 := Lib.hid n3; clear n3
          go_wp2_with (first
            | ((with_reducible refine N1.out.mono ?_); rintro e w' ⟨rfl, rfl⟩)
            | ((with_reducible refine N2.out.mono ?_); rintro e w' ⟨rfl, rfl⟩)
            | ((with_reducible refine N3.out.mono ?_); rintro e w' ⟨rfl, rfl⟩))
          go_ret
          first
            | exact ⟨rfl, L6.out⟩
            | (refine ⟨?_, L6.out⟩; show Ending.returned (.bool _) = _; exact ret_bool (by simp; omega))
        · rw [show isD c = false by rw [isD_int, Bool.eq_iff_iff]; simp; omega] at n3
          have N3 := Lib.hid n3; clear n3
          go_wp2_with (first
            | ((with_reducible refine N1.out.mono ?_); rintro e w' ⟨rfl, rfl⟩)
            | ((with_reducible refine N2.out.mono ?_); rintro e w' ⟨rfl, rfl⟩)
            | ((with_reducible refine N3.out.mono ?_); rintro e w' ⟨rfl, rfl⟩))
          go_ret
          first
            | exact ⟨rfl, L6.out⟩
            | (refine ⟨?_, L6.out⟩; show Ending.returned (.bool _) = _; exact ret_bool (by simp; omega))
end Go.Proofs.YtjbagoedaelmnaaDoor
