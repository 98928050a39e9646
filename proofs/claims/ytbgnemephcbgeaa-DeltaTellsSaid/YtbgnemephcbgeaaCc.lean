/-
  slices.Grow of nil, slices.Concat of two.
-/
import Derived.Test.YtbgnemephcbgeaaMt
import Derived.Lib.AppendZeros
namespace Go.Proofs.Ytbgnemephcbgeaa
open Go Go.RowKit

set_option maxHeartbeats 2000000 in
set_option maxRecDepth 100000 in
theorem sgrow_any (n : Nat) (h0 : 0 < n) (hn : n ≤ 1000000) (w : World) : Calls Try.prog 34 #[.slice none 0 0, .int .i64 (n : Int)] w fun e w' => ∃ v, e = .returned v ∧ Ow w' w.heap.size v [] ∧ Below w.heap.size w w' := by
  obtain ⟨i, hi⟩ : ∃ i, Try.prog.info? 5 = some i := Option.isSome_iff_exists.1 (by kernel_rfl)
  have hi0 : (Try.prog.info? 5).map (fun i => (i.zero, i.size, i.bytes)) = some (some (.int .u8 0), 1, 1) := by kernel_rfl
  rw [hi] at hi0
  simp only [Option.map_some, Option.some.injEq, Prod.mk.injEq] at hi0
  obtain ⟨z1, z2, z3⟩ := hi0
  have hr := Lib.run_append_nil_zeros (P := Try.prog) w 29 3 29 5 i (.int .u8 0) .i64 .i64 Try.underlying29 Try.underlying3 hi z1 n h0 (by omega) (by omega) (by rw [z3]; omega)
  obtain ⟨c, hc⟩ : ∃ c, c = grownCap w n 0 5 := ⟨_, rfl⟩
  obtain ⟨cur, hcur⟩ : ∃ cur, cur = Builtin.zeroCells (Value.int .u8 0).cells n ++ Builtin.zeroCells (Value.int .u8 0).cells (c - n) := ⟨_, rfl⟩
  have hcn : n ≤ c := by rw [hc]; exact grownCap_ge _ _ _ _
  have hcm : c ≤ maxLen := by rw [hc]; exact grownCap_le_maxLen _ _ _ _ (by unfold maxLen; omega)
  have hcs : cur.size = c * 1 := by
    rw [hcur, Array.size_append, size_zeroCells, size_zeroCells]
    show n * 1 + (c - n) * 1 = c * 1
    omega
  rw [← hc, ← hcur] at hr
  have HO : Hid (Ow (w.drew.alloc (.cells cur 5)) w.heap.size (.slice (some ⟨w.heap.size, 0, none⟩) 0 c) []) := Lib.hid (World.ownsRow_made w.drew cur c (Nat.le_refl _) hcm hcs)
  have HB : Hid (Below w.heap.size w (w.drew.alloc (.cells cur 5))) := Lib.hid ((Below.refl _ w).drew.alloc (Nat.le_refl _) _)
  have HR := Lib.hid hr
  have hcm' : c ≤ 9223372036854775807 := by unfold maxLen at hcm; omega
  clear hr hc hcur hcs z1 z2 z3 hi hcm
  go_enter Try.func34, Try.ntmps34
  go_wp2_with (at_builtin; refine Lib.wpList_append_run _ rfl _ _ _ _ rfl _ _ rfl rfl _ _ HR.out ?_)
  go_wp2
  go_ret
  exact ⟨_, rfl, HO.out, HB.out⟩

set_option maxHeartbeats 2000000 in
set_option maxRecDepth 100000 in
theorem concat_any {w : World} {g n1 n2 c1 c2 : Nat} {A1 A2 : Option Addr} {l1 l2 : List UInt8} (hg : g < w.heap.size) (h1 : w.cell? ⟨g, 0, none⟩ = some (.slice A1 n1 c1)) (h2 : w.cell? ⟨g, 1, none⟩ = some (.slice A2 n2 c2))
    (r1 : Rb w (.slice A1 n1 c1) l1) (r2 : Rb w (.slice A2 n2 c2) l2) (e1 : n1 = l1.length) (e2 : n2 = l2.length) (hp : 0 < n1) (b1 : n1 ≤ 1000) (b2 : n2 ≤ 1000) :
    Calls Try.prog 18 #[.slice (some ⟨g, 0, none⟩) 2 2] w (AppP w w.heap.size (l1 ++ l2)) := by
  have HC := Lib.hid (And.intro h1 (And.intro h2 hg)); have HR := Lib.hid (And.intro r1 r2)
  have HE := Lib.hid (And.intro e1 e2)
  have HG := Lib.hid (sgrow_any (n1 + n2) (by omega) (by omega) w)
  clear r1 r2 e1 e2
  go_enter Try.func18, Try.ntmps18
  clear h1 h2
  go_wp2
  go_loop [3, 5, 11] (fun v3 _ v11 => ∃ (k s : Nat), v11 = .int .i64 (k : Int) ∧ v3 = .int .i64 (s : Int) ∧ k ≤ 2 ∧ s = (if k = 0 then 0 else if k = 1 then n1 else n1 + n2)) (fun _ _ v11 => 2 - (intOf v11).toNat)
  case atStart => exact ⟨0, 0, rfl, rfl, by omega, rfl⟩
  case round =>
    obtain ⟨k, s, rfl, rfl, hk, hs⟩ := hrel
    obtain ⟨k1, k2, _⟩ := HC.out
    have hk3 : k = 0 ∨ k = 1 ∨ k = 2 := by omega
    rcases hk3 with rfl | rfl | rfl
    · rw [if_pos rfl] at hs
      subst hs
      clear k2
      go_wp2
      go_round
      case rel => exact ⟨1, n1, rfl, by go_num, by omega, rfl⟩
      case measure => simp [intOf]
    · rw [if_neg (by omega), if_pos rfl] at hs
      subst hs
      clear k1
      go_wp2
      go_round
      case rel => exact ⟨2, s + n2, rfl, by go_num, by omega, rfl⟩
      case measure => simp [intOf]
    · rw [if_neg (by omega), if_neg (by omega)] at hs
      subst hs
      clear k1 k2
      have HG' : Hid (Calls Try.prog 34 #[.slice none 0 0, .int .i64 ((n1 : Int) + (n2 : Int))] w fun e w' => ∃ v, e = .returned v ∧ Ow w' w.heap.size v [] ∧ Below w.heap.size w w') := HG
      go_wp2_with fail
      refine HG'.out.mono ?_
      rintro e w1 ⟨v, rfl, ho, hb⟩
      have HO := Lib.hid ho; have HB := Lib.hid hb
      clear ho hb HG HG'
      go_wp2_with fail
      go_loopw [6, 8, 27] (fun v6 _ v27 wr => ∃ (k : Nat) (u : Value), u = v6 ∧ v27 = .int .i64 (k : Int) ∧ k ≤ 2 ∧ Hid (Ow wr w.heap.size u (if k = 0 then [] else if k = 1 then l1 else l1 ++ l2)) ∧ Hid (Below w.heap.size w wr)) (fun _ _ v27 _ => 2 - (intOf v27).toNat)
      case atStart => exact ⟨0, v, rfl, rfl, by omega, HO, HB⟩
      case round =>
        obtain ⟨k, u, hu, rfl, hk, HO2, HB2⟩ := hrel
        subst hu
        clear HO HB
        have hk3 : k = 0 ∨ k = 1 ∨ k = 2 := by omega
        have S2 : Hid (w.heap.size ≤ wr.heap.size) := Lib.hid HB2.out.size
        rcases hk3 with rfl | rfl | rfl
        · have k1 : wr.cell? ⟨g, 0, none⟩ = some (.slice A1 n1 c1) := (HB2.out.cell (p := ⟨g, 0, none⟩) HC.out.2.2).trans HC.out.1
          have O2 : Hid (Ow wr w.heap.size u []) := HO2
          have R2 := Lib.hid (HR.out.1.below HB2.out (Nat.le_refl _))
          have Q2 : Hid (([] : List UInt8).length + l1.length ≤ 140737488355328) := Lib.hid (by have := HE.out.1; simp; omega)
          go_wp2_with (refine wpList_app (o := ⟨some 33, _, _, _, _, _⟩) rfl _ _ rfl w.heap.size _ _ _ _ rfl rfl O2.out R2.out Q2.out S2.out ?_)
          intro v4 w4 o4 b4
          have O4 : Hid (Ow w4 w.heap.size v4 l1) := Lib.hid o4
          have B4 := Lib.hid (HB2.out.trans b4)
          clear o4 b4 k1 O2 R2 Q2 S2 HO2
          go_wp2_with fail
          go_roundw
          case rel => exact ⟨1, v4, rfl, rfl, by omega, O4, B4⟩
          case measure => simp [intOf]
        · have k1 : wr.cell? ⟨g, 1, none⟩ = some (.slice A2 n2 c2) := (HB2.out.cell (p := ⟨g, 1, none⟩) HC.out.2.2).trans HC.out.2.1
          have O2 : Hid (Ow wr w.heap.size u l1) := HO2
          have R2 := Lib.hid (HR.out.2.below HB2.out (Nat.le_refl _))
          have Q2 : Hid (l1.length + l2.length ≤ 140737488355328) := Lib.hid (by have := HE.out; omega)
          go_wp2_with (refine wpList_app (o := ⟨some 33, _, _, _, _, _⟩) rfl _ _ rfl w.heap.size _ _ _ _ rfl rfl O2.out R2.out Q2.out S2.out ?_)
          intro v4 w4 o4 b4
          have O4 : Hid (Ow w4 w.heap.size v4 (l1 ++ l2)) := Lib.hid o4
          have B4 := Lib.hid (HB2.out.trans b4)
          clear o4 b4 k1 O2 R2 Q2 S2 HO2
          go_wp2_with fail
          go_roundw
          case rel => exact ⟨2, v4, rfl, rfl, by omega, O4, B4⟩
          case measure => simp [intOf]
        · have O2 : Hid (Ow wr w.heap.size u (l1 ++ l2)) := HO2
          go_wp2
          go_ret
          exact ⟨u, rfl, O2.out, HB2.out⟩
end Go.Proofs.Ytbgnemephcbgeaa
