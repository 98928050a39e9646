/-
  roots, begin: the numbers of all rounds in a new state.
-/
import Derived.Test.YtjbagoedaelmnaaDoorNear
import Derived.Test.YtjbagoedaelmnaaDoorMix
namespace Go.Proofs.YtjbagoedaelmnaaDoor
open Go Go.RowKit

/-- What the program's text lays in primes. -/
def Pr (w : World) : Prop := ∀ i, i < 64 → w.cell? ⟨0, i, none⟩ = some (.int .u16 (primeN i : Int))
theorem Pr.lt {w : World} (h : Pr w) : 0 < w.heap.size := by have := block_lt_of_cell (h 0 (by omega)); exact this
theorem Pr.grown {w w' : World} {g : Nat} (h : Pr w) (hg : w.grownBy w' (some g)) (hne : 0 ≠ g) : Pr w' := fun i hi => by
  rw [World.cell?_of_block (w := w) (a := ⟨0, i, none⟩) (hg.block _ h.lt (by simpa using hne))]; exact h i hi
theorem Pr.below {w w' : World} {b : Nat} (h : Pr w) (hb : Below b w w') (hlt : 0 < b) : Pr w' := fun i hi => by
  rw [hb.cell (p := ⟨0, i, none⟩) hlt]; exact h i hi

theorem conv32 (x : UInt64) : IntKind.u32.wrap (x.toNat : Int) = ((x.toUInt32).toNat : Int) := by
  rw [w32_nat, UInt64.toNat_toUInt32]
theorem prime_lt : ∀ i, i < 64 → primeN i < 65536 := by decide +kernel
theorem convP (i : Nat) (hi : i < 64) : IntKind.u64.wrap (primeN i : Int) = ((UInt64.ofNat (primeN i)).toNat : Int) := by
  have := prime_lt i hi
  rw [IntKind.wrap_u64, UInt64.toNat_ofNat', Nat.mod_eq_of_lt (by omega)]; omega

/-- The words of a row with the roots laid from o on. -/
def withRoots (k o n : Nat) (F : Nat → UInt32) (i : Nat) : UInt32 := if o ≤ i ∧ i < o + n then (rootsR k (i - o + 1)).toUInt32 else F i

set_option maxHeartbeats 400000 in
theorem roots_any (w : World) (k n g o c N : Nat) (T : TypeId) (F : Nat → UInt32) (hk : 2 ≤ k) (hk2 : k ≤ 3) (hn : n ≤ 64) (hN : o + n ≤ N) (hok : ∀ i, i < n → okAll (primeN i) k (rootsR k i))
    (hblk : Blk w g T (u32s N F)) (hp : Pr w) (hne : 0 ≠ g) :
    Calls Tryd.prog 24 #[.slice (some ⟨g, o, none⟩) n c, .int .u64 (k : Int)] w fun e w' => e = .returned (.tuple #[]) ∧
      Blk w' g T (u32s N (withRoots k o n F)) ∧ w.grownBy w' (some g) := by
  have HO := Lib.hid hok; have HPr := Lib.hid hp; have Hne := Lib.hid hne
  clear hok hp hne
  go_enter Tryd.func24, Tryd.ntmps24
  go_wp2
  go_loopw [4, 8] (fun r i wr => ∃ (j : Nat) (x : UInt64) (F' : Nat → UInt32), j ≤ n ∧ i = .int .i64 j ∧ r = .int .u64 (x.toNat : Int) ∧ x = rootsR k j ∧ Blk wr g T (u32s N F') ∧ w.grownBy wr (some g) ∧ (∀ i, i < N → F' i = withRoots k o j F i)) (fun _ i _ => n - (intOf i).toNat)
  case atStart => exact ⟨0, 4294967296, F, Nat.zero_le _, rfl, rfl, rfl, hblk, grown_refl _ _, fun i _ => by unfold withRoots; rw [if_neg (by omega)]⟩
  case round =>
    obtain ⟨j, x, F', hj, rfl, rfl, hx, hblk', hg, hF⟩ := hrel
    have Hx := Lib.hid hx; have HF := Lib.hid hF; clear hF
    by_cases hlt : j < n
    · obtain ⟨p, hpp⟩ : ∃ p, p = UInt64.ofNat (primeN j) := ⟨_, rfl⟩
      have hprw : Pr wr := HPr.out.grown hg Hne.out
      have cp := hprw j (by omega)
      have gp : IntKind.u64.wrap (primeN j : Int) = (p.toNat : Int) := by rw [convP j (by omega), hpp]
      have hplt := prime_lt j (by omega)
      obtain ⟨pj, hpj⟩ : ∃ pj, pj = primeN j := ⟨_, rfl⟩
      rw [← hpj] at cp gp hplt
      have HC := Lib.hid (root_any p x k hk hk2 (by rw [hpp, hx]; exact HO.out j hlt) wr)
      obtain ⟨y, hy⟩ : ∃ y, y = rootN p x k 3 := ⟨_, rfl⟩
      rw [← hy] at HC
      have Hy : Hid (y = rootsR k (j + 1)) := Lib.hid (by rw [hy, hpp, hx]; rfl)
      obtain ⟨z, hz⟩ : ∃ z, z = y.toUInt32 := ⟨_, rfl⟩
      have gz : IntKind.u32.wrap (y.toNat : Int) = (z.toNat : Int) := by rw [conv32, hz]
      have Hz := Lib.hid hz
      clear hx hy hpp hpj hz
      go_wp2_with fail
      refine HC.out.mono ?_
      rintro e w1 ⟨rfl, hb1⟩
      have bq := hblk'.below hb1 hblk'.lt
      have lq := grown_below hg hb1
      have cq := bq.word (o + j) (by omega)
      have zq := bq.frozen (o + j)
      clear cp gp
      go_wp2
      go_roundw
      case rel =>
        refine ⟨j + 1, y, upd F' (o + j) z, by omega, by go_num, rfl, Hy.out, bq.setW (o + j) z, grown_set lq _ _, fun i hi => ?_⟩
        unfold withRoots
        by_cases hij : i = o + j
        · subst hij
          rw [upd_same, if_pos (by omega), Hz.out, Hy.out, show o + j - o = j by omega]
        · rw [upd_other _ _ _ _ hij, HF.out i hi]
          unfold withRoots
          by_cases h : o ≤ i ∧ i < o + j
          · rw [if_pos h, if_pos (by omega)]
          · rw [if_neg h, if_neg (by omega)]
      case measure => simp [intOf]; omega
    · have Hfin : Hid (u32s N F' = u32s N (withRoots k o n F)) := Lib.hid (u32s_congr fun i hi => by rw [HF.out i hi, show j = n by omega])
      rw [Hfin.out] at hblk'
      clear hx
      go_wp2
      go_end0
      exact ⟨rfl, hblk', hg⟩

theorem zeroState : (∀ w, (zeroValue 50).run Tryd.prog w = .ok (.agg (u32s 72 fun _ => 0)) w) ∧ (Tryd.prog.info? 50).map (·.size) = some 72 := zero_of_info (by kernel_rfl)

set_option maxRecDepth 100000 in
set_option maxHeartbeats 400000 in
theorem begin_any (w : World) (hp : Pr w) :
    Calls Tryd.prog 17 #[] w fun e w' => e = .returned (.pointer (some ⟨w.heap.size, 0, none⟩)) ∧ Blk w' w.heap.size 50 (u32s 72 (stF H0 KF)) ∧ Below w.heap.size w w' := by
  have hz := zeroState.1
  have Hp := Lib.hid hp; clear hp
  go_enter Tryd.func17, Tryd.ntmps17
  go_wp2_with fail
  obtain ⟨w0, hw0⟩ : ∃ w0, w0 = w.alloc (Obj.cells (u32s 72 fun _ => 0) 50) := ⟨_, rfl⟩
  rw [← hw0]
  have hlt := Hp.out.lt
  have b0 : Blk w0 w.heap.size 50 (u32s 72 fun _ => 0) := by rw [hw0]; exact Blk.new w _ _
  have l0 : Below w.heap.size w w0 := by rw [hw0]; exact (Below.refl _ _).alloc (Nat.le_refl _) _
  have p0 : Pr w0 := Hp.out.below l0 hlt
  have HC := Lib.hid (roots_any w0 2 8 w.heap.size 0 8 72 50 (fun _ => 0) (by omega) (by omega) (by omega) (by omega) (fun i hi => (roots2 i hi).1) b0 p0 (by omega))
  clear hw0
  refine HC.out.mono ?_
  rintro e w1 ⟨rfl, b1, g1⟩
  have p1 : Pr w1 := p0.grown g1 (by omega)
  have l1 : Below w.heap.size w w1 := l0.trans (grown_to_below g1 (Nat.le_of_lt b0.lt) (Nat.le_refl _))
  have HC2 := Lib.hid (roots_any w1 3 64 w.heap.size 8 64 72 50 _ (by omega) (by omega) (by omega) (by omega) (fun i hi => (roots3 i hi).1) b1 p1 (by omega))
  go_wp2_with fail
  refine HC2.out.mono ?_
  rintro e w2 ⟨rfl, b2, g2⟩
  have l2 : Below w.heap.size w w2 := l1.trans (grown_to_below g2 (Nat.le_of_lt b1.lt) (Nat.le_refl _))
  have Hfin : Hid (u32s 72 (withRoots 3 8 64 (withRoots 2 0 8 fun _ => 0)) = u32s 72 (stF H0 KF)) := Lib.hid (u32s_congr fun i hi => by
    unfold withRoots stF
    by_cases h : i < 8
    · rw [if_neg (by omega), if_pos (by omega), if_pos h, (roots2 (i - 0) (by omega)).2]; rfl
    · rw [if_pos (by omega), if_neg h, (roots3 (i - 8) (by omega)).2])
  go_wp2
  go_ret
  exact ⟨rfl, by rw [← Hfin.out]; exact b2, l2⟩
end Go.Proofs.YtjbagoedaelmnaaDoor
