/-
  Name.
-/
import Derived.Test.YtjbagoedaelmnaaDoorSumNil
import Derived.Laws.IdiomStrings
import Derived.Stop.BytesEq
import Derived.Test.YtjbagoedaelmnaaDoorNamed
namespace Go.Proofs.YtjbagoedaelmnaaDoor
open Go Go.RowKit

theorem index32 (F : Nat → UInt8) (W : World) (i : Nat) (hi : i < 32) : (Instr.index 24 (.agg (u8s 32 F)) (.int .i64 (i : Int))).run Tryd.prog W = .ok (.int .u8 ((F i).toNat : Int)) W := by
  have h1 : (u8s 32 F)[i]? = some (.int .u8 ((F i).toNat : Int)) := u8s_get 32 F i hi
  have hs : ∀ W, (sizeOf 5).run Tryd.prog W = .ok 1 W := fun _ => by kernel_rfl
  have hp : ∀ W, (part 5 (u8s 32 F) i).run Tryd.prog W = .ok (.int .u8 ((F i).toNat : Int)) W := fun W => by
    have ha : ∀ W, (isAgg 5).run Tryd.prog W = .ok false W := fun _ => by kernel_rfl
    simp [part, Sem.run_bind, ha, h1]
  have hi1 : 0 ≤ (i : Int) := by omega
  simp [Instr.index, asIntOf, Sem.run_bind, run_underlying Tryd.underlying24, hs, hp, hi1]
  omega

/-- Two by two. -/
theorem pairs_gen (G : Nat → UInt8) (a b : Nat → UInt8) : ∀ n, (∀ j, j < n → G (2 * j) = a j ∧ G (2 * j + 1) = b j) → (List.range (2 * n)).map G = (List.range n).flatMap fun i => [a i, b i]
  | 0, _ => rfl
  | n + 1, h => by
    rw [show 2 * (n + 1) = 2 * n + 1 + 1 by omega, List.range_succ, List.range_succ, List.map_append, List.map_append, pairs_gen G a b n fun j hj => h j (by omega), List.range_succ, List.flatMap_append]
    simp [(h n (by omega)).1, (h n (by omega)).2]
theorem pairs_eq (G : Nat → UInt8) (a b : Nat → UInt8) (h : ∀ j, j < 32 → G (2 * j) = a j ∧ G (2 * j + 1) = b j) : (List.range 64).map G = (List.range 32).flatMap fun i => [a i, b i] := pairs_gen G a b 32 h

theorem hexAt : ∀ k : Fin 16, ((⟨#[48, 49, 50, 51, 52, 53, 54, 55, 56, 57, 97, 98, 99, 100, 101, 102]⟩ : ByteArray)[k.val]'k.isLt) = hexD (UInt8.ofNat k.val) := by decide +kernel
theorem hexHi (c : UInt8) (h : c.toNat / 16 < (⟨#[48, 49, 50, 51, 52, 53, 54, 55, 56, 57, 97, 98, 99, 100, 101, 102]⟩ : ByteArray).size) : ((⟨#[48, 49, 50, 51, 52, 53, 54, 55, 56, 57, 97, 98, 99, 100, 101, 102]⟩ : ByteArray)[c.toNat / 16]'h) = hexD (c / 16) := by
  refine (hexAt ⟨c.toNat / 16, h⟩).trans (congrArg hexD ?_)
  have := c.toNat_lt
  rw [← UInt8.toNat_inj, UInt8.toNat_ofNat', UInt8.toNat_div]
  simp; omega
theorem hexLo (c : UInt8) (h : c.toNat % 16 < (⟨#[48, 49, 50, 51, 52, 53, 54, 55, 56, 57, 97, 98, 99, 100, 101, 102]⟩ : ByteArray).size) : ((⟨#[48, 49, 50, 51, 52, 53, 54, 55, 56, 57, 97, 98, 99, 100, 101, 102]⟩ : ByteArray)[c.toNat % 16]'h) = hexD (c % 16) := by
  refine (hexAt ⟨c.toNat % 16, h⟩).trans (congrArg hexD ?_)
  have := c.toNat_lt
  rw [← UInt8.toNat_inj, UInt8.toNat_ofNat', UInt8.toNat_mod]
  simp; omega

set_option maxRecDepth 100000 in
set_option maxHeartbeats 1000000 in
theorem Name_of (w : World) (v : Value) (F : Nat → UInt8) (hS : ∀ W : World, Below w.heap.size w W → Calls Tryd.prog 10 #[v] W fun e w' => e = .returned (.agg (u8s 32 F)) ∧ Below W.heap.size W w') :
    Calls Tryd.prog 12 #[v] w fun e w' => e = .returned (SV ((List.range 32).flatMap fun i => [hexD (F i / 16), hexD (F i % 16)])) ∧ Below w.heap.size w w' := by
  have HS := Lib.hid hS; clear hS
  go_enter Tryd.func12, Tryd.ntmps12
  go_wp2_with fail
  have l0 : Below w.heap.size w (w.alloc (Obj.cells (u8s 64 fun _ => 0) 44)) := below_new w _
  have b0 : Blk (w.alloc (Obj.cells (u8s 64 fun _ => 0) 44)) w.heap.size 44 (u8s 64 fun _ => 0) := Blk.new w _ _
  refine (HS.out _ l0).mono ?_
  rintro e w1 ⟨rfl, l1⟩
  have b1 := b0.below l1 b0.lt
  have lw1 : Below w.heap.size w w1 := l0.trans (l1.mono l0.size)
  go_wp2
  go_loopw [4, 5, 8] (fun _ _ i wr => ∃ (k : Nat) (G : Nat → UInt8), k ≤ 32 ∧ i = .int .i64 k ∧ Blk wr w.heap.size 44 (u8s 64 G) ∧ Below w.heap.size w wr ∧ (∀ j, j < k → G (2 * j) = hexD (F j / 16) ∧ G (2 * j + 1) = hexD (F j % 16))) (fun _ _ i _ => 32 - (intOf i).toNat)
  case atStart => exact ⟨0, _, Nat.zero_le _, rfl, b1, lw1, fun j hj => absurd hj (Nat.not_lt_zero _)⟩
  case round =>
    clear b1 lw1 l1 b0 l0
    obtain ⟨k, G, hk, rfl, hblk, hb, hG⟩ := hrel
    have HG := Lib.hid hG; clear hG
    by_cases hlt : k < 32
    · have hix := fun W => index32 F W k hlt
      obtain ⟨c, hc⟩ : ∃ c, c = F k := ⟨_, rfl⟩
      rw [← hc] at hix
      have Hc := Lib.hid hc; clear hc
      obtain ⟨x, hx⟩ : ∃ x, x = hexD (c / 16) := ⟨_, rfl⟩
      obtain ⟨y, hy⟩ : ∃ y, y = hexD (c % 16) := ⟨_, rfl⟩
      have gx := fun h => (hexHi c h).trans hx.symm
      have gy := fun h => (hexLo c h).trans hy.symm
      have Hx := Lib.hid hx; have Hy := Lib.hid hy; clear hx hy
      have cq0 := hblk.byte (2 * k) (by omega)
      have cq1 := hblk.byte (2 * k + 1) (by omega)
      have zq0 := hblk.frozen (2 * k)
      have zq1 := hblk.frozen (2 * k + 1)
      have hbound := hblk.lt
      have hcl := c.toNat_lt
      have hc1 : c.toNat / 16 < 16 := by omega
      have hc2 : (c.toNat : Int) / 16 < 16 := by omega
      have hc3 : 0 ≤ (c.toNat : Int) / 16 := by omega
      have hc4 : c.toNat % 16 < 16 := by omega
      go_wp2
      go_roundw
      case rel =>
        refine ⟨k + 1, upd (upd G (2 * k) x) (2 * k + 1) y, by omega, by go_num, (hblk.setB (2 * k) x).setB (2 * k + 1) y, (hb.setCell (Nat.le_refl _) _).setCell (Nat.le_refl _) _, fun j hj => ?_⟩
        by_cases hjk : j = k
        · subst hjk
          rw [upd_same, upd_other _ _ _ _ (show 2 * j ≠ 2 * j + 1 by omega), upd_same, Hx.out, Hy.out, Hc.out]
          exact ⟨rfl, rfl⟩
        · rw [upd_other _ _ _ _ (show 2 * j ≠ 2 * k + 1 by omega), upd_other _ _ _ _ (show 2 * j ≠ 2 * k by omega), upd_other _ _ _ _ (show 2 * j + 1 ≠ 2 * k + 1 by omega), upd_other _ _ _ _ (show 2 * j + 1 ≠ 2 * k by omega)]
          exact HG.out j (by omega)
      case measure => simp [intOf]; omega
    · have Hl : Hid ((List.range 64).map G = (List.range 32).flatMap fun i => [hexD (F i / 16), hexD (F i % 16)]) := Lib.hid (pairs_eq _ _ _ fun j hj => HG.out j (by omega))
      obtain ⟨nm, hnm⟩ : ∃ nm, nm = (List.range 64).map G := ⟨_, rfl⟩
      have hlen : nm.length = 64 := by rw [hnm]; simp
      have hconv : (convert 22 9 (.slice (some ⟨w.heap.size, 0, none⟩) 64 64)).run Tryd.prog wr = .ok (.string ⟨nm.toArray⟩) wr := by
        have := run_convert_bytes_back (P := Tryd.prog) wr 22 9 5 ⟨w.heap.size, 0, none⟩ 64 nm Tryd.underlying22 Tryd.underlying5 Tryd.underlying9 (fun j hj => by
          rw [add_none, Nat.zero_add, hblk.byte j (by omega)]
          simp [hnm])
        rw [hlen] at this
        exact this
      have Hnm : Hid (nm = (List.range 32).flatMap fun i => [hexD (F i / 16), hexD (F i % 16)]) := Lib.hid (hnm.trans Hl.out)
      have hbound := hblk.lt
      clear hnm hlen
      go_wp2
      go_ret
      exact ⟨by unfold SV; rw [Hnm.out]; rfl, hb⟩

theorem Sum_any (w : World) (v : Value) (l : List UInt8) (hp : Pr w) (hl : l.length ≤ 30000) (hr : Rb w v l) :
    Calls Tryd.prog 10 #[v] w fun e w' => e = .returned (.agg (u8s 32 (byteV (sumV l)))) ∧ Below w.heap.size w w' := by
  rcases hr with ⟨⟨A, rfl⟩, rfl⟩ | ⟨g, o, c, rfl, hc, hg, hcell⟩
  · exact Sum_nil w A hp
  · exact Sum_some w g o c l hp hl hc hg hcell

theorem u8s_cells (f : Nat → UInt8) (n : Nat) : u8s n f = (((List.range n).map f).map Extern.Stop.cell).toArray := by
  unfold u8s
  rw [List.map_map]; rfl
/-- The sum's bytes as cells. -/
def sumC (l : List UInt8) : List Value := (sumL l).map Extern.Stop.cell
theorem sumC_eq (l : List UInt8) : u8s 32 (byteV (sumV l)) = (sumC l).toArray := u8s_cells _ _
theorem sumC_length (l : List UInt8) : (sumC l).length = 32 := by unfold sumC; rw [List.length_map, sumL_length]
theorem sumC_one (l : List UInt8) : ∀ v ∈ sumC l, v.oneCell' = true := by
  intro v hv
  obtain ⟨b, _, rfl⟩ := List.mem_map.1 hv
  rfl
theorem Sum_cells (w : World) (v : Value) (l : List UInt8) (hp : Pr w) (hl : l.length ≤ 30000) (hr : Rb w v l) :
    Calls Tryd.prog 10 #[v] w fun e w' => e = .returned (.agg (sumC l).toArray) ∧ Below w.heap.size w w' := by
  rw [← sumC_eq]; exact Sum_any w v l hp hl hr
theorem eql_sums (a b : List UInt8) (w : World) : (binOp .eql 24 (.agg (sumC a).toArray) (.agg (sumC b).toArray)).run Tryd.prog w = .ok (.bool (sumL a == sumL b)) w :=
  run_eql_bytes w 24 5 32 Tryd.underlying24 Tryd.underlying5 (fun _ => by kernel_rfl) _ _ (sumL_length a) (sumL_length b)

theorem name_eq (l : List UInt8) : ((List.range 32).flatMap fun i => [hexD (byteV (sumV l) i / 16), hexD (byteV (sumV l) i % 16)]) = nameL l := by
  unfold nameL sumL
  rw [List.flatMap_map]

theorem Name_any (w : World) (v : Value) (l : List UInt8) (hp : Pr w) (hl : l.length ≤ 30000) (hr : Rb w v l) :
    Calls Tryd.prog 12 #[v] w fun e w' => e = .returned (SV (nameL l)) ∧ Below w.heap.size w w' := by
  rw [← name_eq]
  exact Name_of w v (byteV (sumV l)) fun W hW => Sum_any W v l (hp.below hW hp.lt) hl (hr.below hW (Nat.le_refl _))
end Go.Proofs.YtjbagoedaelmnaaDoor
