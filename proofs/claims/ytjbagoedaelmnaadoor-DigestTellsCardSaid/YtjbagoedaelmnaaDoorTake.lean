/-
  take: the blocks of a slice; told: the sum's bytes.
-/
import Derived.Test.YtjbagoedaelmnaaDoorWords
import Derived.Test.YtjbagoedaelmnaaDoorBegin
namespace Go.Proofs.YtjbagoedaelmnaaDoor
open Go Go.RowKit

/-- Bytes o, o + 1 .. of a row, in world w, and where they lie if there are any. -/
def Row (w : World) (v : Value) (n : Nat) (m : Nat → UInt8) (gs : Nat) : Prop :=
  ∃ A c, v = .slice A n c ∧ n ≤ c ∧ (0 < n → ∃ g o, A = some ⟨g, o, none⟩ ∧ g ≠ gs ∧ ∀ j, j < n → w.cell? ⟨g, o + j, none⟩ = some (.int .u8 ((m j).toNat : Int)))

set_option maxRecDepth 100000 in
set_option maxHeartbeats 400000 in
theorem take_any (w : World) (gs n q c : Nat) (A : Option Addr) (v : V) (kf : Nat → UInt32) (m : Nat → UInt8) (hn : n = 64 * q) (hn2 : n ≤ 30000) (hc : n ≤ c) (hs : Blk w gs 50 (u32s 72 (stF v kf)))
    (hr : 0 < n → ∃ g o, A = some ⟨g, o, none⟩ ∧ g ≠ gs ∧ ∀ j, j < n → w.cell? ⟨g, o + j, none⟩ = some (.int .u8 ((m j).toNat : Int))) :
    Calls Tryd.prog 18 #[.pointer (some ⟨gs, 0, none⟩), .slice A n c] w fun e w' => e = .returned (.tuple #[]) ∧
      Blk w' gs 50 (u32s 72 (stF (takeV kf v m q) kf)) ∧ w.grownBy w' (some gs) := by
  have HR := Lib.hid hr; clear hr
  have Hn := Lib.hid hn; clear hn
  go_enter Tryd.func18, Tryd.ntmps18
  go_wp2
  go_loopw [1] (fun b wr => ∃ (i : Nat) (B : Option Addr) (k d : Nat), i ≤ q ∧ b = .slice B k d ∧ k + 64 * i = n ∧ k ≤ d ∧ Blk wr gs 50 (u32s 72 (stF (takeV kf v m i) kf)) ∧ w.grownBy wr (some gs) ∧
      (0 < k → ∃ g o, B = some ⟨g, o + 64 * i, none⟩ ∧ g ≠ gs ∧ ∀ j, j < n → w.cell? ⟨g, o + j, none⟩ = some (.int .u8 ((m j).toNat : Int)))) (fun b _ => match b with | .slice _ k _ => k | _ => 0)
  case atStart => exact ⟨0, A, n, c, Nat.zero_le _, rfl, by omega, hc, hs, grown_refl _ _, HR.out⟩
  case round =>
    obtain ⟨i, B, k, d, hi, rfl, hk, hkd, hblk, hg, hB⟩ := hrel
    have HB := Lib.hid hB; clear hB
    by_cases hlt : 0 < k
    · obtain ⟨g, o, rfl, hne, hcells⟩ := HB.out hlt
      have hkn := Hn.out
      have hk64 : 64 ≤ k := by omega
      have hkl : k ≤ 30000 := by omega
      have hglt : g < w.heap.size := by have := block_lt_of_cell (hcells 0 (by omega)); exact this
      have hrd : ∀ j, j < 64 → wr.cell? ⟨g, o + 64 * i + j, none⟩ = some (.int .u8 ((m (64 * i + j)).toNat : Int)) := fun j hj => by
        rw [World.cell?_of_block (w := w) (a := ⟨g, o + 64 * i + j, none⟩) (hg.block g hglt (by simpa using hne)), Nat.add_assoc]
        exact hcells (64 * i + j) (by omega)
      have HW := Lib.hid (words_any wr g (o + 64 * i) d k (fun j => m (64 * i + j)) hk64 hkl hrd)
      have Hcells := Lib.hid hcells
      clear hcells hrd hkn
      go_wp2_with fail
      refine HW.out.mono ?_
      rintro e w1 ⟨rfl, hb1⟩
      have b1 := hblk.below hb1 hblk.lt
      have g1 := grown_below hg hb1
      have HM := Lib.hid (mix_any w1 gs (takeV kf v m i) kf (sched (word fun j => m (64 * i + j))) b1)
      go_wp2_with fail
      refine HM.out.mono ?_
      rintro e w2 ⟨rfl, b2, g2⟩
      go_wp2
      go_roundw
      case rel =>
        refine ⟨i + 1, _, k - 64, d - 64, by have := Hn.out; omega, rfl, by omega, by omega, b2, grown_trans g1 g2, fun h => ⟨g, o, ?_, hne, Hcells.out⟩⟩
        rw [if_neg (by omega), show o + 64 * i + 64 = o + 64 * (i + 1) by omega]
      case measure => show k - 64 < k; omega
    · have Hq : Hid (i = q) := Lib.hid (by have := Hn.out; omega)
      go_wp2
      go_end0
      exact ⟨rfl, by rw [← Hq.out]; exact hblk, hg⟩

theorem convB (x : UInt32) : IntKind.u8.wrap (x.toNat : Int) = ((x.toUInt8).toNat : Int) := by
  rw [IntKind.wrap_u8', UInt32.toNat_toUInt8]; omega

set_option maxHeartbeats 400000 in
theorem told_any (w : World) (gs : Nat) (v : V) (kf : Nat → UInt32) (hs : Blk w gs 50 (u32s 72 (stF v kf))) :
    Calls Tryd.prog 20 #[.pointer (some ⟨gs, 0, none⟩)] w fun e w' => e = .returned (.agg (u8s 32 (byteV v))) ∧ Below w.heap.size w w' := by
  have hgs := hs.lt
  go_enter Tryd.func20, Tryd.ntmps20
  go_wp2
  go_loopw [4] (fun i wr => ∃ (k : Nat) (F : Nat → UInt8), k ≤ 32 ∧ i = .int .i64 k ∧ Blk wr w.heap.size 24 (u8s 32 F) ∧ Below w.heap.size w wr ∧ (∀ j, j < k → F j = byteV v j)) (fun i _ => 32 - (intOf i).toNat)
  case atStart => exact ⟨0, fun _ => 0, Nat.zero_le _, rfl, by exact Blk.new w _ _, (Below.refl _ _).alloc (Nat.le_refl _) _, fun j hj => absurd hj (Nat.not_lt_zero _)⟩
  case round =>
    obtain ⟨k, F, hk, rfl, hblk, hb, hF⟩ := hrel
    have HF := Lib.hid hF; clear hF
    by_cases hlt : k < 32
    · obtain ⟨a, ha⟩ : ∃ a, a = k / 4 := ⟨_, rfl⟩
      obtain ⟨b, hb4⟩ : ∃ b, b = 24 - k % 4 * 8 := ⟨_, rfl⟩
      have ha8 : a < 8 := by omega
      have hb24 : b ≤ 24 := by omega
      obtain ⟨x, hx⟩ : ∃ x, x = v.get a := ⟨_, rfl⟩
      have cx : wr.cell? ⟨gs, a, none⟩ = some (.int .u32 (x.toNat : Int)) := by
        rw [hb.cell (p := ⟨gs, a, none⟩) hgs, hs.word a (by omega), hx]; unfold stF; rw [if_pos ha8]
      obtain ⟨y, hy⟩ : ∃ y, y = x >>> UInt32.ofNat b := ⟨_, rfl⟩
      obtain ⟨z, hz⟩ : ∃ z, z = y.toUInt8 := ⟨_, rfl⟩
      have gy : (x.toNat : Int) / 2 ^ b = (y.toNat : Int) := by rw [shrP x b (by omega), hy]
      have gz : IntKind.u8.wrap (y.toNat : Int) = (z.toNat : Int) := by rw [convB, hz]
      have Hz : Hid (z = byteV v k) := Lib.hid (by rw [hz, hy, hx, ha, hb4]; rfl)
      have ga : (k : Int) / 4 = (a : Int) := by omega
      have gb : 24 - (k : Int) % 4 * 8 = (b : Int) := by omega
      have cq := hblk.byte k (by omega)
      have zq := hblk.frozen k
      have hbound := hblk.lt
      clear hx hy hz ha hb4
      go_wp2
      go_roundw
      case rel =>
        refine ⟨k + 1, upd F k z, by omega, by go_num, hblk.setB k z, hb.setCell (Nat.le_refl _) _, fun j hj => ?_⟩
        by_cases hjk : j = k
        · subst hjk; rw [upd_same, Hz.out]
        · rw [upd_other _ _ _ _ hjk]; exact HF.out j (by omega)
      case measure => simp [intOf]; omega
    · have Hf : Hid (u8s 32 F = u8s 32 (byteV v)) := Lib.hid (u8s_congr fun j hj => HF.out j (by omega))
      go_wp2_with (first
        | (refine wpList_load_row rfl 24 _ rfl w.heap.size rfl 24 (u8s 32 F) (0, 0) _ hblk Tryd.underlying24 rfl (by rw [u8s_size]; kernel_rfl) ?_)
        | (refine wpList_store_row rfl 24 _ _ rfl w.heap.size (u8s 32 F) rfl rfl 24 (u8s 32 F) hblk (by rw [u8s_size]; kernel_rfl) rfl (u8s_one 32 F) ?_; rw [setRow_self _ _ _ _ _ hblk]))
      exact bodyPost_ret (v := .agg (u8s 32 F)) (results_cell_row rfl _ _ w.heap.size 24 (u8s 32 F) (0, 0) _ rfl hblk Tryd.underlying24 rfl (by rw [u8s_size]; kernel_rfl)) rfl ⟨by rw [Hf.out], hb⟩
end Go.Proofs.YtjbagoedaelmnaaDoor
