/-
  The document's schedule.
-/
import Derived.Test.YtjbagoedaelmnaaDoorNamed
import Derived.StillTailTactics
import Derived.Laws.CopyOwn
namespace Go.Proofs.YtjbagoedaelmnaaDoor
open Go Go.RowKit

theorem rturnQ (w : World) (x r : UInt32) (n : Nat) (h1 : 1 ≤ n) (h2 : n < 32) (hr : r = rotr x (UInt32.ofNat n)) (m : Nat) :
    Calls Tryd.prog 30 #[.int .u32 (x.toNat : Int), .int .i64 (n : Int)] (w.drewN m) fun e w'' => e = .returned (.int .u32 (r.toNat : Int)) ∧ ∃ m, w'' = w.drewN m :=
  hr ▸ (rturn_any x n h1 h2 (w.drewN m)).mono fun _ _ ⟨he, m', hw⟩ => ⟨he, m + m', by rw [hw, World.drewN_drewN]⟩
theorem rturnQ_2 (w : World) (x r : UInt32) (hr : r = rotr x 2) (m : Nat) : Calls Tryd.prog 30 #[.int .u32 (x.toNat : Int), .int .i64 2] (w.drewN m) fun e w'' => e = .returned (.int .u32 (r.toNat : Int)) ∧ ∃ m, w'' = w.drewN m := rturnQ w x r 2 (by omega) (by omega) hr m
theorem rturnQ_13 (w : World) (x r : UInt32) (hr : r = rotr x 13) (m : Nat) : Calls Tryd.prog 30 #[.int .u32 (x.toNat : Int), .int .i64 13] (w.drewN m) fun e w'' => e = .returned (.int .u32 (r.toNat : Int)) ∧ ∃ m, w'' = w.drewN m := rturnQ w x r 13 (by omega) (by omega) hr m
theorem rturnQ_22 (w : World) (x r : UInt32) (hr : r = rotr x 22) (m : Nat) : Calls Tryd.prog 30 #[.int .u32 (x.toNat : Int), .int .i64 22] (w.drewN m) fun e w'' => e = .returned (.int .u32 (r.toNat : Int)) ∧ ∃ m, w'' = w.drewN m := rturnQ w x r 22 (by omega) (by omega) hr m
theorem rturnQ_6 (w : World) (x r : UInt32) (hr : r = rotr x 6) (m : Nat) : Calls Tryd.prog 30 #[.int .u32 (x.toNat : Int), .int .i64 6] (w.drewN m) fun e w'' => e = .returned (.int .u32 (r.toNat : Int)) ∧ ∃ m, w'' = w.drewN m := rturnQ w x r 6 (by omega) (by omega) hr m
theorem rturnQ_11 (w : World) (x r : UInt32) (hr : r = rotr x 11) (m : Nat) : Calls Tryd.prog 30 #[.int .u32 (x.toNat : Int), .int .i64 11] (w.drewN m) fun e w'' => e = .returned (.int .u32 (r.toNat : Int)) ∧ ∃ m, w'' = w.drewN m := rturnQ w x r 11 (by omega) (by omega) hr m
theorem rturnQ_25 (w : World) (x r : UInt32) (hr : r = rotr x 25) (m : Nat) : Calls Tryd.prog 30 #[.int .u32 (x.toNat : Int), .int .i64 25] (w.drewN m) fun e w'' => e = .returned (.int .u32 (r.toNat : Int)) ∧ ∃ m, w'' = w.drewN m := rturnQ w x r 25 (by omega) (by omega) hr m
theorem rturnQ_7 (w : World) (x r : UInt32) (hr : r = rotr x 7) (m : Nat) : Calls Tryd.prog 30 #[.int .u32 (x.toNat : Int), .int .i64 7] (w.drewN m) fun e w'' => e = .returned (.int .u32 (r.toNat : Int)) ∧ ∃ m, w'' = w.drewN m := rturnQ w x r 7 (by omega) (by omega) hr m
theorem rturnQ_18 (w : World) (x r : UInt32) (hr : r = rotr x 18) (m : Nat) : Calls Tryd.prog 30 #[.int .u32 (x.toNat : Int), .int .i64 18] (w.drewN m) fun e w'' => e = .returned (.int .u32 (r.toNat : Int)) ∧ ∃ m, w'' = w.drewN m := rturnQ w x r 18 (by omega) (by omega) hr m
theorem rturnQ_17 (w : World) (x r : UInt32) (hr : r = rotr x 17) (m : Nat) : Calls Tryd.prog 30 #[.int .u32 (x.toNat : Int), .int .i64 17] (w.drewN m) fun e w'' => e = .returned (.int .u32 (r.toNat : Int)) ∧ ∃ m, w'' = w.drewN m := rturnQ w x r 17 (by omega) (by omega) hr m
theorem rturnQ_19 (w : World) (x r : UInt32) (hr : r = rotr x 19) (m : Nat) : Calls Tryd.prog 30 #[.int .u32 (x.toNat : Int), .int .i64 19] (w.drewN m) fun e w'' => e = .returned (.int .u32 (r.toNat : Int)) ∧ ∃ m, w'' = w.drewN m := rturnQ w x r 19 (by omega) (by omega) hr m
theorem threeQ (w : World) (a b c r : UInt32) (hr : r = a ^^^ b ^^^ c) (m : Nat) :
    Calls Tryd.prog 29 #[.int .u32 (a.toNat : Int), .int .u32 (b.toNat : Int), .int .u32 (c.toNat : Int)] (w.drewN m) fun e w'' => e = .returned (.int .u32 (r.toNat : Int)) ∧ ∃ m, w'' = w.drewN m :=
  hr ▸ (three_any a b c (w.drewN m)).mono fun _ _ ⟨he, hw⟩ => ⟨he, m, hw.symm⟩

/-- The word out of its first k bytes. -/
def acc (m : Nat → UInt8) (t : Nat) : Nat → UInt32
  | 0 => 0
  | k + 1 => acc m t k * 256 + (m (4 * t + k)).toUInt32
theorem acc4 (m : Nat → UInt8) (t : Nat) : acc m t 4 = word m t := by
  have e : acc m t 4 = (((0 * 256 + (m (4 * t)).toUInt32) * 256 + (m (4 * t + 1)).toUInt32) * 256 + (m (4 * t + 2)).toUInt32) * 256 + (m (4 * t + 3)).toUInt32 := rfl
  rw [e]
  unfold word
  generalize m (4 * t) = a
  generalize m (4 * t + 1) = b
  generalize m (4 * t + 2) = c
  generalize m (4 * t + 3) = d
  have ha := a.toNat_lt; have hb := b.toNat_lt; have hc := c.toNat_lt; have hd := d.toNat_lt
  rw [← UInt32.toNat_inj]
  have s1 : (a.toUInt32 <<< 24).toNat = a.toNat <<< 24 := by rw [UInt32.toNat_shiftLeft]; simp; omega
  have s2 : (b.toUInt32 <<< 16).toNat = b.toNat * 65536 := by rw [UInt32.toNat_shiftLeft]; simp; omega
  have s3 : (c.toUInt32 <<< 8).toNat = c.toNat * 256 := by rw [UInt32.toNat_shiftLeft]; simp; omega
  rw [UInt32.toNat_or, UInt32.toNat_or, UInt32.toNat_or, s1, s2, s3, UInt8.toNat_toUInt32,
    ← Nat.shiftLeft_add_eq_or_of_lt (show b.toNat * 65536 < 2 ^ 24 by omega), show a.toNat <<< 24 + b.toNat * 65536 = (a.toNat * 256 + b.toNat) <<< 16 by rw [Nat.shiftLeft_eq, Nat.shiftLeft_eq]; omega,
    ← Nat.shiftLeft_add_eq_or_of_lt (show c.toNat * 256 < 2 ^ 16 by omega), show (a.toNat * 256 + b.toNat) <<< 16 + c.toNat * 256 = ((a.toNat * 256 + b.toNat) * 256 + c.toNat) <<< 8 by rw [Nat.shiftLeft_eq, Nat.shiftLeft_eq]; omega,
    ← Nat.shiftLeft_add_eq_or_of_lt (show d.toNat < 2 ^ 8 by omega), Nat.shiftLeft_eq]
  simp only [UInt32.toNat_add, UInt32.toNat_mul, UInt8.toNat_toUInt32]
  simp
  omega
theorem byteU (x : UInt8) : IntKind.u32.wrap (x.toNat : Int) = ((x.toUInt32).toNat : Int) := by
  have := x.toNat_lt
  rw [w32_nat, UInt8.toNat_toUInt32, Nat.mod_eq_of_lt (by omega)]
theorem mul256 (x : UInt32) : IntKind.u32.wrap ((x.toNat : Int) * 256) = ((x * 256).toNat : Int) := by
  rw [show ((x.toNat : Int) * 256) = ((x.toNat * 256 : Nat) : Int) by omega, w32_nat, UInt32.toNat_mul]; rfl

set_option maxRecDepth 100000 in
set_option maxHeartbeats 2000000 in
theorem schedule_any (w : World) (g o c n : Nat) (m : Nat → UInt8) (hn : 64 ≤ n) (hn2 : n ≤ 30000) (hr : ∀ j, j < 64 → w.cell? ⟨g, o + j, none⟩ = some (.int .u8 ((m j).toNat : Int))) :
    Calls Tryd.prog 28 #[.slice (some ⟨g, o, none⟩) n c] w fun e w' => e = .returned (.agg (u32s 64 (sched (word m)))) ∧ Below w.heap.size w w' := by
  have hg : g < w.heap.size := by have := block_lt_of_cell (hr 0 (by omega)); exact this
  have HR := Lib.hid hr; clear hr
  go_enter Tryd.func28, Tryd.ntmps28
  go_wp2
  go_loopw [4, 5, 6, 7] (fun i _ _ _ wr => ∃ (t : Nat) (f : Nat → UInt32), t ≤ 64 ∧ i = .int .i64 t ∧ Below w.heap.size w wr ∧ Blk wr w.heap.size 48 (u32s 64 fun _ => 0) ∧ Blk wr (w.heap.size + 1) 48 (u32s 64 f) ∧ (∀ i, i < 64 → f i = if i < t then sched (word m) i else 0)) (fun i _ _ _ _ => 64 - (intOf i).toNat)
  case atStart => exact ⟨0, fun _ => 0, Nat.zero_le _, rfl, ((Below.refl _ _).alloc (Nat.le_refl _) _).alloc (by simp) _, by exact (Blk.new w _ _).alloc _, by exact heap_alloc2_new w _ _, fun i hi => by rw [if_neg (Nat.not_lt_zero _)]⟩
  case round =>
    obtain ⟨t, f, ht, rfl, hb, hres, hblk, hf⟩ := hrel
    have HF := Lib.hid hf; clear hf
    have hbound := hblk.lt
    by_cases hlt : t < 64
    · by_cases h16 : t < 16
      · have d16 : decide ((t : Int) < 16) = true := decide_eq_true (by omega)
        have d64 : decide ((t : Int) < 64) = true := decide_eq_true (by omega)
        go_wp2
        clear hbound
        go_loopw [5] (fun i wx => ∃ (k : Nat) (f' : Nat → UInt32), k ≤ 4 ∧ i = .int .i64 k ∧ Below w.heap.size w wx ∧ Blk wx w.heap.size 48 (u32s 64 fun _ => 0) ∧ Blk wx (w.heap.size + 1) 48 (u32s 64 f') ∧ f' t = acc m t k ∧ (∀ i, i < 64 → i ≠ t → f' i = f i)) (fun i _ => 4 - (intOf i).toNat)
        case atStart => exact ⟨0, f, Nat.zero_le _, rfl, hb, hres, hblk, by rw [HF.out t hlt, if_neg (Nat.lt_irrefl _)]; rfl, fun _ _ _ => rfl⟩
        case round =>
          clear hb hres hblk
          obtain ⟨k, f', hk, rfl, hb, hres, hblk, hft, hfo⟩ := hrel
          have HFO := Lib.hid hfo; clear hfo
          have hbound := hblk.lt
          by_cases hk4 : k < 4
          · obtain ⟨s, hs⟩ : ∃ s, s = m (4 * t + k) := ⟨_, rfl⟩
            have cs : wr.cell? ⟨g, o + (4 * t + k), none⟩ = some (.int .u8 (s.toNat : Int)) := by
              rw [hb.cell (p := ⟨g, o + (4 * t + k), none⟩) hg, hs]; exact HR.out _ (by omega)
            have ct := hblk.word t hlt
            obtain ⟨x, hx⟩ : ∃ x, x = acc m t k := ⟨_, rfl⟩
            rw [hft, ← hx] at ct
            obtain ⟨x2, hx2⟩ : ∃ r, r = x * 256 := ⟨_, rfl⟩
            obtain ⟨su, hsu⟩ : ∃ r, r = s.toUInt32 := ⟨_, rfl⟩
            obtain ⟨x3, hx3⟩ : ∃ r, r = x2 + su := ⟨_, rfl⟩
            have g2 : IntKind.u32.wrap ((x.toNat : Int) * 256) = (x2.toNat : Int) := by rw [mul256, hx2]
            have gu : IntKind.u32.wrap (s.toNat : Int) = (su.toNat : Int) := by rw [byteU, hsu]
            have g3 : IntKind.u32.wrap ((x2.toNat : Int) + (su.toNat : Int)) = (x3.toNat : Int) := by rw [add32, hx3]
            have Hx3 : Hid (x3 = acc m t (k + 1)) := Lib.hid (by rw [hx3, hx2, hsu, hx, hs]; rfl)
            have i1 : IntKind.i64.wrap (4 * (t : Int)) = 4 * (t : Int) := IntWalk.i64_in _ (by omega)
            have i2 : IntKind.i64.wrap (4 * (t : Int) + (k : Int)) = 4 * (t : Int) + (k : Int) := IntWalk.i64_in _ (by omega)
            have i3 : (4 * (t : Int) + (k : Int)).toNat = 4 * t + k := by omega
            have i4 : 0 ≤ 4 * (t : Int) + (k : Int) := by omega
            have i5 : 4 * (t : Int) + (k : Int) < (n : Int) := by omega
            have j1 : 0 ≤ (t : Int) := by omega
            have j2 : (t : Int) < 64 := by omega
            clear hx hx2 hsu hx3 hs hft
            go_wp2
            go_still_tail 14, (by kernel_rfl)
            clear cs ct g2 gu g3 i1 i2 i3 i4 i5
            change wpList _ _ _ _ _ wr.drew
            obtain ⟨wq, hwq⟩ : ∃ wq, wq = wr.drew := ⟨_, rfl⟩
            rw [← hwq]
            have bq : Blk wq (w.heap.size + 1) 48 (u32s 64 f') := by rw [hwq]; exact hblk
            have rq : Blk wq w.heap.size 48 (u32s 64 fun _ => 0) := by rw [hwq]; exact hres
            have lq : Below w.heap.size w wq := by rw [hwq]; exact hb.drew
            have cq := bq.word t hlt
            have zq := bq.frozen t
            clear hwq hblk hb hres hbound
            go_wp2
            go_roundw
            case rel =>
              exact ⟨k + 1, upd f' t x3, by omega, by go_num, lq.setCell (by simp) _, rq.far (by simp) _, bq.setW t x3, by rw [upd_same, Hx3.out], fun i hi hit => by rw [upd_other _ _ _ _ hit]; exact HFO.out i hi hit⟩
            case measure => simp [intOf]; omega
          · have Hk : Hid (f' t = word m t) := Lib.hid (by rw [hft, show k = 4 by omega, acc4])
            clear hft hbound
            go_wp2
            go_roundw
            case rel =>
              refine ⟨t + 1, f', by omega, by go_num, hb, hres, hblk, fun i hi => ?_⟩
              by_cases hit : i = t
              · subst hit; rw [Hk.out, if_pos (by omega), sched_lo _ _ h16]
              · rw [HFO.out i hi hit, HF.out i hi]
                by_cases h : i < t
                · rw [if_pos h, if_pos (by omega)]
                · rw [if_neg h, if_neg (by omega)]
            case measure => simp [intOf]; omega
      · have e2 : ((t : Int) - 2).toNat = t - 2 := by omega
        have p2 : 0 ≤ (t : Int) - 2 := by omega
        have p2' : 2 ≤ (t : Int) := by omega
        have q2 : (t : Int) - 2 < 64 := by omega
        have w2 : IntKind.i64.wrap ((t : Int) - 2) = (t : Int) - 2 := IntWalk.i64_in _ (by omega)
        obtain ⟨x2, hx2⟩ : ∃ x, x = f (t - 2) := ⟨_, rfl⟩
        have c2 : wr.cell? ⟨w.heap.size + 1, t - 2, none⟩ = some (.int .u32 (x2.toNat : Int)) := by rw [hx2]; exact hblk.word (t - 2) (by omega)
        obtain ⟨ra, hra⟩ : ∃ r, r = rotr x2 17 := ⟨_, rfl⟩
        obtain ⟨rb, hrb⟩ : ∃ r, r = rotr x2 19 := ⟨_, rfl⟩
        obtain ⟨rs, hrs⟩ : ∃ r, r = x2 >>> UInt32.ofNat 10 := ⟨_, rfl⟩
        have gs : (x2.toNat : Int) / 1024 = (rs.toNat : Int) := by have := shr32 x2 10 (by omega); rw [hrs, ← this]; rfl
        obtain ⟨s1, hs1⟩ : ∃ r, r = ra ^^^ rb ^^^ rs := ⟨_, rfl⟩
        have QA := Lib.hid (rturnQ_17 wr x2 ra hra)
        have QB := Lib.hid (rturnQ_19 wr x2 rb hrb)
        have Q3 := Lib.hid (threeQ wr ra rb rs s1 hs1)
        have Hs1 : Hid (s1 = ss1 (f (t - 2))) := Lib.hid (by rw [hs1, hra, hrb, hrs, hx2]; rfl)
        clear hs1 hra hrb hrs hx2
        go_wp2
        go_quiet (first | (with_reducible exact QA.out _) | (with_reducible exact QB.out _) | (with_reducible exact Q3.out _))
        clear c2 gs e2 p2 p2' q2 w2
        obtain ⟨wa, hW⟩ : ∃ wa, wa = wr.drewN nq := ⟨_, rfl⟩
        rw [← hW]
        replace hblk : Blk wa (w.heap.size + 1) 48 (u32s 64 f) := by rw [hW]; exact hblk
        replace hres : Blk wa w.heap.size 48 (u32s 64 fun _ => 0) := by rw [hW]; exact hres
        replace hb : Below w.heap.size w wa := by rw [hW]; exact ⟨hb.os, hb.tape, hb.output, hb.size, hb.block⟩
        have hbound := hblk.lt
        clear hW
        have e15 : ((t : Int) - 15).toNat = t - 15 := by omega
        have p15 : 0 ≤ (t : Int) - 15 := by omega
        have p15' : 15 ≤ (t : Int) := by omega
        have q15 : (t : Int) - 15 < 64 := by omega
        have w15 : IntKind.i64.wrap ((t : Int) - 15) = (t : Int) - 15 := IntWalk.i64_in _ (by omega)
        obtain ⟨x15, hx15⟩ : ∃ x, x = f (t - 15) := ⟨_, rfl⟩
        have c15 : wa.cell? ⟨w.heap.size + 1, t - 15, none⟩ = some (.int .u32 (x15.toNat : Int)) := by rw [hx15]; exact hblk.word (t - 15) (by omega)
        obtain ⟨ra, hra⟩ : ∃ r, r = rotr x15 7 := ⟨_, rfl⟩
        obtain ⟨rb, hrb⟩ : ∃ r, r = rotr x15 18 := ⟨_, rfl⟩
        obtain ⟨rs, hrs⟩ : ∃ r, r = x15 >>> UInt32.ofNat 3 := ⟨_, rfl⟩
        have gs : (x15.toNat : Int) / 8 = (rs.toNat : Int) := by have := shr32 x15 3 (by omega); rw [hrs, ← this]; rfl
        obtain ⟨s0, hs0⟩ : ∃ r, r = ra ^^^ rb ^^^ rs := ⟨_, rfl⟩
        have QA := Lib.hid (rturnQ_7 wa x15 ra hra)
        have QB := Lib.hid (rturnQ_18 wa x15 rb hrb)
        have Q3 := Lib.hid (threeQ wa ra rb rs s0 hs0)
        have Hs0 : Hid (s0 = ss0 (f (t - 15))) := Lib.hid (by rw [hs0, hra, hrb, hrs, hx15]; rfl)
        clear hs0 hra hrb hrs hx15
        go_wp2
        go_quiet (first | (with_reducible exact QA.out _) | (with_reducible exact QB.out _) | (with_reducible exact Q3.out _))
        clear c15 gs e15 p15 p15' q15 w15
        obtain ⟨wb, hW⟩ : ∃ wb, wb = wa.drewN nq := ⟨_, rfl⟩
        rw [← hW]
        replace hblk : Blk wb (w.heap.size + 1) 48 (u32s 64 f) := by rw [hW]; exact hblk
        replace hres : Blk wb w.heap.size 48 (u32s 64 fun _ => 0) := by rw [hW]; exact hres
        replace hb : Below w.heap.size w wb := by rw [hW]; exact ⟨hb.os, hb.tape, hb.output, hb.size, hb.block⟩
        have hbound := hblk.lt
        clear hW
        have e7 : ((t : Int) - 7).toNat = t - 7 := by omega
        have p7 : 0 ≤ (t : Int) - 7 := by omega
        have p7' : 7 ≤ (t : Int) := by omega
        have q7 : (t : Int) - 7 < 64 := by omega
        have w7 : IntKind.i64.wrap ((t : Int) - 7) = (t : Int) - 7 := IntWalk.i64_in _ (by omega)
        have e16 : ((t : Int) - 16).toNat = t - 16 := by omega
        have p16 : 0 ≤ (t : Int) - 16 := by omega
        have p16' : 16 ≤ (t : Int) := by omega
        have q16 : (t : Int) - 16 < 64 := by omega
        have w16 : IntKind.i64.wrap ((t : Int) - 16) = (t : Int) - 16 := IntWalk.i64_in _ (by omega)
        obtain ⟨x7, hx7⟩ : ∃ x, x = f (t - 7) := ⟨_, rfl⟩
        obtain ⟨x16, hx16⟩ : ∃ x, x = f (t - 16) := ⟨_, rfl⟩
        have c7 : wb.cell? ⟨w.heap.size + 1, t - 7, none⟩ = some (.int .u32 (x7.toNat : Int)) := by rw [hx7]; exact hblk.word (t - 7) (by omega)
        have c16 : wb.cell? ⟨w.heap.size + 1, t - 16, none⟩ = some (.int .u32 (x16.toNat : Int)) := by rw [hx16]; exact hblk.word (t - 16) (by omega)
        obtain ⟨y1, hy1⟩ : ∃ r, r = s1 + x7 := ⟨_, rfl⟩
        obtain ⟨y2, hy2⟩ : ∃ r, r = y1 + s0 := ⟨_, rfl⟩
        obtain ⟨y3, hy3⟩ : ∃ r, r = y2 + x16 := ⟨_, rfl⟩
        have g1 : IntKind.u32.wrap ((s1.toNat : Int) + (x7.toNat : Int)) = (y1.toNat : Int) := by rw [add32, hy1]
        have g2 : IntKind.u32.wrap ((y1.toNat : Int) + (s0.toNat : Int)) = (y2.toNat : Int) := by rw [add32, hy2]
        have g3 : IntKind.u32.wrap ((y2.toNat : Int) + (x16.toNat : Int)) = (y3.toNat : Int) := by rw [add32, hy3]
        have Hy3 : Hid (y3 = sched (word m) t) := Lib.hid (by
          rw [hy3, hy2, hy1, Hs1.out, Hs0.out, hx7, hx16, sched_hi _ _ h16, HF.out (t - 2) (by omega), HF.out (t - 7) (by omega), HF.out (t - 15) (by omega), HF.out (t - 16) (by omega), if_pos (by omega), if_pos (by omega), if_pos (by omega), if_pos (by omega)])
        clear hx7 hx16 hy1 hy2 hy3
        go_wp2
        go_still_tail 14, (by kernel_rfl)
        clear c7 c16 g1 g2 g3 e7 p7 p7' q7 w7 e16 p16 p16' q16 w16
        change wpList _ _ _ _ _ wb.drew
        obtain ⟨wq, hwq⟩ : ∃ wq, wq = wb.drew := ⟨_, rfl⟩
        rw [← hwq]
        have bq : Blk wq (w.heap.size + 1) 48 (u32s 64 f) := by rw [hwq]; exact hblk
        have rq : Blk wq w.heap.size 48 (u32s 64 fun _ => 0) := by rw [hwq]; exact hres
        have lq : Below w.heap.size w wq := by rw [hwq]; exact hb.drew
        have cq := bq.word t hlt
        have zq := bq.frozen t
        clear hwq hblk hb hres hbound
        go_wp2
        go_roundw
        case rel =>
          refine ⟨t + 1, upd f t y3, by omega, by go_num, lq.setCell (by simp) _, rq.far (by simp) _, bq.setW t y3, fun i hi => ?_⟩
          by_cases hit : i = t
          · subst hit; rw [upd_same, if_pos (by omega), Hy3.out]
          · rw [upd_other _ _ _ _ hit, HF.out i hi]
            by_cases h : i < t
            · rw [if_pos h, if_pos (by omega)]
            · rw [if_neg h, if_neg (by omega)]
        case measure => simp [intOf]; omega
    · have Hz : Hid (u32s 64 f = u32s 64 (sched (word m))) := Lib.hid (u32s_congr fun i hi => by rw [HF.out i hi, if_pos (by omega)])
      obtain ⟨F, hF⟩ : ∃ F, F = u32s 64 f := ⟨_, rfl⟩
      rw [← hF] at hblk Hz
      have hFs : F.size = 64 := by rw [hF, u32s_size]
      have hF1 : F.all (·.oneCell') = true := by rw [hF]; exact u32s_one 64 f
      have rw7 : Blk (wr.setRow w.heap.size F) w.heap.size 48 F := setRow_heap wr w.heap.size _ _ _ _ hres
      have lw7 : Below w.heap.size w (wr.setRow w.heap.size F) := below_setRow hb (Nat.le_refl _) _
      have HFs := Lib.hid hFs; have HF1 := Lib.hid hF1
      clear hF hFs hF1
      go_wp2_with (first
        | (refine wpList_load_row rfl 48 _ rfl (w.heap.size + 1) rfl 48 F (0, 0) _ hblk Tryd.underlying48 rfl (by rw [HFs.out]; kernel_rfl) ?_)
        | (refine wpList_store_row rfl 48 _ _ rfl w.heap.size F rfl rfl 48 (u32s 64 fun _ => 0) hres (by rw [HFs.out]; kernel_rfl) (by rw [HFs.out, u32s_size]) HF1.out ?_))
      exact bodyPost_ret (v := .agg F) (results_cell_row rfl _ _ w.heap.size 48 F (0, 0) _ rfl rw7 Tryd.underlying48 rfl (by rw [HFs.out]; kernel_rfl)) rfl ⟨by rw [Hz.out], lw7⟩
end Go.Proofs.YtjbagoedaelmnaaDoor
