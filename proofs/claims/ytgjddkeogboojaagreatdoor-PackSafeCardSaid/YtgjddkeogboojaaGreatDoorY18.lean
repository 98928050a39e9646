/-
  The document's digest: blocks, Named.
-/
import Derived.StillTailTactics
import Derived.Laws.CopyOwn
import Derived.Test.YtgjddkeogboojaaGreatDoorY05
import Derived.Test.YtgjddkeogboojaaGreatDoorY02
set_option maxHeartbeats 16000000
set_option maxRecDepth 100000
namespace Go.Proofs.YtgjddkeogboojaaGreatDoor
open Go Go.RowKit
theorem z5w (w : World) (x r : UInt32) (n : Nat) (h1 : 1 ≤ n) (h2 : n < 32) (hr : r = rotr x (UInt32.ofNat n)) (m : Nat) :
 Calls Tryz.prog 79 #[.int .u32 (x.toNat : Int), .int .i64 (n : Int)] (w.drewN m) fun e w'' => e = .returned (.int .u32 (r.toNat : Int)) ∧ ∃ m, w'' = w.drewN m :=
 hr ▸ (zkw x n h1 h2 (w.drewN m)).mono fun _ _ ⟨he, m', hw⟩ => ⟨he, m + m', by rw [hw, World.drewN_drewN]⟩
theorem rturnQ_2 (w : World) (x r : UInt32) (hr : r = rotr x 2) (m : Nat) : Calls Tryz.prog 79 #[.int .u32 (x.toNat : Int), .int .i64 2] (w.drewN m) fun e w'' => e = .returned (.int .u32 (r.toNat : Int)) ∧ ∃ m, w'' = w.drewN m := z5w w x r 2 (by omega) (by omega) hr m
theorem zmq (w : World) (x r : UInt32) (hr : r = rotr x 13) (m : Nat) : Calls Tryz.prog 79 #[.int .u32 (x.toNat : Int), .int .i64 13] (w.drewN m) fun e w'' => e = .returned (.int .u32 (r.toNat : Int)) ∧ ∃ m, w'' = w.drewN m := z5w w x r 13 (by omega) (by omega) hr m
theorem zmr (w : World) (x r : UInt32) (hr : r = rotr x 22) (m : Nat) : Calls Tryz.prog 79 #[.int .u32 (x.toNat : Int), .int .i64 22] (w.drewN m) fun e w'' => e = .returned (.int .u32 (r.toNat : Int)) ∧ ∃ m, w'' = w.drewN m := z5w w x r 22 (by omega) (by omega) hr m
theorem rturnQ_6 (w : World) (x r : UInt32) (hr : r = rotr x 6) (m : Nat) : Calls Tryz.prog 79 #[.int .u32 (x.toNat : Int), .int .i64 6] (w.drewN m) fun e w'' => e = .returned (.int .u32 (r.toNat : Int)) ∧ ∃ m, w'' = w.drewN m := z5w w x r 6 (by omega) (by omega) hr m
theorem zms (w : World) (x r : UInt32) (hr : r = rotr x 11) (m : Nat) : Calls Tryz.prog 79 #[.int .u32 (x.toNat : Int), .int .i64 11] (w.drewN m) fun e w'' => e = .returned (.int .u32 (r.toNat : Int)) ∧ ∃ m, w'' = w.drewN m := z5w w x r 11 (by omega) (by omega) hr m
theorem zmt (w : World) (x r : UInt32) (hr : r = rotr x 25) (m : Nat) : Calls Tryz.prog 79 #[.int .u32 (x.toNat : Int), .int .i64 25] (w.drewN m) fun e w'' => e = .returned (.int .u32 (r.toNat : Int)) ∧ ∃ m, w'' = w.drewN m := z5w w x r 25 (by omega) (by omega) hr m
theorem rturnQ_7 (w : World) (x r : UInt32) (hr : r = rotr x 7) (m : Nat) : Calls Tryz.prog 79 #[.int .u32 (x.toNat : Int), .int .i64 7] (w.drewN m) fun e w'' => e = .returned (.int .u32 (r.toNat : Int)) ∧ ∃ m, w'' = w.drewN m := z5w w x r 7 (by omega) (by omega) hr m
theorem zmu (w : World) (x r : UInt32) (hr : r = rotr x 18) (m : Nat) : Calls Tryz.prog 79 #[.int .u32 (x.toNat : Int), .int .i64 18] (w.drewN m) fun e w'' => e = .returned (.int .u32 (r.toNat : Int)) ∧ ∃ m, w'' = w.drewN m := z5w w x r 18 (by omega) (by omega) hr m
theorem zmv (w : World) (x r : UInt32) (hr : r = rotr x 17) (m : Nat) : Calls Tryz.prog 79 #[.int .u32 (x.toNat : Int), .int .i64 17] (w.drewN m) fun e w'' => e = .returned (.int .u32 (r.toNat : Int)) ∧ ∃ m, w'' = w.drewN m := z5w w x r 17 (by omega) (by omega) hr m
theorem zmw (w : World) (x r : UInt32) (hr : r = rotr x 19) (m : Nat) : Calls Tryz.prog 79 #[.int .u32 (x.toNat : Int), .int .i64 19] (w.drewN m) fun e w'' => e = .returned (.int .u32 (r.toNat : Int)) ∧ ∃ m, w'' = w.drewN m := z5w w x r 19 (by omega) (by omega) hr m
theorem zhd (w : World) (a b c r : UInt32) (hr : r = a ^^^ b ^^^ c) (m : Nat) :
 Calls Tryz.prog 78 #[.int .u32 (a.toNat : Int), .int .u32 (b.toNat : Int), .int .u32 (c.toNat : Int)] (w.drewN m) fun e w'' => e = .returned (.int .u32 (r.toNat : Int)) ∧ ∃ m, w'' = w.drewN m :=
 hr ▸ (zkv a b c (w.drewN m)).mono fun _ _ ⟨he, hw⟩ => ⟨he, m, hw.symm⟩
def acc (m : Nat → UInt8) (t : Nat) : Nat → UInt32
 | 0 => 0
 | k + 1 => acc m t k * 256 + (m (4 * t + k)).toUInt32
theorem acc4 (m : Nat → UInt8) (t : Nat) : acc m t 4 = word m t := by
 have e : acc m t 4 = (((0 * 256 + (m (4 * t)).toUInt32) * 256 + (m (4 * t + 1)).toUInt32) * 256 + (m (4 * t + 2)).toUInt32) * 256 + (m (4 * t + 3)).toUInt32 := rfl;rw [e];unfold word;generalize m (4 * t) = a;generalize m (4 * t + 1) = b;generalize m (4 * t + 2) = c;generalize m (4 * t + 3) = d;have ha := a.toNat_lt; have hb := b.toNat_lt; have hc := c.toNat_lt; have hd := d.toNat_lt;rw [← UInt32.toNat_inj];have s1 : (a.toUInt32 <<< 24).toNat = a.toNat <<< 24 := by rw [UInt32.toNat_shiftLeft]; simp; omega
 have s2 : (b.toUInt32 <<< 16).toNat = b.toNat * 65536 := by rw [UInt32.toNat_shiftLeft]; simp; omega
 have s3 : (c.toUInt32 <<< 8).toNat = c.toNat * 256 := by rw [UInt32.toNat_shiftLeft]; simp; omega
 rw [UInt32.toNat_or, UInt32.toNat_or, UInt32.toNat_or, s1, s2, s3, UInt8.toNat_toUInt32,
  ← Nat.shiftLeft_add_eq_or_of_lt (show b.toNat * 65536 < 2 ^ 24 by omega), show a.toNat <<< 24 + b.toNat * 65536 = (a.toNat * 256 + b.toNat) <<< 16 by rw [Nat.shiftLeft_eq, Nat.shiftLeft_eq]; omega,
  ← Nat.shiftLeft_add_eq_or_of_lt (show c.toNat * 256 < 2 ^ 16 by omega), show (a.toNat * 256 + b.toNat) <<< 16 + c.toNat * 256 = ((a.toNat * 256 + b.toNat) * 256 + c.toNat) <<< 8 by rw [Nat.shiftLeft_eq, Nat.shiftLeft_eq]; omega,
  ← Nat.shiftLeft_add_eq_or_of_lt (show d.toNat < 2 ^ 8 by omega), Nat.shiftLeft_eq]
 simp only [UInt32.toNat_add, UInt32.toNat_mul, UInt8.toNat_toUInt32];simp;omega
theorem byteU (x : UInt8) : IntKind.u32.wrap (x.toNat : Int) = ((x.toUInt32).toNat : Int) := by
 have := x.toNat_lt;rw [z5z, UInt8.toNat_toUInt32, Nat.mod_eq_of_lt (by omega)]
theorem mul256 (x : UInt32) : IntKind.u32.wrap ((x.toNat : Int) * 256) = ((x * 256).toNat : Int) := by
 rw [show ((x.toNat : Int) * 256) = ((x.toNat * 256 : Nat) : Int) by omega, z5z, UInt32.toNat_mul]; rfl
theorem zds (w : World) (g o c n : Nat) (m : Nat → UInt8) (hn : 64 ≤ n) (hn2 : n ≤ 90000) (hr : ∀ j, j < 64 → w.cell? ⟨g, o + j, none⟩ = some (.int .u8 ((m j).toNat : Int))) :
 Calls Tryz.prog 77 #[.slice (some ⟨g, o, none⟩) n c] w fun e w' => e = .returned (.agg (u32s 64 (z2o (word m)))) ∧ Below w.heap.size w w' := by
 have hg : g < w.heap.size := by have := block_lt_of_cell (hr 0 (by omega)); exact this
 have HR := zh hr; clear hr
 go_enter Tryz.func77, Tryz.ntmps77
 go_wp2
 go_loopw [4, 5, 6, 7] (fun i _ _ _ wr => ∃ (t : Nat) (f : Nat → UInt32), t ≤ 64 ∧ i = .int .i64 t ∧ Below w.heap.size w wr ∧ Blk wr w.heap.size 155 (u32s 64 fun _ => 0) ∧ Blk wr (w.heap.size + 1) 155 (u32s 64 f) ∧ (∀ i, i < 64 → f i = if i < t then z2o (word m) i else 0)) (fun i _ _ _ _ => 64 - (intOf i).toNat)
 case atStart => exact ⟨0, fun _ => 0, Nat.zero_le _, rfl, ((Below.refl _ _).alloc zl _).alloc (by simp) _, by exact (Blk.new w _ _).alloc _, by exact heap_alloc2_new w _ _, fun i hi => by rw [if_neg (Nat.not_lt_zero _)]⟩
 case round =>
  obtain ⟨t, f, ht, rfl, hb, hres, hblk, hf⟩ := hrel;have HF := zh hf; clear hf;have hbound := hblk.lt;by_cases hlt : t < 64
  · by_cases h16 : t < 16
    · have d16 : decide ((t : Int) < 16) = true := decide_eq_true (by omega);have d64 : decide ((t : Int) < 64) = true := decide_eq_true (by omega)
      go_wp2
      clear hbound
      go_loopw [5] (fun i wx => ∃ (k : Nat) (f' : Nat → UInt32), k ≤ 4 ∧ i = .int .i64 k ∧ Below w.heap.size w wx ∧ Blk wx w.heap.size 155 (u32s 64 fun _ => 0) ∧ Blk wx (w.heap.size + 1) 155 (u32s 64 f') ∧ f' t = acc m t k ∧ (∀ i, i < 64 → i ≠ t → f' i = f i)) (fun i _ => 4 - (intOf i).toNat)
      case atStart => exact ⟨0, f, Nat.zero_le _, rfl, hb, hres, hblk, by rw [HF.out t hlt, if_neg (Nat.lt_irrefl _)]; rfl, fun _ _ _ => rfl⟩
      case round =>
       clear hb hres hblk;obtain ⟨k, f', hk, rfl, hb, hres, hblk, hft, hfo⟩ := hrel;have HFO := zh hfo; clear hfo;have hbound := hblk.lt;by_cases hk4 : k < 4
       · obtain ⟨s, hs⟩ := zx (m (4 * t + k))
         have cs : wr.cell? ⟨g, o + (4 * t + k), none⟩ = some (.int .u8 (s.toNat : Int)) := by
          rw [hb.cell (p := ⟨g, o + (4 * t + k), none⟩) hg, hs]; exact HR.out _ (by omega)
         have ct := hblk.word t hlt;obtain ⟨x, hx⟩ := zx (acc m t k);rw [hft, ← hx] at ct;obtain ⟨x2, hx2⟩ := zx (x * 256);obtain ⟨su, hsu⟩ := zx s.toUInt32;obtain ⟨x3, hx3⟩ := zx (x2 + su);have g2 : IntKind.u32.wrap ((x.toNat : Int) * 256) = (x2.toNat : Int) := by rw [mul256, hx2]
         have gu : IntKind.u32.wrap (s.toNat : Int) = (su.toNat : Int) := by rw [byteU, hsu]
         have g3 : IntKind.u32.wrap ((x2.toNat : Int) + (su.toNat : Int)) = (x3.toNat : Int) := by rw [z4x, hx3]
         have Hx3 : Hid (x3 = acc m t (k + 1)) := zh (by rw [hx3, hx2, hsu, hx, hs]; rfl);have i1 : IntKind.i64.wrap (4 * (t : Int)) = 4 * (t : Int) := IntWalk.i64_in _ (by omega);have i2 : IntKind.i64.wrap (4 * (t : Int) + (k : Int)) = 4 * (t : Int) + (k : Int) := IntWalk.i64_in _ (by omega);have i3 : (4 * (t : Int) + (k : Int)).toNat = 4 * t + k := by omega
         have i4 : 0 ≤ 4 * (t : Int) + (k : Int) := by omega
         have i5 : 4 * (t : Int) + (k : Int) < (n : Int) := by omega
         have j1 : 0 ≤ (t : Int) := by omega
         have j2 : (t : Int) < 64 := by omega
         clear hx hx2 hsu hx3 hs hft
         go_wp2
         go_still_tail 14, (by kernel_rfl)
         clear cs ct g2 gu g3 i1 i2 i3 i4 i5;change wpList _ _ _ _ _ wr.drew;obtain ⟨wq, hwq⟩ := zx wr.drew;rw [← hwq];have bq : Blk wq (w.heap.size + 1) 155 (u32s 64 f') := by rw [hwq]; exact hblk
         have rq : Blk wq w.heap.size 155 (u32s 64 fun _ => 0) := by rw [hwq]; exact hres
         have lq : Below w.heap.size w wq := by rw [hwq]; exact hb.drew
         have cq := bq.word t hlt;have zq := bq.frozen t;clear hwq hblk hb hres hbound
         go_wp2
         go_roundw
         case rel =>
          exact ⟨k + 1, upd f' t x3, by omega, by go_num, lq.setCell (by simp) _, rq.far (by simp) _, bq.setW t x3, by rw [z0q, Hx3.out], fun i hi hit => by rw [z09 _ _ _ _ hit]; exact HFO.out i hi hit⟩
         case measure => simp [intOf]; omega
       · have Hk : Hid (f' t = word m t) := zh (by rw [hft, show k = 4 by omega, acc4]);clear hft hbound
         go_wp2
         go_roundw
         case rel =>
          refine ⟨t + 1, f', by omega, by go_num, hb, hres, hblk, fun i hi => ?_⟩;by_cases hit : i = t
          · subst hit; rw [Hk.out, if_pos (by omega), z85 _ _ h16]
          · rw [HFO.out i hi hit, HF.out i hi];by_cases h : i < t
            · rw [if_pos h, if_pos (by omega)]
            · rw [if_neg h, if_neg (by omega)]
         case measure => simp [intOf]; omega
    · have e2 : ((t : Int) - 2).toNat = t - 2 := by omega
      have p2 : 0 ≤ (t : Int) - 2 := by omega
      have p2' : 2 ≤ (t : Int) := by omega
      have q2 : (t : Int) - 2 < 64 := by omega
      have w2 : IntKind.i64.wrap ((t : Int) - 2) = (t : Int) - 2 := IntWalk.i64_in _ (by omega);obtain ⟨x2, hx2⟩ := zx (f (t - 2));have c2 : wr.cell? ⟨w.heap.size + 1, t - 2, none⟩ = some (.int .u32 (x2.toNat : Int)) := by rw [hx2]; exact hblk.word (t - 2) (by omega)
      obtain ⟨ra, hra⟩ := zx (rotr x2 17);obtain ⟨rb, hrb⟩ := zx (rotr x2 19);obtain ⟨rs, hrs⟩ := zx (x2 >>> UInt32.ofNat 10);have gs : (x2.toNat : Int) / 1024 = (rs.toNat : Int) := by have := zka x2 10 (by omega); rw [hrs, ← this]; rfl
      obtain ⟨s1, hs1⟩ := zx (ra ^^^ rb ^^^ rs);have QA := zh (zmv wr x2 ra hra);have QB := zh (zmw wr x2 rb hrb);have Q3 := zh (zhd wr ra rb rs s1 hs1);have Hs1 : Hid (s1 = ss1 (f (t - 2))) := zh (by rw [hs1, hra, hrb, hrs, hx2]; rfl);clear hs1 hra hrb hrs hx2
      go_wp2
      go_quiet (first | (with_reducible exact QA.out _) | (with_reducible exact QB.out _) | (with_reducible exact Q3.out _))
      clear c2 gs e2 p2 p2' q2 w2;obtain ⟨wa, hW⟩ := zx (wr.drewN nq);rw [← hW];replace hblk : Blk wa (w.heap.size + 1) 155 (u32s 64 f) := by rw [hW]; exact hblk
      replace hres : Blk wa w.heap.size 155 (u32s 64 fun _ => 0) := by rw [hW]; exact hres
      replace hb : Below w.heap.size w wa := by rw [hW]; exact ⟨hb.os, hb.tape, hb.output, hb.size, hb.block⟩
      have hbound := hblk.lt;clear hW;have e15 : ((t : Int) - 15).toNat = t - 15 := by omega
      have p15 : 0 ≤ (t : Int) - 15 := by omega
      have p15' : 15 ≤ (t : Int) := by omega
      have q15 : (t : Int) - 15 < 64 := by omega
      have w15 : IntKind.i64.wrap ((t : Int) - 15) = (t : Int) - 15 := IntWalk.i64_in _ (by omega);obtain ⟨x15, hx15⟩ := zx (f (t - 15));have c15 : wa.cell? ⟨w.heap.size + 1, t - 15, none⟩ = some (.int .u32 (x15.toNat : Int)) := by rw [hx15]; exact hblk.word (t - 15) (by omega)
      obtain ⟨ra, hra⟩ := zx (rotr x15 7);obtain ⟨rb, hrb⟩ := zx (rotr x15 18);obtain ⟨rs, hrs⟩ := zx (x15 >>> UInt32.ofNat 3);have gs : (x15.toNat : Int) / 8 = (rs.toNat : Int) := by have := zka x15 3 (by omega); rw [hrs, ← this]; rfl
      obtain ⟨s0, hs0⟩ := zx (ra ^^^ rb ^^^ rs);have QA := zh (rturnQ_7 wa x15 ra hra);have QB := zh (zmu wa x15 rb hrb);have Q3 := zh (zhd wa ra rb rs s0 hs0);have Hs0 : Hid (s0 = ss0 (f (t - 15))) := zh (by rw [hs0, hra, hrb, hrs, hx15]; rfl);clear hs0 hra hrb hrs hx15
      go_wp2
      go_quiet (first | (with_reducible exact QA.out _) | (with_reducible exact QB.out _) | (with_reducible exact Q3.out _))
      clear c15 gs e15 p15 p15' q15 w15;obtain ⟨wb, hW⟩ := zx (wa.drewN nq);rw [← hW];replace hblk : Blk wb (w.heap.size + 1) 155 (u32s 64 f) := by rw [hW]; exact hblk
      replace hres : Blk wb w.heap.size 155 (u32s 64 fun _ => 0) := by rw [hW]; exact hres
      replace hb : Below w.heap.size w wb := by rw [hW]; exact ⟨hb.os, hb.tape, hb.output, hb.size, hb.block⟩
      have hbound := hblk.lt;clear hW;have e7 : ((t : Int) - 7).toNat = t - 7 := by omega
      have p7 : 0 ≤ (t : Int) - 7 := by omega
      have p7' : 7 ≤ (t : Int) := by omega
      have q7 : (t : Int) - 7 < 64 := by omega
      have w7 : IntKind.i64.wrap ((t : Int) - 7) = (t : Int) - 7 := IntWalk.i64_in _ (by omega);have e16 : ((t : Int) - 16).toNat = t - 16 := by omega
      have p16 : 0 ≤ (t : Int) - 16 := by omega
      have p16' : 16 ≤ (t : Int) := by omega
      have q16 : (t : Int) - 16 < 64 := by omega
      have w16 : IntKind.i64.wrap ((t : Int) - 16) = (t : Int) - 16 := IntWalk.i64_in _ (by omega);obtain ⟨x7, hx7⟩ := zx (f (t - 7));obtain ⟨x16, hx16⟩ := zx (f (t - 16));have c7 : wb.cell? ⟨w.heap.size + 1, t - 7, none⟩ = some (.int .u32 (x7.toNat : Int)) := by rw [hx7]; exact hblk.word (t - 7) (by omega)
      have c16 : wb.cell? ⟨w.heap.size + 1, t - 16, none⟩ = some (.int .u32 (x16.toNat : Int)) := by rw [hx16]; exact hblk.word (t - 16) (by omega)
      obtain ⟨y1, hy1⟩ := zx (s1 + x7);obtain ⟨y2, hy2⟩ := zx (y1 + s0);obtain ⟨y3, hy3⟩ := zx (y2 + x16);have g1 : IntKind.u32.wrap ((s1.toNat : Int) + (x7.toNat : Int)) = (y1.toNat : Int) := by rw [z4x, hy1]
      have g2 : IntKind.u32.wrap ((y1.toNat : Int) + (s0.toNat : Int)) = (y2.toNat : Int) := by rw [z4x, hy2]
      have g3 : IntKind.u32.wrap ((y2.toNat : Int) + (x16.toNat : Int)) = (y3.toNat : Int) := by rw [z4x, hy3]
      have Hy3 : Hid (y3 = z2o (word m) t) := zh (by
       rw [hy3, hy2, hy1, Hs1.out, Hs0.out, hx7, hx16, z86 _ _ h16, HF.out (t - 2) (by omega), HF.out (t - 7) (by omega), HF.out (t - 15) (by omega), HF.out (t - 16) (by omega), if_pos (by omega), if_pos (by omega), if_pos (by omega), if_pos (by omega)])
      clear hx7 hx16 hy1 hy2 hy3
      go_wp2
      go_still_tail 14, (by kernel_rfl)
      clear c7 c16 g1 g2 g3 e7 p7 p7' q7 w7 e16 p16 p16' q16 w16;change wpList _ _ _ _ _ wb.drew;obtain ⟨wq, hwq⟩ := zx wb.drew;rw [← hwq];have bq : Blk wq (w.heap.size + 1) 155 (u32s 64 f) := by rw [hwq]; exact hblk
      have rq : Blk wq w.heap.size 155 (u32s 64 fun _ => 0) := by rw [hwq]; exact hres
      have lq : Below w.heap.size w wq := by rw [hwq]; exact hb.drew
      have cq := bq.word t hlt;have zq := bq.frozen t;clear hwq hblk hb hres hbound
      go_wp2
      go_roundw
      case rel =>
       refine ⟨t + 1, upd f t y3, by omega, by go_num, lq.setCell (by simp) _, rq.far (by simp) _, bq.setW t y3, fun i hi => ?_⟩;by_cases hit : i = t
       · subst hit; rw [z0q, if_pos (by omega), Hy3.out]
       · rw [z09 _ _ _ _ hit, HF.out i hi];by_cases h : i < t
         · rw [if_pos h, if_pos (by omega)]
         · rw [if_neg h, if_neg (by omega)]
      case measure => simp [intOf]; omega
  · have Hz : Hid (u32s 64 f = u32s 64 (z2o (word m))) := zh (z3a fun i hi => by rw [HF.out i hi, if_pos (by omega)]);obtain ⟨F, hF⟩ := zx (u32s 64 f);rw [← hF] at hblk Hz;have hFs : F.size = 64 := by rw [hF, z0d]
    have hF1 : F.all (·.oneCell') = true := by rw [hF]; exact z34 64 f
    have rw7 : Blk (wr.setRow w.heap.size F) w.heap.size 155 F := setRow_heap wr w.heap.size _ _ _ _ hres;have lw7 : Below w.heap.size w (wr.setRow w.heap.size F) := below_setRow hb zl _;have HFs := zh hFs; have HF1 := zh hF1;clear hF hFs hF1
    go_wp2_with (first
     | (refine wpList_load_row rfl 155 _ rfl (w.heap.size + 1) rfl 155 F (0, 0) _ hblk Tryz.underlying155 rfl (by rw [HFs.out]; kernel_rfl) ?_)
     | (refine wpList_store_row rfl 155 _ _ rfl w.heap.size F rfl rfl 155 (u32s 64 fun _ => 0) hres (by rw [HFs.out]; kernel_rfl) (by rw [HFs.out, z0d]) HF1.out ?_))
    exact bodyPost_ret (v := .agg F) (results_cell_row rfl _ _ w.heap.size 155 F (0, 0) _ rfl rw7 Tryz.underlying155 rfl (by rw [HFs.out]; kernel_rfl)) rfl ⟨by rw [Hz.out], lw7⟩
theorem zay : (∀ w, (zeroValue 153).run Tryz.prog w = .ok (.agg (u32s 64 fun _ => 0)) w) ∧ (Tryz.prog.info? 153).map (·.size) = some 64 := zero_of_info (by kernel_rfl)
theorem ziu (w : World) (o : Obj) : Below w.heap.size w (w.alloc o) := (Below.refl _ w).alloc zl o
theorem z59 {P : Program} {ops : Array Oper} {rest : List Oper} {o : Oper} {a : Act} {w : World} {Q : Exit → Act → World → Prop} (hg : o.guard = none) (t : TypeId) (parts : Array (Nat × Operand)) (ho : o.op = .build t parts)
 (cells : Array Value) (hf : P.built t (parts.map fun (i, x) => (i, a.eval x)).toList = some cells)
 (h : wpList P ops Q rest (a.put o.dst (.agg cells)) w) : wpList P ops Q (o :: rest) a w := by
 refine wpList_build hg t parts ho (by rw [hf]; rfl) ?_;rw [hf];exact h
theorem ziv (w : World) :
 Calls Tryz.prog 76 #[] w fun e w' => e = .returned (.agg (u32s 64 KF)) ∧ Below w.heap.size w w' := by
 have hz := zay.1
 go_enter Tryz.func76, Tryz.ntmps76
 have b0 : Blk (w.alloc (Obj.cells (u32s 64 fun _ => 0) 153)) w.heap.size 153 (u32s 64 fun _ => 0) := Blk.new w _ _;have b1 : Blk (w.alloc (Obj.cells (u32s 64 KF) 153)) w.heap.size 153 (u32s 64 KF) := Blk.new w _ _
 go_wp2_with (first
  | (refine z59 (o := ⟨some 9, _, _, _, _, _⟩) rfl 153 _ rfl (u32s 64 KF) (by kernel_rfl) ?_)
  | (refine wpList_store_row rfl 153 _ _ rfl w.heap.size (u32s 64 KF) rfl rfl 153 (u32s 64 fun _ => 0) b0 (by rw [z0d]; kernel_rfl) (by rw [z0d, z0d]) (z34 64 KF) ?_; rw [World.setRow_alloc_new]))
 exact bodyPost_ret (v := .agg (u32s 64 KF)) (results_cell_row rfl _ _ w.heap.size 153 (u32s 64 KF) (0, 0) _ rfl b1 Tryz.underlying153 rfl (by rw [z0d]; kernel_rfl)) rfl ⟨rfl, ziu w _⟩
def z6q (F : Nat → UInt32) (i j : Nat) : UInt32 := if i < j then F (j - 1) else F j
theorem rnd_get (k w : UInt32) (u : V) (x y : UInt32) (hx : x = rndX k w u) (hy : y = rndY u) (F1 : Nat → UInt32) (h1 : ∀ j, j < 8 → F1 j = z6q u.get 0 j) (a4 a0 : UInt32) (h4 : a4 = u.d + x) (h0 : a0 = x + y) :
 ∀ j, j < 8 → upd (upd F1 4 a4) 0 a0 j = (rnd k w u).get j := by
 intro j hj
 match j, hj with
 | 0, _ => rw [z0q, h0, hx, hy]; rfl
 | 1, _ => rw [z09 _ _ _ _ (by decide), z09 _ _ _ _ (by decide), h1 1 (by decide)]; rfl
 | 2, _ => rw [z09 _ _ _ _ (by decide), z09 _ _ _ _ (by decide), h1 2 (by decide)]; rfl
 | 3, _ => rw [z09 _ _ _ _ (by decide), z09 _ _ _ _ (by decide), h1 3 (by decide)]; rfl
 | 4, _ => rw [z09 _ _ _ _ (by decide), z0q, h4, hx]; rfl
 | 5, _ => rw [z09 _ _ _ _ (by decide), z09 _ _ _ _ (by decide), h1 5 (by decide)]; rfl
 | 6, _ => rw [z09 _ _ _ _ (by decide), z09 _ _ _ _ (by decide), h1 6 (by decide)]; rfl
 | 7, _ => rw [z09 _ _ _ _ (by decide), z09 _ _ _ _ (by decide), h1 7 (by decide)]; rfl
structure Bl (w wr : World) (b5 b6 b7 : Nat) (h : V) (Wf : Nat → UInt32) (F : Nat → UInt32) : Prop where
 below : Below w.heap.size w wr
 s2 : Blk wr w.heap.size 113 (u32s 8 h.get)
 s4 : Blk wr (w.heap.size + 1) 113 (u32s 8 fun _ => 0)
 s5 : Blk wr b5 153 (u32s 64 KF)
 s6 : Blk wr b6 155 (u32s 64 Wf)
 s7 : Blk wr b7 113 (u32s 8 F)
 o5 : w.heap.size + 1 < b5
 o6 : b5 < b6
 o7 : b6 < b7
theorem Bl.drewN {w wr : World} {b5 b6 b7 : Nat} {h : V} {Wf F : Nat → UInt32} (B : Bl w wr b5 b6 b7 h Wf F) (n : Nat) : Bl w (wr.drewN n) b5 b6 b7 h Wf F :=
 ⟨⟨B.below.os, B.below.tape, B.below.output, B.below.size, B.below.block⟩, B.s2, B.s4, B.s5, B.s6, B.s7, B.o5, B.o6, B.o7⟩
theorem Bl.set {w wr : World} {b5 b6 b7 : Nat} {h : V} {Wf F : Nat → UInt32} (B : Bl w wr b5 b6 b7 h Wf F) (i : Nat) (x : UInt32) : Bl w (wr.setCell ⟨b7, i, none⟩ (.int .u32 (x.toNat : Int))) b5 b6 b7 h Wf (upd F i x) := by
 have h5 := B.o5; have h6 := B.o6; have h7 := B.o7;exact ⟨B.below.setCell (by show w.heap.size ≤ b7; omega) _, B.s2.far (by show w.heap.size ≠ b7; omega) _, B.s4.far (by show w.heap.size + 1 ≠ b7; omega) _, B.s5.far (by show b5 ≠ b7; omega) _, B.s6.far (by show b6 ≠ b7; omega) _, B.s7.setW i x, h5, h6, h7⟩
theorem zmx (w : World) (h : V) (g o c n : Nat) (m : Nat → UInt8) (hn : 64 ≤ n) (hn2 : n ≤ 90000) (hr : ∀ j, j < 64 → w.cell? ⟨g, o + j, none⟩ = some (.int .u8 ((m j).toNat : Int))) :
 Calls Tryz.prog 56 #[.agg (u32s 8 h.get), .slice (some ⟨g, o, none⟩) n c] w fun e w' => e = .returned (.agg (u32s 8 (mixV KF h m).get)) ∧ Below w.heap.size w w' := by
 have hg : g < w.heap.size := by have := block_lt_of_cell (hr 0 (by omega)); exact this
 have HR := zh hr; clear hr;obtain ⟨H8, hH8⟩ := zx (u32s 8 h.get);rw [← hH8];have hs8 : H8.size = 8 := by rw [hH8, z0d]
 have ho8 : H8.all (·.oneCell') = true := by rw [hH8]; exact z34 8 _
 have HH8 := zh hH8; have HS8 := zh hs8; have HO8 := zh ho8;clear hH8 hs8 ho8
 go_enter Tryz.func56, Tryz.ntmps56
 go_wp2_with fail
 obtain ⟨wA, hwA⟩ := zx ((w.alloc (Obj.cells H8 113)).alloc (Obj.cells (u32s 8 fun _ => 0) 113));have eA : ((w.alloc (Obj.cells H8 113)).alloc (Obj.cells #[.int .u32 0, .int .u32 0, .int .u32 0, .int .u32 0, .int .u32 0, .int .u32 0, .int .u32 0, .int .u32 0] 113)) = wA := by rw [hwA]; rfl
 rw [eA];have lA : Below w.heap.size w wA := by rw [hwA]; exact ((Below.refl _ _).alloc zl _).alloc (by simp) _
 have a2 : Blk wA w.heap.size 113 H8 := by rw [hwA]; exact (Blk.new w _ _).alloc _
 have a4 : Blk wA (w.heap.size + 1) 113 (u32s 8 fun _ => 0) := by rw [hwA]; exact heap_alloc2_new w _ _
 have szA : w.heap.size + 2 ≤ wA.heap.size := by rw [hwA]; simp
 clear eA hwA;refine (ziv wA).mono ?_;rintro e wB ⟨rfl, lB⟩;have lwB : Below w.heap.size w wB := lA.trans (lB.mono lA.size);have hz88 := zay.1;obtain ⟨wC, hwC⟩ := zx (wB.alloc (Obj.cells (u32s 64 KF) 153));have HwC := zh hwC;have lC : Below w.heap.size w wC := by rw [hwC]; exact lwB.alloc lwB.size _
 have c2 : Blk wC w.heap.size 113 H8 := by rw [hwC]; exact (a2.below lB a2.lt).alloc _
 have c4 : Blk wC (w.heap.size + 1) 113 (u32s 8 fun _ => 0) := by rw [hwC]; exact (a4.below lB a4.lt).alloc _
 have c5 : Blk wC wB.heap.size 153 (u32s 64 KF) := by rw [hwC]; exact Blk.new wB _ _
 have o5 : w.heap.size + 1 < wB.heap.size := by have := lB.size; omega
 clear hwC;have HSc := zh (zds wC g o c n m hn hn2 (fun j hj => by rw [lC.cell (p := ⟨g, o + j, none⟩) hg]; exact HR.out j hj))
 go_wp2_with (first
  | (refine wpList_store_row (o := ⟨none, .store 153 (.tmp 5) (.tmp 15), _, _, _, _⟩) rfl 153 _ _ rfl wB.heap.size (u32s 64 KF) rfl rfl 153 (u32s 64 fun _ => 0) (by exact Blk.new wB _ _) (by rw [z0d]; kernel_rfl) (by rw [z0d, z0d]) (z34 64 KF) ?_; rw [World.setRow_alloc_new, ← HwC.out]))
 refine HSc.out.mono ?_;rintro e wD ⟨rfl, lD⟩;obtain ⟨Wf, hWf⟩ := zx (z2o (word m));rw [← hWf];have HWf := zh hWf; clear hWf;have lwD : Below w.heap.size w wD := lC.trans (lD.mono lC.size);obtain ⟨wE, hwE⟩ := zx (wD.alloc (Obj.cells (u32s 64 Wf) 155));have HwE := zh hwE;have lE : Below w.heap.size w wE := by rw [hwE]; exact lwD.alloc lwD.size _
 have e2 : Blk wE w.heap.size 113 H8 := by rw [hwE]; exact (c2.below lD c2.lt).alloc _
 have e4 : Blk wE (w.heap.size + 1) 113 (u32s 8 fun _ => 0) := by rw [hwE]; exact (c4.below lD c4.lt).alloc _
 have e5 : Blk wE wB.heap.size 153 (u32s 64 KF) := by rw [hwE]; exact (c5.below lD c5.lt).alloc _
 have e6 : Blk wE wD.heap.size 155 (u32s 64 Wf) := by rw [hwE]; exact Blk.new wD _ _
 have o6 : wB.heap.size < wD.heap.size := Nat.lt_of_lt_of_le c5.lt lD.size;have z64 : Blk (wD.alloc (Obj.cells (u32s 64 fun _ => 0) 155)) wD.heap.size 155 (u32s 64 fun _ => 0) := Blk.new wD _ _;obtain ⟨wG, hwG⟩ := zx (wE.alloc (Obj.cells (u32s 8 h.get) 113));have HwG := zh hwG
 have B0 : Bl w wG wB.heap.size wD.heap.size wE.heap.size h Wf h.get := by
  rw [hwG];rw [HH8.out] at e2;exact ⟨lE.alloc lE.size _, e2.alloc _, e4.alloc _, e5.alloc _, e6.alloc _, Blk.new wE _ _, o5, o6, e6.lt⟩
 have b7s : Blk (wE.alloc (Obj.cells (u32s 8 fun _ => 0) 113)) wE.heap.size 113 (u32s 8 fun _ => 0) := Blk.new wE _ _;have hG : (wE.alloc (Obj.cells H8 113)) = wG := by rw [hwG, HH8.out]
 have HG := zh hG;clear hwG hG hwE
 go_wp2_with (first
  | (refine wpList_store_row (o := ⟨none, .store 155 (.tmp 6) (.tmp 17), _, _, _, _⟩) rfl 155 _ _ rfl wD.heap.size (u32s 64 Wf) rfl rfl 155 (u32s 64 fun _ => 0) (by exact z64) (by rw [z0d]; kernel_rfl) (by rw [z0d, z0d]) (z34 64 Wf) ?_; first | rw [World.setRow_alloc_new, ← HwE.out] | (refine Eq.mp ?_ (?_ : _)))
  | (refine wpList_load_row (o := ⟨some 18, _, _, _, _, _⟩) rfl 113 _ rfl w.heap.size rfl 113 H8 (0, 0) _ e2 Tryz.underlying113 rfl (by rw [HS8.out]; kernel_rfl) ?_)
  | (refine wpList_store_row (o := ⟨none, .store 113 (.tmp 7) (.tmp 18), _, _, _, _⟩) rfl 113 _ _ rfl wE.heap.size H8 rfl rfl 113 (u32s 8 fun _ => 0) (by exact b7s) (by rw [HS8.out]; kernel_rfl) (by rw [HS8.out, z0d]) HO8.out ?_; rw [World.setRow_alloc_new, HG.out]))
 clear HSc lB lwB lC c2 c4 c5 o5 lD lwD lE e2 e4 e5 e6 o6 z64 b7s HG HwG HwE HwC lA a2 a4 szA hz88;generalize wB.heap.size = b5 at B0 ⊢;generalize wD.heap.size = b6 at B0 ⊢;generalize wE.heap.size = b7 at B0 ⊢
 go_loopw [8, 9, 10, 11, 12, 13] (fun i _ _ _ _ _ wr => ∃ (t : Nat) (F : Nat → UInt32) (u : V), t ≤ 64 ∧ i = .int .i64 t ∧ Bl w wr b5 b6 b7 h Wf F ∧ u = rnds KF Wf h t ∧ (∀ j, j < 8 → F j = u.get j)) (fun i _ _ _ _ _ _ => 64 - (intOf i).toNat)
 case atStart => exact ⟨0, h.get, h, Nat.zero_le _, rfl, B0, rfl, fun _ _ => rfl⟩
 case round =>
  clear B0;obtain ⟨t, F, u, ht, rfl, hB, hu, hF⟩ := hrel;have HF := zh hF; have Hu := zh hu; clear hF hu;have ob5 := hB.o5; have ob6 := hB.o6; have ob7 := hB.o7;have lb7 := hB.s7.lt; have lb6 := hB.s6.lt; have lb5 := hB.s5.lt;by_cases hlt : t < 64
  · have d64 : decide ((t : Int) < 64) = true := decide_eq_true (by omega);have c4 : wr.cell? ⟨b7, 4, none⟩ = some (.int .u32 (u.e.toNat : Int)) := by rw [hB.s7.word 4 (by omega), HF.out 4 (by omega)]; rfl
    have c5 : wr.cell? ⟨b7, 5, none⟩ = some (.int .u32 (u.f.toNat : Int)) := by rw [hB.s7.word 5 (by omega), HF.out 5 (by omega)]; rfl
    have c6 : wr.cell? ⟨b7, 6, none⟩ = some (.int .u32 (u.g.toNat : Int)) := by rw [hB.s7.word 6 (by omega), HF.out 6 (by omega)]; rfl
    have c0 : wr.cell? ⟨b7, 0, none⟩ = some (.int .u32 (u.a.toNat : Int)) := by rw [hB.s7.word 0 (by omega), HF.out 0 (by omega)]; rfl
    have c1 : wr.cell? ⟨b7, 1, none⟩ = some (.int .u32 (u.b.toNat : Int)) := by rw [hB.s7.word 1 (by omega), HF.out 1 (by omega)]; rfl
    have c2 : wr.cell? ⟨b7, 2, none⟩ = some (.int .u32 (u.c.toNat : Int)) := by rw [hB.s7.word 2 (by omega), HF.out 2 (by omega)]; rfl
    obtain ⟨y4, hy4⟩ := zx (u.e &&& u.f);have gy4 : bits .and .u32 (u.e.toNat : Int) (u.f.toNat : Int) = (y4.toNat : Int) := by rw [za4, hy4]
    obtain ⟨y5, hy5⟩ := zx (~~~u.e);have gy5 : bits .xor .u32 (if IntKind.u32.signed = true then -1 else IntKind.u32.max) (u.e.toNat : Int) = (y5.toNat : Int) := by rw [not32', hy5]
    have gy5' : bits .xor .u32 4294967295 (u.e.toNat : Int) = (y5.toNat : Int) := by rw [not32, hy5]
    obtain ⟨y6, hy6⟩ := zx (y5 &&& u.g);have gy6 : bits .and .u32 (y5.toNat : Int) (u.g.toNat : Int) = (y6.toNat : Int) := by rw [za4, hy6]
    obtain ⟨y7, hy7⟩ := zx (y4 ^^^ y6);have gy7 : bits .xor .u32 (y4.toNat : Int) (y6.toNat : Int) = (y7.toNat : Int) := by rw [z5s, hy7]
    obtain ⟨z3, hz3⟩ := zx (u.a &&& u.b);have gz3 : bits .and .u32 (u.a.toNat : Int) (u.b.toNat : Int) = (z3.toNat : Int) := by rw [za4, hz3]
    obtain ⟨z4, hz4⟩ := zx (u.a &&& u.c);have gz4 : bits .and .u32 (u.a.toNat : Int) (u.c.toNat : Int) = (z4.toNat : Int) := by rw [za4, hz4]
    obtain ⟨z5, hz5⟩ := zx (z3 ^^^ z4);have gz5 : bits .xor .u32 (z3.toNat : Int) (z4.toNat : Int) = (z5.toNat : Int) := by rw [z5s, hz5]
    obtain ⟨z6, hz6⟩ := zx (u.b &&& u.c);have gz6 : bits .and .u32 (u.b.toNat : Int) (u.c.toNat : Int) = (z6.toNat : Int) := by rw [za4, hz6]
    obtain ⟨z7, hz7⟩ := zx (z5 ^^^ z6);have gz7 : bits .xor .u32 (z5.toNat : Int) (z6.toNat : Int) = (z7.toNat : Int) := by rw [z5s, hz7]
    have Hch : Hid (y7 = chs u.e u.f u.g) := zh (by rw [hy7, hy6, hy5, hy4]; rfl);have Hz7 : Hid (z7 = maj u.a u.b u.c) := zh (by rw [hz7, hz6, hz5, hz4, hz3]; rfl);clear hy4 hy5 hy6 hy7 hz3 hz4 hz5 hz6 hz7
    go_wp2
    clear c4 c5 c6 c0 c1 c2 gy4 gy5 gy5' gy6 gy7 gz3 gz4 gz5 gz6 gz7;have c7 : wr.cell? ⟨b7, 7, none⟩ = some (.int .u32 (u.h.toNat : Int)) := by rw [hB.s7.word 7 (by omega), HF.out 7 (by omega)]; rfl
    have c4 : wr.cell? ⟨b7, 4, none⟩ = some (.int .u32 (u.e.toNat : Int)) := by rw [hB.s7.word 4 (by omega), HF.out 4 (by omega)]; rfl
    obtain ⟨r6, hr6⟩ := zx (rotr u.e 6);obtain ⟨r11, hr11⟩ := zx (rotr u.e 11);obtain ⟨r25, hr25⟩ := zx (rotr u.e 25);obtain ⟨y2, hy2⟩ := zx (r6 ^^^ r11 ^^^ r25);have Q6 := zh (rturnQ_6 wr u.e r6 hr6);have Q11 := zh (zms wr u.e r11 hr11);have Q25 := zh (zmt wr u.e r25 hr25);have Q3 := zh (zhd wr r6 r11 r25 y2 hy2);obtain ⟨y3, hy3⟩ := zx (u.h + y2);have gy3 : IntKind.u32.wrap ((u.h.toNat : Int) + (y2.toNat : Int)) = (y3.toNat : Int) := by rw [z4x, hy3]
    have my3 : ((u.h.toNat : Int) + (y2.toNat : Int)) % 4294967296 = (y3.toNat : Int) := by rw [z2y, hy3]
    obtain ⟨y8, hy8⟩ := zx (y3 + y7);have gy8 : IntKind.u32.wrap ((y3.toNat : Int) + (y7.toNat : Int)) = (y8.toNat : Int) := by rw [z4x, hy8]
    have my8 : ((y3.toNat : Int) + (y7.toNat : Int)) % 4294967296 = (y8.toNat : Int) := by rw [z2y, hy8]
    obtain ⟨kt, hkt⟩ := zx (KF t);obtain ⟨y9, hy9⟩ := zx (y8 + kt);have gy9 : IntKind.u32.wrap ((y8.toNat : Int) + (kt.toNat : Int)) = (y9.toNat : Int) := by rw [z4x, hy9]
    have my9 : ((y8.toNat : Int) + (kt.toNat : Int)) % 4294967296 = (y9.toNat : Int) := by rw [z2y, hy9]
    obtain ⟨wt, hwt⟩ := zx (Wf t);obtain ⟨x, hx⟩ := zx (y9 + wt);have gx : IntKind.u32.wrap ((y9.toNat : Int) + (wt.toNat : Int)) = (x.toNat : Int) := by rw [z4x, hx]
    have mx : ((y9.toNat : Int) + (wt.toNat : Int)) % 4294967296 = (x.toNat : Int) := by rw [z2y, hx]
    obtain ⟨ta, hta⟩ := zx (t / 8);obtain ⟨tb, htb⟩ := zx (t % 8);have ta8 : ta < 8 := by omega
    have tb8 : tb < 8 := by omega
    have ga1 : (t : Int) / 8 = (ta : Int) := by omega
    have gb1 : (t : Int) % 8 = (tb : Int) := by omega
    have ga2 : (t : Int).tdiv 8 = (ta : Int) := by rw [Int.tdiv_eq_ediv_of_nonneg (by omega)]; exact ga1
    have gb2 : (t : Int).tmod 8 = (tb : Int) := by rw [Int.tmod_eq_emod_of_nonneg (by omega)]; exact gb1
    have ga3 : IntKind.i64.wrap (ta : Int) = (ta : Int) := IntWalk.i64_in _ (by omega);have gb3 : IntKind.i64.wrap (tb : Int) = (tb : Int) := IntWalk.i64_in _ (by omega);have ga4 : 0 ≤ (ta : Int) := by omega
    have gb4 : 0 ≤ (tb : Int) := by omega
    have ga5 : (ta : Int) < 8 := by omega
    have gb5 : (tb : Int) < 8 := by omega
    have gt5 : (t : Int) < 64 := by omega
    have gt6 : 0 ≤ (t : Int) := by omega
    have ck : wr.cell? ⟨b5, ta * 8 + tb, none⟩ = some (.int .u32 (kt.toNat : Int)) := by rw [hB.s5.word (ta * 8 + tb) (by omega), hkt, show ta * 8 + tb = t by omega]
    have cw : wr.cell? ⟨b6, t, none⟩ = some (.int .u32 (wt.toNat : Int)) := by rw [hB.s6.word t hlt, hwt]
    have Hx : Hid (x = rndX (KF t) (Wf t) u) := zh (by rw [hx, hy9, hy8, hy3, hy2, Hch.out, hkt, hwt, hr6, hr11, hr25]; rfl);clear hta htb hr6 hr11 hr25 hy2 hy3 hy8 hkt hy9 hwt hx
    go_quiet (first | (with_reducible exact Q6.out _) | (with_reducible exact Q11.out _) | (with_reducible exact Q25.out _) | (with_reducible exact Q3.out _))
    clear c7 c4 ck cw ga1 gb1 ga2 gb2 ga3 gb3 ga4 gb4 ga5 gb5 gt5 gt6 gy3 my3 gy8 my8 gy9 my9 gx
    try simp only [mx]
    clear mx;obtain ⟨wa, hwa⟩ := zx (wr.drewN nq);rw [← hwa];have hBa : Bl w wa b5 b6 b7 h Wf F := by rw [hwa]; exact hB.drewN _
    clear hwa hB lb5 lb6 lb7;have lb7 := hBa.s7.lt;have c0 : wa.cell? ⟨b7, 0, none⟩ = some (.int .u32 (u.a.toNat : Int)) := by rw [hBa.s7.word 0 (by omega), HF.out 0 (by omega)]; rfl
    obtain ⟨r2, hr2⟩ := zx (rotr u.a 2);obtain ⟨r13, hr13⟩ := zx (rotr u.a 13);obtain ⟨r22, hr22⟩ := zx (rotr u.a 22);obtain ⟨z2, hz2⟩ := zx (r2 ^^^ r13 ^^^ r22);have Q2 := zh (rturnQ_2 wa u.a r2 hr2);have Q13 := zh (zmq wa u.a r13 hr13);have Q22 := zh (zmr wa u.a r22 hr22);have Q4 := zh (zhd wa r2 r13 r22 z2 hz2);obtain ⟨y, hy⟩ := zx (z2 + z7);have gy : IntKind.u32.wrap ((z2.toNat : Int) + (z7.toNat : Int)) = (y.toNat : Int) := by rw [z4x, hy]
    have my : ((z2.toNat : Int) + (z7.toNat : Int)) % 4294967296 = (y.toNat : Int) := by rw [z2y, hy]
    have Hy : Hid (y = rndY u) := zh (by rw [hy, hz2, hr2, hr13, hr22, Hz7.out]; rfl);clear hr2 hr13 hr22 hz2 hy
    go_wp2
    go_quiet (first | (with_reducible exact Q2.out _) | (with_reducible exact Q13.out _) | (with_reducible exact Q22.out _) | (with_reducible exact Q4.out _))
    clear c0 gy
    try simp only [my]
    clear my;obtain ⟨wb, hwb⟩ := zx (wa.drewN nq);rw [← hwb];have hBb : Bl w wb b5 b6 b7 h Wf F := by rw [hwb]; exact hBa.drewN _
    clear hwb hBa lb7
    go_wp2
    go_loopw [13] (fun i wx => ∃ (k : Nat) (F' : Nat → UInt32), k ≤ 7 ∧ i = .int .i64 k ∧ Bl w wx b5 b6 b7 h Wf F' ∧ (∀ j, j < 8 → F' j = z6q F k j)) (fun i _ => (intOf i).toNat)
    case atStart => exact ⟨7, F, Nat.le_refl _, rfl, hBb, fun j hj => by unfold z6q; rw [if_neg (by omega)]⟩
    case round =>
     clear hBb;obtain ⟨k, F', hk, rfl, hBk, hFk⟩ := hrel;have HFk := zh hFk; clear hFk;have lb7 := hBk.s7.lt;by_cases hk0 : 0 < k
     · obtain ⟨v, hv⟩ := zx (F' (k - 1));have cv : wr.cell? ⟨b7, k - 1, none⟩ = some (.int .u32 (v.toNat : Int)) := by rw [hv]; exact hBk.s7.word (k - 1) (by omega)
       have cq := hBk.s7.word k (by omega);have zq := hBk.s7.frozen k;have Hv : Hid (v = F (k - 1)) := zh (by rw [hv, HFk.out (k - 1) (by omega)]; unfold z6q; rw [if_neg (by omega)]);have e1 : ((k : Int) - 1).toNat = k - 1 := by omega
       have e2 : 1 ≤ (k : Int) := by omega
       have e3 : (k : Int) < 8 := by omega
       have e4 : (k : Int) - 1 = ((k - 1 : Nat) : Int) := by omega
       have E4 := zh e4; clear e4 hv
       go_wp2
       go_roundw
       case rel =>
        refine ⟨k - 1, upd F' k v, by omega, congrArg (Value.int .i64) E4.out, hBk.set k v, fun j hj => ?_⟩;unfold z6q;by_cases hjk : j = k
        · subst hjk; rw [z0q, if_pos (by omega), Hv.out]
        · rw [z09 _ _ _ _ hjk, HFk.out j hj];unfold z6q;by_cases hlt2 : k < j
          · rw [if_pos hlt2, if_pos (by omega)]
          · rw [if_neg hlt2, if_neg (by omega)]
       case measure => simp [intOf]; omega
     · have Hk0 : Hid (k = 0) := zh (by omega);have c4 : wr.cell? ⟨b7, 4, none⟩ = some (.int .u32 (u.d.toNat : Int)) := by rw [hBk.s7.word 4 (by omega), HFk.out 4 (by omega), Hk0.out]; unfold z6q; rw [if_pos (by omega), HF.out 3 (by omega)]; rfl
       have z4' := hBk.s7.frozen 4; have z0 := hBk.s7.frozen 0;have c0 := hBk.s7.word 0 (by omega);obtain ⟨a4, ha4⟩ := zx (u.d + x);obtain ⟨a0, ha0⟩ := zx (x + y);have q1 : IntKind.u32.wrap ((u.d.toNat : Int) + (x.toNat : Int)) = (a4.toNat : Int) := by rw [z4x, ha4]
       have q2 : ((u.d.toNat : Int) + (x.toNat : Int)) % 4294967296 = (a4.toNat : Int) := by rw [z2y, ha4]
       have q3 : IntKind.u32.wrap ((x.toNat : Int) + (y.toNat : Int)) = (a0.toNat : Int) := by rw [z4x, ha0]
       have q4 : ((x.toNat : Int) + (y.toNat : Int)) % 4294967296 = (a0.toNat : Int) := by rw [z2y, ha0]
       have Ha4 := zh ha4; have Ha0 := zh ha0; clear ha4 ha0
       go_wp2
       go_roundw
       case rel =>
        have hF1 : ∀ j, j < 8 → F' j = z6q u.get 0 j := fun j hj => by
         rw [HFk.out j hj, Hk0.out];unfold z6q;by_cases h0 : 0 < j
         · rw [if_pos h0, if_pos h0, HF.out _ (by omega)]
         · rw [if_neg h0, if_neg h0, HF.out _ hj]
        refine ⟨t + 1, upd (upd F' 4 a4) 0 a0, rnd (KF t) (Wf t) u, by omega, by go_num, ?_, by rw [rnds, ← Hu.out], rnd_get (KF t) (Wf t) u x y Hx.out Hy.out F' hF1 a4 a0 Ha4.out Ha0.out⟩
        first | exact (hBk.set 4 a4).set 0 a0 | (rw [q2, q4]; exact (hBk.set 4 a4).set 0 a0) | (simp only [q2, q4]; exact (hBk.set 4 a4).set 0 a0)
       case measure => simp [intOf]; omega
  · have Hu64 : Hid (u = rnds KF Wf h 64) := zh (by rw [Hu.out, show t = 64 by omega]);have hno : decide ((t : Int) < 64) = false := decide_eq_false (by omega);clear Hu
    go_wp2
    go_loopw [14] (fun i wx => ∃ (k : Nat) (G : Nat → UInt32), k ≤ 8 ∧ i = .int .i64 k ∧ Below w.heap.size w wx ∧ Blk wx w.heap.size 113 (u32s 8 G) ∧ Blk wx (w.heap.size + 1) 113 (u32s 8 fun _ => 0) ∧ Blk wx b7 113 (u32s 8 F) ∧ (∀ j, j < 8 → G j = if j < k then (addV h u).get j else h.get j)) (fun i _ => 8 - (intOf i).toNat)
    case atStart => exact ⟨0, h.get, Nat.zero_le _, rfl, hB.below, hB.s2, hB.s4, hB.s7, fun j hj => by rw [if_neg (Nat.not_lt_zero _)]⟩
    case round =>
     clear hB lb5 lb6 lb7;obtain ⟨k, G, hk, rfl, hb, s2, s4, s7, hG⟩ := hrel;have HG := zh hG; clear hG;have l2 := s2.lt; have l7 := s7.lt;by_cases hk8 : k < 8
     · obtain ⟨p, hp⟩ := zx (h.get k);obtain ⟨q, hq⟩ := zx (u.get k);have cp : wr.cell? ⟨w.heap.size, k, none⟩ = some (.int .u32 (p.toNat : Int)) := by rw [s2.word k hk8, HG.out k hk8, if_neg (Nat.lt_irrefl _), hp]
       have cq : wr.cell? ⟨b7, k, none⟩ = some (.int .u32 (q.toNat : Int)) := by rw [s7.word k hk8, HF.out k hk8, hq]
       obtain ⟨r, hr⟩ := zx (p + q);have Hr : Hid ((addV h u).get k = r) := zh (by rw [hr, hp, hq]; exact zgd h u k hk8);have g1 : IntKind.u32.wrap ((p.toNat : Int) + (q.toNat : Int)) = (r.toNat : Int) := by rw [z4x, hr]
       have j1 : 0 ≤ (k : Int) := by omega
       have j2 : (k : Int) < 8 := by omega
       clear hp hq hr
       go_wp2
       go_still_tail 8, (by kernel_rfl)
       clear cp cq g1;change wpList _ _ _ _ _ wr.drew;obtain ⟨wq, hwq⟩ := zx wr.drew;rw [← hwq];have t2 : Blk wq w.heap.size 113 (u32s 8 G) := by rw [hwq]; exact s2
       have t4 : Blk wq (w.heap.size + 1) 113 (u32s 8 fun _ => 0) := by rw [hwq]; exact s4
       have t7 : Blk wq b7 113 (u32s 8 F) := by rw [hwq]; exact s7
       have lq : Below w.heap.size w wq := by rw [hwq]; exact hb.drew
       have cq := t2.word k hk8;have zq := t2.frozen k;clear hwq s2 s4 s7 hb l2 l7
       go_wp2
       go_roundw
       case rel =>
        refine ⟨k + 1, upd G k r, by omega, by go_num, lq.setCell zl _, t2.setW k r, t4.far (by simp) _, t7.far (by show b7 ≠ w.heap.size; omega) _, fun j hj => ?_⟩;by_cases hjk : j = k
        · subst hjk; rw [z0q, if_pos (by omega), Hr.out]
        · rw [z09 _ _ _ _ hjk, HG.out j hj];by_cases h1 : j < k
          · rw [if_pos h1, if_pos (by omega)]
          · rw [if_neg h1, if_neg (by omega)]
       case measure => simp [intOf]; omega
     · have Hz : Hid (u32s 8 G = u32s 8 (mixV KF h m).get) := zh (z3a fun j hj => by
        rw [HG.out j hj, if_pos (by omega), Hu64.out, HWf.out]; rfl)
       obtain ⟨R8, hR8⟩ := zx (u32s 8 G);rw [← hR8] at s2 Hz;have HRs : Hid (R8.size = 8) := zh (by rw [hR8, z0d]);have HRo : Hid (R8.all (·.oneCell') = true) := zh (by rw [hR8]; exact z34 8 _);have rw7 : Blk (wr.setRow (w.heap.size + 1) R8) (w.heap.size + 1) 113 R8 := setRow_heap wr (w.heap.size + 1) _ _ _ _ s4;have lw7 : Below w.heap.size w (wr.setRow (w.heap.size + 1) R8) := below_setRow hb (by omega) _;clear hR8
       go_wp2_with (first
        | (refine wpList_load_row rfl 113 _ rfl w.heap.size rfl 113 R8 (0, 0) _ s2 Tryz.underlying113 rfl (by rw [HRs.out]; kernel_rfl) ?_)
        | (refine wpList_store_row rfl 113 _ _ rfl (w.heap.size + 1) R8 rfl rfl 113 (u32s 8 fun _ => 0) s4 (by rw [HRs.out]; kernel_rfl) (by rw [HRs.out, z0d]) HRo.out ?_))
       exact bodyPost_ret (v := .agg R8) (results_cell_row rfl _ _ (w.heap.size + 1) 113 R8 (0, 0) _ rfl rw7 Tryz.underlying113 rfl (by rw [HRs.out]; kernel_rfl)) rfl ⟨by rw [Hz.out], lw7⟩
theorem z5o (l : zB) (w : World) (hl : l.length ≤ maxLen) : Calls Tryz.prog 28 #[SV l] w fun e w' => e = .returned (.bool (z0c l)) ∧ w = w' := by
 unfold maxLen at hl;unfold SV;by_cases h64 : l.length = 64
 · have H64 := zh h64;have b1 : (l.length : Int) ≤ 64 := by omega
   have b2 : 64 ≤ (l.length : Int) := by omega
   have b3 : ((l.length : Int) != 64) = false := by simp [h64]
   clear h64
   go_enter Tryz.func28, Tryz.ntmps28
   go_wp2
   go_loop [3] (fun i => ∃ k : Nat, k ≤ l.length ∧ i = .int .i64 k ∧ (l.take k).all isD = true) (fun i => l.length - (intOf i).toNat)
   case atStart => exact ⟨0, Nat.zero_le _, rfl, rfl⟩
   case round =>
    obtain ⟨k, hk, rfl, hall⟩ := hrel;by_cases hlt : k < l.length
    · obtain ⟨c, hc⟩ := zx (l[k]);have gc : ∀ h, ((⟨l.toArray⟩ : ByteArray)[k]'h) = c := fun h => hc.symm;have hsn := zgg l k hlt hall;rw [← hc] at hsn;have hno : isD c = false → z0c l = false := fun h => zgh l k hlt (by rw [← hc]; exact h);have Hno := zh hno; have Hsn := zh hsn;have j1 : (k : Int) < 64 := by omega
      have j2 : (k : Int) < (l.length : Int) := by omega
      clear hno hsn hall hc;have hcase : (c.toNat : Int) < 48 ∨ (48 ≤ (c.toNat : Int) ∧ (c.toNat : Int) ≤ 57) ∨ (57 < (c.toNat : Int) ∧ (c.toNat : Int) < 97) ∨ (97 ≤ (c.toNat : Int) ∧ (c.toNat : Int) ≤ 102) ∨ 102 < (c.toNat : Int) := by omega
      rcases hcase with k1 | ⟨k1, k2⟩ | ⟨k1, k2⟩ | ⟨k1, k2⟩ | k1
      · have hd : Hid (isD c = false) := zh (by rw [z7d, Bool.eq_iff_iff]; simp; omega)
        go_wp2
        go_ret
        exact ⟨ret_bool (Hno.out hd.out).symm, rfl⟩
      · have hd : Hid (isD c = true) := zh (by rw [z7d, Bool.eq_iff_iff]; simp; omega)
        go_wp2
        go_round
        case rel => exact ⟨k + 1, by omega, by go_num, Hsn.out.trans hd.out⟩
        case measure => simp [intOf]; omega
      · have hd : Hid (isD c = false) := zh (by rw [z7d, Bool.eq_iff_iff]; simp; omega);have f1 : decide ((c.toNat : Int) ≤ 57) = false := decide_eq_false (by omega)
        go_wp2
        go_ret
        exact ⟨ret_bool (Hno.out hd.out).symm, rfl⟩
      · have hd : Hid (isD c = true) := zh (by rw [z7d, Bool.eq_iff_iff]; simp; omega)
        go_wp2
        go_round
        case rel => exact ⟨k + 1, by omega, by go_num, Hsn.out.trans hd.out⟩
        case measure => simp [intOf]; omega
      · have hd : Hid (isD c = false) := zh (by rw [z7d, Bool.eq_iff_iff]; simp; omega);have f1 : decide ((c.toNat : Int) ≤ 57) = false := decide_eq_false (by omega);have f2 : decide ((c.toNat : Int) ≤ 102) = false := decide_eq_false (by omega)
        go_wp2
        go_ret
        exact ⟨ret_bool (Hno.out hd.out).symm, rfl⟩
    · have Hy := zh (zcp l H64.out (by rw [List.take_of_length_le (by omega)]; rw [List.take_of_length_le (by omega)] at hall; exact hall));clear hall
      go_wp2
      go_ret
      exact ⟨ret_bool Hy.out.symm, rfl⟩
 · have Hn := zh (named_len l h64);have b3 : ((l.length : Int) != 64) = true := by simp; omega
   clear h64
   go_enter Tryz.func28, Tryz.ntmps28
   go_wp2
   go_ret
   exact ⟨ret_bool Hn.out.symm, rfl⟩
end Go.Proofs.YtgjddkeogboojaaGreatDoor
