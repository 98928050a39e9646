/-
  The digest: Sum, Name, Named. A region that draws its order: what it reads stays as it is, behind whatever calls come; so the reads may be taken as soon as they can be.
-/
import Derived.Laws.CopyOwn
import Derived.Laws.ResultCell
import Derived.Laws.IdiomStrings
import Derived.Stop.BytesEq
import Derived.Test.YtgjddkeogboojaaGreatDoorY02
import Derived.Test.YtgjddkeogboojaaGreatDoorY11
import Derived.Test.YtgjddkeogboojaaGreatDoorY05
import Derived.OrdersHeld
import Derived.Deep.RegionHeld
import Derived.Test.YtgjddkeogboojaaGreatDoorY08
set_option maxHeartbeats 16000000
set_option maxRecDepth 100000
namespace Go.Proofs.YtgjddkeogboojaaGreatDoor
open Go Go.RowKit
theorem z8f (w : World) (gs n q c : Nat) (A : Option Addr) (v : V) (kf : Nat → UInt32) (m : Nat → UInt8) (hn : n = 64 * q) (hn2 : n ≤ 90000) (hc : n ≤ c) (hs : Blk w gs 185 (u32s 72 (stF v kf)))
 (hr : 0 < n → ∃ g o, A = some ⟨g, o, none⟩ ∧ g ≠ gs ∧ ∀ j, j < n → w.cell? ⟨g, o + j, none⟩ = some (.int .u8 ((m j).toNat : Int))) :
 Calls Tryz.prog 73 #[.pointer (some ⟨gs, 0, none⟩), .slice A n c] w fun e w' => e = .returned (.tuple #[]) ∧
  Blk w' gs 185 (u32s 72 (stF (z2z kf v m q) kf)) ∧ w.grownBy w' (some gs) := by
 have HR := zh hr; clear hr;have Hn := zh hn; clear hn
 go_enter Tryz.func73, Tryz.ntmps73
 go_wp2
 go_loopw [1] (fun b wr => ∃ (i : Nat) (B : Option Addr) (k d : Nat), i ≤ q ∧ b = .slice B k d ∧ k + 64 * i = n ∧ k ≤ d ∧ Blk wr gs 185 (u32s 72 (stF (z2z kf v m i) kf)) ∧ w.grownBy wr (some gs) ∧
  (0 < k → ∃ g o, B = some ⟨g, o + 64 * i, none⟩ ∧ g ≠ gs ∧ ∀ j, j < n → w.cell? ⟨g, o + j, none⟩ = some (.int .u8 ((m j).toNat : Int)))) (fun b _ => match b with | .slice _ k _ => k | _ => 0)
 case atStart => exact ⟨0, A, n, c, Nat.zero_le _, rfl, by omega, hc, hs, z78 _ _, HR.out⟩
 case round =>
  obtain ⟨i, B, k, d, hi, rfl, hk, hkd, hblk, hg, hB⟩ := hrel;have HB := zh hB; clear hB;by_cases hlt : 0 < k
  · obtain ⟨g, o, rfl, hne, hcells⟩ := HB.out hlt;have hkn := Hn.out;have hk64 : 64 ≤ k := by omega
    have hkl : k ≤ 90000 := by omega
    have hglt : g < w.heap.size := by have := block_lt_of_cell (hcells 0 (by omega)); exact this
    have hrd : ∀ j, j < 64 → wr.cell? ⟨g, o + 64 * i + j, none⟩ = some (.int .u8 ((m (64 * i + j)).toNat : Int)) := fun j hj => by
     rw [World.cell?_of_block (w := w) (a := ⟨g, o + 64 * i + j, none⟩) (hg.block g hglt (by simpa using hne)), Nat.add_assoc];exact hcells (64 * i + j) (by omega)
    have HW := zh (zkb wr g (o + 64 * i) d k (fun j => m (64 * i + j)) hk64 hkl hrd);have Hcells := zh hcells;clear hcells hrd hkn
    go_wp2_with fail
    refine HW.out.mono ?_;rintro e w1 ⟨rfl, hb1⟩;have b1 := hblk.below hb1 hblk.lt;have g1 := z1x hg hb1;have HM := zh (mix_any w1 gs (z2z kf v m i) kf (z2o (word fun j => m (64 * i + j))) b1)
    go_wp2_with fail
    refine HM.out.mono ?_;rintro e w2 ⟨rfl, b2, g2⟩
    go_wp2
    go_roundw
    case rel =>
     refine ⟨i + 1, _, k - 64, d - 64, by have := Hn.out; omega, rfl, by omega, by omega, b2, z0u g1 g2, fun h => ⟨g, o, ?_, hne, Hcells.out⟩⟩;rw [if_neg (by omega), show o + 64 * i + 64 = o + 64 * (i + 1) by omega]
    case measure => show k - 64 < k; omega
  · have Hq : Hid (i = q) := zh (by have := Hn.out; omega)
    go_wp2
    go_end0
    exact ⟨rfl, by rw [← Hq.out]; exact hblk, hg⟩
theorem convB (x : UInt32) : IntKind.u8.wrap (x.toNat : Int) = ((x.toUInt8).toNat : Int) := by
 rw [IntKind.wrap_u8', UInt32.toNat_toUInt8]; omega
theorem zgy (w : World) (gs : Nat) (v : V) (kf : Nat → UInt32) (hs : Blk w gs 185 (u32s 72 (stF v kf))) :
 Calls Tryz.prog 75 #[.pointer (some ⟨gs, 0, none⟩)] w fun e w' => e = .returned (.agg (u8s 32 (z30 v))) ∧ Below w.heap.size w w' := by
 have hgs := hs.lt
 go_enter Tryz.func75, Tryz.ntmps75
 go_wp2
 go_loopw [4] (fun i wr => ∃ (k : Nat) (F : Nat → UInt8), k ≤ 32 ∧ i = .int .i64 k ∧ Blk wr w.heap.size 68 (u8s 32 F) ∧ Below w.heap.size w wr ∧ (∀ j, j < k → F j = z30 v j)) (fun i _ => 32 - (intOf i).toNat)
 case atStart => exact ⟨0, fun _ => 0, Nat.zero_le _, rfl, by exact Blk.new w _ _, (Below.refl _ _).alloc zl _, fun j hj => absurd hj (Nat.not_lt_zero _)⟩
 case round =>
  obtain ⟨k, F, hk, rfl, hblk, hb, hF⟩ := hrel;have HF := zh hF; clear hF;by_cases hlt : k < 32
  · obtain ⟨a, ha⟩ := zx (k / 4);obtain ⟨b, hb4⟩ := zx (24 - k % 4 * 8);have ha8 : a < 8 := by omega
    have hb24 : b ≤ 24 := by omega
    obtain ⟨x, hx⟩ := zx (v.get a)
    have cx : wr.cell? ⟨gs, a, none⟩ = some (.int .u32 (x.toNat : Int)) := by
     rw [hb.cell (p := ⟨gs, a, none⟩) hgs, hs.word a (by omega), hx]; unfold stF; rw [if_pos ha8]
    obtain ⟨y, hy⟩ := zx (x >>> UInt32.ofNat b);obtain ⟨z, hz⟩ := zx y.toUInt8;have gy : (x.toNat : Int) / 2 ^ b = (y.toNat : Int) := by rw [shrP x b (by omega), hy]
    have gz : IntKind.u8.wrap (y.toNat : Int) = (z.toNat : Int) := by rw [convB, hz]
    have Hz : Hid (z = z30 v k) := zh (by rw [hz, hy, hx, ha, hb4]; rfl);have ga : (k : Int) / 4 = (a : Int) := by omega
    have gb : 24 - (k : Int) % 4 * 8 = (b : Int) := by omega
    have cq := hblk.byte k (by omega);have zq := hblk.frozen k;have hbound := hblk.lt;clear hx hy hz ha hb4
    go_wp2
    go_roundw
    case rel =>
     refine ⟨k + 1, upd F k z, by omega, by go_num, hblk.setB k z, hb.setCell zl _, fun j hj => ?_⟩;by_cases hjk : j = k
     · subst hjk; rw [z0q, Hz.out]
     · rw [z09 _ _ _ _ hjk]; exact HF.out j (by omega)
    case measure => simp [intOf]; omega
  · have Hf : Hid (u8s 32 F = u8s 32 (z30 v)) := zh (z6d fun j hj => HF.out j (by omega))
    go_wp2_with (first
     | (refine wpList_load_row rfl 68 _ rfl w.heap.size rfl 68 (u8s 32 F) (0, 0) _ hblk Tryz.underlying68 rfl (by rw [z0a]; kernel_rfl) ?_)
     | (refine wpList_store_row rfl 68 _ _ rfl w.heap.size (u8s 32 F) rfl rfl 68 (u8s 32 F) hblk (by rw [z0a]; kernel_rfl) rfl (z3r 32 F) ?_; rw [setRow_self _ _ _ _ _ hblk]))
    exact bodyPost_ret (v := .agg (u8s 32 F)) (results_cell_row rfl _ _ w.heap.size 68 (u8s 32 F) (0, 0) _ rfl hblk Tryz.underlying68 rfl (by rw [z0a]; kernel_rfl)) rfl ⟨by rw [Hf.out], hb⟩
def endB (m : Nat → UInt8) (n N L j : Nat) : UInt8 := if j < n then m j else if j = n then 128 else if j < N - 8 then 0 else if j < N then UInt8.ofNat (8 * L / 2 ^ (8 * (N - 1 - j))) else 0
theorem zfh : (∀ w, (zeroValue 149).run Tryz.prog w = .ok (.agg (u8s 128 fun _ => 0)) w) ∧ (Tryz.prog.info? 149).map (·.size) = some 128 := zero_of_info (by kernel_rfl)
theorem zly (n : Nat) {f : Nat → Value} (h : n ≤ 128) : ((List.range n).map f).length = Nat.min n 128 := by
 rw [List.length_map, List.length_range]; exact (Nat.min_eq_left h).symm
theorem add_none (g o j : Nat) : (⟨g, o, none⟩ : Addr).add j = ⟨g, o + j, none⟩ := by unfold Addr.add; split <;> simp_all
theorem src_ok (w : World) (A : Option Addr) (n : Nat) (m : Nat → UInt8) (o : Obj) {dp : Option Addr} {x : Addr} (h : 0 < n → ∃ g o, A = some ⟨g, o, none⟩ ∧ ∀ j, j < n → w.cell? ⟨g, o + j, none⟩ = some (.int .u8 ((m j).toNat : Int)))
 (hd : dp = some x) : 0 < ((List.range n).map fun j => bv (m j)).length → dp = some x ∧ ∃ ad, A = some ad ∧ ∀ j v, ((List.range n).map fun j => bv (m j))[j]? = some v → (w.alloc o).cell? (ad.add j) = some v := by
 intro h0;rw [List.length_map, List.length_range] at h0;obtain ⟨g, off, rfl, hc⟩ := h h0;refine ⟨hd, _, rfl, fun j v hj => ?_⟩;rw [List.getElem?_map] at hj;by_cases hjn : j < n
 · rw [List.getElem?_range hjn] at hj;have hv : v = bv (m j) := (Option.some.inj hj).symm;have hlt : g < w.heap.size := by have := block_lt_of_cell (hc 0 h0); exact this
   rw [add_none, hv, World.cell?_of_block (w := w) (a := ⟨g, off + j, none⟩) (Below.heap_alloc w o g hlt)];exact hc j hjn
 · rw [List.getElem?_eq_none (by rw [List.length_range]; omega)] at hj; cases hj
theorem one_bv (n : Nat) (m : Nat → UInt8) : ∀ v ∈ (List.range n).map fun j => bv (m j), v.oneCell' = true := by
 intro v hv;obtain ⟨i, _, rfl⟩ := List.mem_map.1 hv;rfl
theorem z1v (w : World) (o : Obj) : Below w.heap.size w (w.alloc o) := (Below.refl _ w).alloc zl o
theorem zat (n : Nat) (m : Nat → UInt8) (h : n ≤ 128) : (splice (u8s 128 fun _ => 0).toList 0 ((List.range n).map fun j => bv (m j))).toArray = u8s 128 fun j => if j < n then m j else 0 := by
 unfold splice;apply Array.ext_getElem?;intro i;rw [List.getElem?_toArray, List.take_zero, List.nil_append, Nat.zero_add, List.length_map, List.length_range];by_cases hi : i < n
 · rw [List.getElem?_append_left (by rw [List.length_map, List.length_range]; exact hi), List.getElem?_map, List.getElem?_range hi, z47 _ _ _ (by omega), if_pos hi]; rfl
 · rw [List.getElem?_append_right (by rw [List.length_map, List.length_range]; omega), List.length_map, List.length_range, List.getElem?_drop, show n + (i - n) = i by omega, Array.getElem?_toList];by_cases h2 : i < 128
   · rw [z47 _ _ _ h2, z47 _ _ _ h2, if_neg hi]
   · rw [Array.getElem?_eq_none (by rw [z0a]; omega), Array.getElem?_eq_none (by rw [z0a]; omega)]
theorem z96 {P : Program} {fn : Func} {p u : Tmp} {ty : TypeId} (h : fn.results = #[.cell p ty, .tmp u]) (tmps : Array Value) (w : World) (g : Nat) (t : TypeId) (cs : Array Value) (fr : Nat × Nat) (d : TypeDesc)
 (hp : tmps.getD p undef = .pointer (some ⟨g, 0, none⟩)) (hg : w.heap[g]? = some (.cells cs t fr))
 (hu : P.underlying ty = some d) (hd : (match d with | .struct _ | .array _ _ => true | _ => false) = true) (hi : (P.info? ty).map (·.size) = some cs.size) {x : Value} (hx : tmps.getD u undef = x) :
 (results fn tmps).run P w = .ok (.tuple #[.agg cs, x]) w := by
 rw [results_cell_tmp h, hp, hx];simp [asAddr, Result.andThen, run_loadVar_row w g t ty cs fr d hg hu hd hi]
theorem zgz (w : World) (A : Option Addr) (n c L : Nat) (m : Nat → UInt8) (hn : n < 64) (hL : L ≤ 90000)
 (hr : 0 < n → ∃ g o, A = some ⟨g, o, none⟩ ∧ ∀ j, j < n → w.cell? ⟨g, o + j, none⟩ = some (.int .u8 ((m j).toNat : Int))) :
 Calls Tryz.prog 74 #[.slice A n c, .int .i64 (L : Int)] w fun e w' =>
  e = .returned (.tuple #[.agg (u8s 128 (endB m n (if 56 < n + 1 then 128 else 64) L)), .int .i64 ((if 56 < n + 1 then 128 else 64 : Nat) : Int)]) ∧ Below w.heap.size w w' := by
 have hz := zfh.1;have HR := zh hr; clear hr;by_cases h56 : 56 < n + 1
 · have HE : Hid (u8s 128 (endB m n 128 L) = u8s 128 (endB m n (if 56 < n + 1 then 128 else 64) L)) := zh (by rw [if_pos h56]);have HN : Hid (Value.int .i64 128 = .int .i64 ((if 56 < n + 1 then 128 else 64 : Nat) : Int)) := zh (by rw [if_pos h56]; rfl);rw [← HE.out, ← HN.out];have Q1 := zh (zly n (f := fun j => bv (m j)) (by omega));have Q2 := zh (src_ok w A n m (Obj.cells (u8s 128 fun _ => 0) 149) HR.out (dp := some ⟨w.heap.size, 0, none⟩) (x := ⟨w.heap.size, 0, none⟩) rfl);have Q3 : Hid (0 + ((List.range n).map fun j => bv (m j)).length ≤ (u8s 128 fun _ => 0).toList.length) := zh (by rw [List.length_map, List.length_range, Array.length_toList, z0a]; omega)
   go_enter Tryz.func74, Tryz.ntmps74
   go_wp2_with (refine wpList_copy_splice (o := ⟨some 14, _, _, _, _, _⟩) rfl _ _ _ _ rfl 5 Tryz.underlying23 (by kernel_rfl) _ _ _ _ _ _ rfl rfl w.heap.size 0 (u8s 128 fun _ => 0).toList 149 (by exact Blk.new w _ _) ((List.range n).map fun j => bv (m j)) Q1.out Q2.out Q3.out (one_bv n m) w.heap.size w (z1v w _) zl ?_)
   intro w1 hblk0 hb0;have hblk := hblk0.out;rw [zat n m (by omega)] at hblk;clear hblk0;replace hblk : Blk w1 w.heap.size 149 (u8s 128 fun j => if j < n then m j else 0) := hblk;have cq := hblk.byte n (by omega);have zq := hblk.frozen n;have hbound := hblk.lt
   go_wp2
   clear cq zq hbound;have hblk2 : Blk (w1.setCell ⟨w.heap.size, n, none⟩ (.int .u8 128)) w.heap.size 149 (u8s 128 (upd (fun j => if j < n then m j else 0) n 128)) := hblk.setB n 128;have hb2 : Below w.heap.size w (w1.setCell ⟨w.heap.size, n, none⟩ (.int .u8 128)) := hb0.setCell zl _
   go_loopw [7, 21] (fun _ i wr => ∃ (k : Nat) (F : Nat → UInt8), k ≤ 8 ∧ i = .int .i64 k ∧ Blk wr w.heap.size 149 (u8s 128 F) ∧ Below w.heap.size w wr ∧ (∀ j, j < 128 → F j = if 128 - k ≤ j ∧ j < 128 then endB m n 128 L j else upd (fun j => if j < n then m j else 0) n 128 j)) (fun _ i _ => 8 - (intOf i).toNat)
   case atStart => exact ⟨0, _, Nat.zero_le _, rfl, hblk2, hb2, fun j hj => by rw [if_neg (by omega)]⟩
   case round =>
    clear hblk hb0 hblk2 hb2;obtain ⟨k, F, hk, rfl, hblk, hb, hF⟩ := hrel;have HF := zh hF; clear hF;by_cases hlt : k < 8
    · obtain ⟨D, hD⟩ := zx (8 * L / 2 ^ (8 * k));obtain ⟨z, hz8⟩ := zx (UInt8.ofNat D);have gD : ((8 * L : Nat) : Int) / 2 ^ (8 * k) = (D : Int) := by rw [hD]; simp
      have gD' : (L : Int) * 8 / 2 ^ (8 * k) = (D : Int) := by rw [hD, show (L : Int) * 8 = ((8 * L : Nat) : Int) by omega]; simp
      have gz : IntKind.u8.wrap (D : Int) = (z.toNat : Int) := by rw [IntKind.wrap_u8', hz8, UInt8.toNat_ofNat']; omega
      have Hz : Hid (z = endB m n 128 L (127 - k)) := zh (by
       unfold endB;rw [if_neg (by omega), if_neg (by omega), if_neg (by omega), if_pos (by omega), hz8, hD, show 128 - 1 - (127 - k) = k by omega])
      have e1 : (127 - (k : Int)).toNat = 127 - k := by omega
      have e2 : (8 * (k : Int)).toNat = 8 * k := by omega
      have cq := hblk.byte (127 - k) (by omega);have zq := hblk.frozen (127 - k);have hbound := hblk.lt;clear hD hz8
      go_wp2
      go_roundw
      case rel =>
       refine ⟨k + 1, upd F (127 - k) z, by omega, by go_num, hblk.setB (127 - k) z, hb.setCell zl _, fun j hj => ?_⟩;by_cases hjk : j = 127 - k
       · subst hjk; rw [z0q, if_pos (by omega), Hz.out]
       · rw [z09 _ _ _ _ hjk, HF.out j hj];by_cases h : 128 - k ≤ j ∧ j < 128
         · rw [if_pos h, if_pos (by omega)]
         · rw [if_neg h, if_neg (by omega)]
      case measure => simp [intOf]; omega
    · have Hf : Hid (u8s 128 F = u8s 128 (endB m n 128 L)) := zh (z6d fun j hj => by
       rw [HF.out j hj];by_cases h : 128 - k ≤ j ∧ j < 128
       · rw [if_pos h]
       · rw [if_neg h];unfold endB;by_cases h1 : j = n
         · subst h1; rw [z0q, if_neg (by omega), if_pos rfl]
         · rw [z09 _ _ _ _ h1];by_cases h2 : j < n
           · rw [if_pos h2, if_pos h2]
           · rw [if_neg h2, if_neg h2, if_neg h1];by_cases h3 : j < 128 - 8
             · rw [if_pos h3]
             · rw [if_neg h3, if_neg (by omega)])
      go_wp2_with (first
       | (refine wpList_load_row rfl 149 _ rfl w.heap.size rfl 149 (u8s 128 F) (0, 0) _ hblk Tryz.underlying149 rfl (by rw [z0a]; kernel_rfl) ?_)
       | (refine wpList_store_row rfl 149 _ _ rfl w.heap.size (u8s 128 F) rfl rfl 149 (u8s 128 F) hblk (by rw [z0a]; kernel_rfl) rfl (z3r 128 F) ?_; rw [setRow_self _ _ _ _ _ hblk]))
      exact bodyPost_ret (v := .tuple #[.agg (u8s 128 F), .int .i64 128]) (z96 rfl _ _ w.heap.size 149 (u8s 128 F) (0, 0) _ rfl hblk Tryz.underlying149 rfl (by rw [z0a]; kernel_rfl) rfl) rfl ⟨by rw [Hf.out], hb⟩
 · have HE : Hid (u8s 128 (endB m n 64 L) = u8s 128 (endB m n (if 56 < n + 1 then 128 else 64) L)) := zh (by rw [if_neg h56]);have HN : Hid (Value.int .i64 64 = .int .i64 ((if 56 < n + 1 then 128 else 64 : Nat) : Int)) := zh (by rw [if_neg h56]; rfl);rw [← HE.out, ← HN.out];have Q1 := zh (zly n (f := fun j => bv (m j)) (by omega));have Q2 := zh (src_ok w A n m (Obj.cells (u8s 128 fun _ => 0) 149) HR.out (dp := some ⟨w.heap.size, 0, none⟩) (x := ⟨w.heap.size, 0, none⟩) rfl);have Q3 : Hid (0 + ((List.range n).map fun j => bv (m j)).length ≤ (u8s 128 fun _ => 0).toList.length) := zh (by rw [List.length_map, List.length_range, Array.length_toList, z0a]; omega)
   go_enter Tryz.func74, Tryz.ntmps74
   go_wp2_with (refine wpList_copy_splice (o := ⟨some 14, _, _, _, _, _⟩) rfl _ _ _ _ rfl 5 Tryz.underlying23 (by kernel_rfl) _ _ _ _ _ _ rfl rfl w.heap.size 0 (u8s 128 fun _ => 0).toList 149 (by exact Blk.new w _ _) ((List.range n).map fun j => bv (m j)) Q1.out Q2.out Q3.out (one_bv n m) w.heap.size w (z1v w _) zl ?_)
   intro w1 hblk0 hb0;have hblk := hblk0.out;rw [zat n m (by omega)] at hblk;clear hblk0;replace hblk : Blk w1 w.heap.size 149 (u8s 128 fun j => if j < n then m j else 0) := hblk;have cq := hblk.byte n (by omega);have zq := hblk.frozen n;have hbound := hblk.lt
   go_wp2
   clear cq zq hbound;have hblk2 : Blk (w1.setCell ⟨w.heap.size, n, none⟩ (.int .u8 128)) w.heap.size 149 (u8s 128 (upd (fun j => if j < n then m j else 0) n 128)) := hblk.setB n 128;have hb2 : Below w.heap.size w (w1.setCell ⟨w.heap.size, n, none⟩ (.int .u8 128)) := hb0.setCell zl _
   go_loopw [7, 21] (fun _ i wr => ∃ (k : Nat) (F : Nat → UInt8), k ≤ 8 ∧ i = .int .i64 k ∧ Blk wr w.heap.size 149 (u8s 128 F) ∧ Below w.heap.size w wr ∧ (∀ j, j < 128 → F j = if 64 - k ≤ j ∧ j < 64 then endB m n 64 L j else upd (fun j => if j < n then m j else 0) n 128 j)) (fun _ i _ => 8 - (intOf i).toNat)
   case atStart => exact ⟨0, _, Nat.zero_le _, rfl, hblk2, hb2, fun j hj => by rw [if_neg (by omega)]⟩
   case round =>
    clear hblk hb0 hblk2 hb2;obtain ⟨k, F, hk, rfl, hblk, hb, hF⟩ := hrel;have HF := zh hF; clear hF;by_cases hlt : k < 8
    · obtain ⟨D, hD⟩ := zx (8 * L / 2 ^ (8 * k));obtain ⟨z, hz8⟩ := zx (UInt8.ofNat D);have gD : ((8 * L : Nat) : Int) / 2 ^ (8 * k) = (D : Int) := by rw [hD]; simp
      have gD' : (L : Int) * 8 / 2 ^ (8 * k) = (D : Int) := by rw [hD, show (L : Int) * 8 = ((8 * L : Nat) : Int) by omega]; simp
      have gz : IntKind.u8.wrap (D : Int) = (z.toNat : Int) := by rw [IntKind.wrap_u8', hz8, UInt8.toNat_ofNat']; omega
      have Hz : Hid (z = endB m n 64 L (63 - k)) := zh (by
       unfold endB;rw [if_neg (by omega), if_neg (by omega), if_neg (by omega), if_pos (by omega), hz8, hD, show 64 - 1 - (63 - k) = k by omega])
      have e1 : (63 - (k : Int)).toNat = 63 - k := by omega
      have e2 : (8 * (k : Int)).toNat = 8 * k := by omega
      have cq := hblk.byte (63 - k) (by omega);have zq := hblk.frozen (63 - k);have hbound := hblk.lt;clear hD hz8
      go_wp2
      go_roundw
      case rel =>
       refine ⟨k + 1, upd F (63 - k) z, by omega, by go_num, hblk.setB (63 - k) z, hb.setCell zl _, fun j hj => ?_⟩;by_cases hjk : j = 63 - k
       · subst hjk; rw [z0q, if_pos (by omega), Hz.out]
       · rw [z09 _ _ _ _ hjk, HF.out j hj];by_cases h : 64 - k ≤ j ∧ j < 64
         · rw [if_pos h, if_pos (by omega)]
         · rw [if_neg h, if_neg (by omega)]
      case measure => simp [intOf]; omega
    · have Hf : Hid (u8s 128 F = u8s 128 (endB m n 64 L)) := zh (z6d fun j hj => by
       rw [HF.out j hj];by_cases h : 64 - k ≤ j ∧ j < 64
       · rw [if_pos h]
       · rw [if_neg h];unfold endB;by_cases h1 : j = n
         · subst h1; rw [z0q, if_neg (by omega), if_pos rfl]
         · rw [z09 _ _ _ _ h1];by_cases h2 : j < n
           · rw [if_pos h2, if_pos h2]
           · rw [if_neg h2, if_neg h2, if_neg h1];by_cases h3 : j < 64 - 8
             · rw [if_pos h3]
             · rw [if_neg h3, if_neg (by omega)])
      go_wp2_with (first
       | (refine wpList_load_row rfl 149 _ rfl w.heap.size rfl 149 (u8s 128 F) (0, 0) _ hblk Tryz.underlying149 rfl (by rw [z0a]; kernel_rfl) ?_)
       | (refine wpList_store_row rfl 149 _ _ rfl w.heap.size (u8s 128 F) rfl rfl 149 (u8s 128 F) hblk (by rw [z0a]; kernel_rfl) rfl (z3r 128 F) ?_; rw [setRow_self _ _ _ _ _ hblk]))
      exact bodyPost_ret (v := .tuple #[.agg (u8s 128 F), .int .i64 64]) (z96 rfl _ _ w.heap.size 149 (u8s 128 F) (0, 0) _ rfl hblk Tryz.underlying149 rfl (by rw [z0a]; kernel_rfl) rfl) rfl ⟨by rw [Hf.out], hb⟩
theorem zde (l : zB) (q r N p : Nat) (hq : 64 * q + r = l.length) (hr : r < 64) (hN : N = if 56 < r + 1 then 128 else 64) (hp : N = 64 * p) :
 z2z KF (z2z KF H0 (z4n l) q) (endB (fun j => l.getD (64 * q + j) 0) r N l.length) p = sumV l := by
 have ht : tot l.length = 64 * q + N := by
  unfold tot;rw [hN];by_cases h : 56 < r + 1
  · rw [if_pos h]; omega
  · rw [if_neg h]; omega
 unfold sumV;rw [show tot l.length / 64 = q + p by omega, zk7];refine z8q _ p (fun _ _ => rfl) fun j hj => ?_;unfold endB z4n;have hN2 : 64 ≤ N := by rw [hN]; split <;> omega
 by_cases h1 : j < r
 · rw [if_pos h1, if_pos (show 64 * q + j < l.length by omega)]
 · rw [if_neg h1, if_neg (show ¬ 64 * q + j < l.length by omega)];by_cases h2 : j = r
   · rw [if_pos h2, if_pos (show 64 * q + j = l.length by omega)]
   · rw [if_neg h2, if_neg (show ¬ 64 * q + j = l.length by omega)];by_cases h3 : j < N - 8
     · rw [if_pos h3, if_pos (show 64 * q + j < tot l.length - 8 by omega)]
     · rw [if_neg h3, if_pos (show j < N by omega), if_neg (show ¬ 64 * q + j < tot l.length - 8 by omega), show tot l.length - 1 - (64 * q + j) = N - 1 - j by omega]
def Rb (w : World) (v : Value) (l : zB) : Prop :=
 ((∃ A, v = .slice A 0 0) ∧ l = []) ∨ ∃ g o c, v = .slice (some ⟨g, o, none⟩) l.length c ∧ l.length ≤ c ∧ g < w.heap.size ∧ ∀ j, j < l.length → w.cell? ⟨g, o + j, none⟩ = some (.int .u8 ((l.getD j 0).toNat : Int))
theorem Rb.below {w w' : World} {v : Value} {l : zB} {b : Nat} (h : Rb w v l) (hb : Below b w w') (hlt : w.heap.size ≤ b) : Rb w' v l := by
 rcases h with h | ⟨g, o, c, rfl, hc, hg, hcell⟩
 · exact .inl h
 · exact .inr ⟨g, o, c, rfl, hc, Nat.lt_of_lt_of_le hg hb.size, fun j hj => by rw [hb.cell (p := ⟨g, o + j, none⟩) (by show g < b; omega)]; exact hcell j hj⟩
theorem zzzf : ∀ W, (zeroValue 68).run Tryz.prog W = .ok (.agg (u8s 32 fun _ => 0)) W := (zero_of_info (n := 32) (by kernel_rfl)).1
theorem Sum_some (w : World) (g o c : Nat) (l : zB) (hp : Pr w) (hl : l.length ≤ 90000) (hc : l.length ≤ c) (hg : g < w.heap.size)
 (hr : ∀ j, j < l.length → w.cell? ⟨g, o + j, none⟩ = some (.int .u8 ((l.getD j 0).toNat : Int))) :
 Calls Tryz.prog 54 #[.slice (some ⟨g, o, none⟩) l.length c] w fun e w' => e = .returned (.agg (u8s 32 (z30 (sumV l)))) ∧ Below w.heap.size w w' := by
 have HR := zh hr; clear hr;obtain ⟨n, hn⟩ := zx l.length;obtain ⟨q, hq⟩ := zx (n / 64);obtain ⟨r, hr⟩ := zx (n % 64);obtain ⟨N, hN⟩ := zx (if 56 < r + 1 then 128 else 64)
 obtain ⟨p, hp64⟩ : ∃ p, N = 64 * p := by
  rw [hN];by_cases h : 56 < r + 1
  · exact ⟨2, by rw [if_pos h]⟩
  · exact ⟨1, by rw [if_neg h]⟩
 have hN128 : N ≤ 128 := by rw [hN]; split <;> omega
 have hN64 : 64 ≤ N := by rw [hN]; split <;> omega
 have hnqr : 64 * q + r = n := by omega
 have hr64 : r < 64 := by omega
 have HN := zh hN;have HS := zh (zde l q r N p (by omega) hr64 hN hp64);rw [← hn] at hl hc HR HS ⊢;have Hn := zh hn;clear hq hr hN hn;have g1 : (n : Int) / 64 = (q : Int) := by omega
 have e1 : ((q : Int) * 64).toNat = 64 * q := by omega
 have e2 : 0 ≤ (q : Int) * 64 := by omega
 have e3 : (q : Int) * 64 ≤ (n : Int) := by omega
 have e4 : (q : Int) * 64 ≤ (c : Int) := by omega
 have hplt := hp.lt;obtain ⟨w0, hw0⟩ := zx (w.alloc (Obj.cells (u8s 32 fun _ => 0) 68));have r0 : Blk w0 w.heap.size 68 (u8s 32 fun _ => 0) := by rw [hw0]; exact Blk.new w _ _
 have l0 : Below w.heap.size w w0 := by rw [hw0]; exact z1v w _
 have sz0 : w0.heap.size = w.heap.size + 1 := by rw [hw0]; simp
 have hz32 := zzzf;have hz128 := zfh.1;have p0 : Pr w0 := hp.below l0 hplt;have HB := zh (zdd w0 p0);have Hw0 := zh hw0;clear hw0
 go_enter Tryz.func54, Tryz.ntmps54
 go_wp2_with fail
 rw [← Hw0.out];obtain ⟨gs, hgs⟩ := zx w0.heap.size;rw [← hgs] at HB sz0;have Hgs := zh hgs; clear hgs;refine HB.out.mono ?_;rintro e w1 ⟨rfl, b1, l1⟩;have gsB : w.heap.size < gs := by omega
 have gsg : g ≠ gs := by omega
 have rw1 : Blk w1 w.heap.size 68 (u8s 32 fun _ => 0) := r0.below l1 gsB;have lw1 : Below w.heap.size w w1 := l0.trans (l1.mono (by omega))
 have HT := zh (z8f w1 gs (64 * q) q c (some ⟨g, o, none⟩) H0 KF (z4n l) rfl (by omega) (by omega) b1 (fun h => ⟨g, o, rfl, gsg, fun j hj => by
  rw [lw1.cell (p := ⟨g, o + j, none⟩) hg, HR.out j (by omega)];unfold z4n;rw [if_pos (show j < l.length by rw [← Hn.out]; omega)]⟩))
 have e6 : (q : Int) * 64 ≤ 90000 := by omega
 have er : n - 64 * q = r := by omega
 have Hsz0 := zh sz0; have Hp64 := zh hp64; have Hnqr := zh hnqr; have Her := zh er;have hcq : 64 * q ≤ c := by omega
 have hnq : 64 * q ≤ n := by omega
 clear sz0 hp64 hnqr er
 go_wp2_with fail
 refine HT.out.mono ?_;rintro e w2 ⟨rfl, b2, gr2⟩;have lw2 : Below w.heap.size w w2 := lw1.trans (z1h gr2 (by have := lw1.size; omega) (Nat.le_of_lt gsB));have rw2 : Blk w2 w.heap.size 68 (u8s 32 fun _ => 0) := (gr2.block _ rw1.lt (by intro h; cases h; omega)).trans rw1;have er := Her.out; have hnqr := Hnqr.out;obtain ⟨A2, hA2⟩ := zx (if c = 64 * q then some (⟨g, o, none⟩ : Addr) else some ⟨g, o + 64 * q, none⟩);have gA : (if c = 64 * q then some (⟨g, o, none⟩ : Addr) else some ⟨g, o + 64 * q, none⟩) = A2 := hA2.symm
 have HL := zgz w2 A2 r (c - 64 * q) n (fun j => l.getD (64 * q + j) 0) hr64 hl (fun h => ⟨g, o + 64 * q, by rw [hA2, if_neg (by omega)], fun j hj => by
  rw [lw2.cell (p := ⟨g, o + 64 * q + j, none⟩) hg, Nat.add_assoc];exact HR.out (64 * q + j) (by omega)⟩)
 rw [← HN.out] at HL;have HL' := zh HL; clear HL hnqr hA2
 go_wp2_with fail
 clear gA er;refine HL'.out.mono ?_;rintro e w3 ⟨rfl, l3⟩;have lw3 : Below w.heap.size w w3 := lw2.trans (l3.mono lw2.size);have rw3 : Blk w3 w.heap.size 68 (u8s 32 fun _ => 0) := rw2.below l3 rw2.lt;have b3 := b2.below l3 b2.lt;obtain ⟨E, hE⟩ := zx (endB (fun j => l.getD (64 * q + j) 0) r N n);rw [← hE];have HE := zh hE; clear hE;have eN1 : 0 ≤ (N : Int) := by omega
 have eN2 : (N : Int) ≤ 128 := by omega
 obtain ⟨w4, hw4⟩ := zx (w3.alloc (Obj.cells (u8s 128 E) 149));have lw4 : Below w.heap.size w w4 := by rw [hw4]; exact lw3.alloc lw3.size _
 have rw4 : Blk w4 w.heap.size 68 (u8s 32 fun _ => 0) := by rw [hw4]; exact rw3.alloc _
 have b4 : Blk w4 gs 185 (u32s 72 (stF (z2z KF H0 (z4n l) q) KF)) := by rw [hw4]; exact b3.alloc _
 have ne34 : Blk w4 w3.heap.size 149 (u8s 128 E) := by rw [hw4]; exact Blk.new w3 _ _
 have gs3 : gs < w3.heap.size := b3.lt;have Hw4 := zh hw4; clear hw4
 have HT2 := zh (z8f w4 gs N p 128 (some ⟨w3.heap.size, 0, none⟩) (z2z KF H0 (z4n l) q) KF E Hp64.out (by omega) hN128 b4 (fun h => ⟨w3.heap.size, 0, rfl, by omega, fun j hj => by
  rw [Nat.zero_add]; exact ne34.byte j (by omega)⟩))
 go_wp2_with (refine wpList_store_row (o := ⟨none, .store 149 (.tmp 5) (.tmp 24), _, _, _, _⟩) rfl 149 _ _ rfl w3.heap.size (u8s 128 E) rfl rfl 149 (u8s 128 fun _ => 0) (by exact Blk.new w3 _ _) (by rw [z0a]; kernel_rfl) (by rw [z0a, z0a]) (z3r 128 E) ?_; rw [World.setRow_alloc_new, ← Hw4.out])
 refine HT2.out.mono ?_;rintro e w5 ⟨rfl, b5, gr5⟩;have lw5 : Below w.heap.size w w5 := lw4.trans (z1h gr5 lw4.size (Nat.le_of_lt gsB));have rw5 : Blk w5 w.heap.size 68 (u8s 32 fun _ => 0) := (gr5.block _ rw4.lt (by intro h; cases h; omega)).trans rw4;rw [HE.out, HS.out] at b5;have HO := zgy w5 gs (sumV l) KF b5;obtain ⟨S, hS⟩ := zx (z30 (sumV l));rw [← hS] at HO;have HSS := zh hS; clear hS;have HO' := zh HO; clear HO
 go_wp2_with fail
 refine HO'.out.mono ?_;rintro e w6 ⟨rfl, l6⟩;have lw6 : Below w.heap.size w w6 := lw5.trans (l6.mono lw5.size);have rw6 : Blk w6 w.heap.size 68 (u8s 32 fun _ => 0) := rw5.below l6 rw5.lt;have rw7 : Blk (w6.setRow w.heap.size (u8s 32 S)) w.heap.size 68 (u8s 32 S) := setRow_heap w6 w.heap.size _ _ _ _ rw6;have lw7 : Below w.heap.size w (w6.setRow w.heap.size (u8s 32 S)) := below_setRow lw6 zl _
 go_wp2_with (refine wpList_store_row rfl 68 _ _ rfl w.heap.size (u8s 32 S) rfl rfl 68 (u8s 32 fun _ => 0) rw6 (by rw [z0a]; kernel_rfl) (by rw [z0a, z0a]) (z3r 32 _) ?_)
 exact bodyPost_ret (v := .agg (u8s 32 S)) (results_cell_row rfl _ _ w.heap.size 68 (u8s 32 S) (0, 0) _ rfl rw7 Tryz.underlying68 rfl (by rw [z0a]; kernel_rfl)) rfl ⟨by rw [HSS.out], lw7⟩
theorem Sum_nil (w : World) (A : Option Addr) (hp : Pr w) :
 Calls Tryz.prog 54 #[.slice A 0 0] w fun e w' => e = .returned (.agg (u8s 32 (z30 (sumV [])))) ∧ Below w.heap.size w w' := by
 have HS := zh (zde [] 0 0 64 1 rfl (by omega) (by rw [if_neg (by omega)]) rfl);have hplt := hp.lt;obtain ⟨w0, hw0⟩ := zx (w.alloc (Obj.cells (u8s 32 fun _ => 0) 68));have r0 : Blk w0 w.heap.size 68 (u8s 32 fun _ => 0) := by rw [hw0]; exact Blk.new w _ _
 have l0 : Below w.heap.size w w0 := by rw [hw0]; exact z1v w _
 have sz0 : w0.heap.size = w.heap.size + 1 := by rw [hw0]; simp
 have hz32 := zzzf;have hz128 := zfh.1;have p0 : Pr w0 := hp.below l0 hplt;have HB := zh (zdd w0 p0);have Hw0 := zh hw0;clear hw0;obtain ⟨gs, hgs⟩ := zx w0.heap.size;rw [← hgs] at HB sz0;have Hgs := zh hgs; clear hgs;have gsB : w.heap.size < gs := by omega
 have Hsz0 := zh sz0; clear sz0
 go_enter Tryz.func54, Tryz.ntmps54
 go_wp2_with fail
 rw [← Hw0.out];refine HB.out.mono ?_;rintro e w1 ⟨rfl, b1, l1⟩;have rw1 : Blk w1 w.heap.size 68 (u8s 32 fun _ => 0) := r0.below l1 gsB;have lw1 : Below w.heap.size w w1 := l0.trans (l1.mono (Nat.le_of_lt gsB));have HT := zh (z8f w1 gs 0 0 0 A H0 KF (z4n []) rfl (by omega) (by omega) b1 (fun h => absurd h (Nat.lt_irrefl _)))
 go_wp2_with fail
 refine HT.out.mono ?_;rintro e w2 ⟨rfl, b2, gr2⟩;have lw2 : Below w.heap.size w w2 := lw1.trans (z1h gr2 (by have := lw1.size; omega) (Nat.le_of_lt gsB));have rw2 : Blk w2 w.heap.size 68 (u8s 32 fun _ => 0) := (gr2.block _ rw1.lt (by intro h; cases h; omega)).trans rw1;have HL := zgz w2 A 0 0 0 (fun j => ([] : zB).getD (64 * 0 + j) 0) (by omega) (by omega) (fun h => absurd h (Nat.lt_irrefl _));rw [if_neg (show ¬ 56 < 0 + 1 by omega)] at HL;have HL' := zh HL; clear HL
 go_wp2_with fail
 refine HL'.out.mono ?_;rintro e w3 ⟨rfl, l3⟩;have lw3 : Below w.heap.size w w3 := lw2.trans (l3.mono lw2.size);have rw3 : Blk w3 w.heap.size 68 (u8s 32 fun _ => 0) := rw2.below l3 rw2.lt;have b3 := b2.below l3 b2.lt;obtain ⟨E, hE⟩ := zx (endB (fun j => ([] : zB).getD (64 * 0 + j) 0) 0 64 0);rw [← hE];have HE : Hid (E = endB (fun j => ([] : zB).getD (64 * 0 + j) 0) 0 64 ([] : zB).length) := zh hE; clear hE;obtain ⟨w4, hw4⟩ := zx (w3.alloc (Obj.cells (u8s 128 E) 149));have lw4 : Below w.heap.size w w4 := by rw [hw4]; exact lw3.alloc lw3.size _
 have rw4 : Blk w4 w.heap.size 68 (u8s 32 fun _ => 0) := by rw [hw4]; exact rw3.alloc _
 have b4 : Blk w4 gs 185 (u32s 72 (stF (z2z KF H0 (z4n []) 0) KF)) := by rw [hw4]; exact b3.alloc _
 have ne34 : Blk w4 w3.heap.size 149 (u8s 128 E) := by rw [hw4]; exact Blk.new w3 _ _
 have gs3 : gs < w3.heap.size := b3.lt;have Hw4 := zh hw4; clear hw4
 have HT2 := zh (z8f w4 gs 64 1 128 (some ⟨w3.heap.size, 0, none⟩) (z2z KF H0 (z4n []) 0) KF E rfl (by omega) (by omega) b4 (fun h => ⟨w3.heap.size, 0, rfl, by omega, fun j hj => by
  rw [Nat.zero_add]; exact ne34.byte j (by omega)⟩))
 go_wp2_with (refine wpList_store_row (o := ⟨none, .store 149 (.tmp 5) (.tmp 24), _, _, _, _⟩) rfl 149 _ _ rfl w3.heap.size (u8s 128 E) rfl rfl 149 (u8s 128 fun _ => 0) (by exact Blk.new w3 _ _) (by rw [z0a]; kernel_rfl) (by rw [z0a, z0a]) (z3r 128 E) ?_; rw [World.setRow_alloc_new, ← Hw4.out])
 refine HT2.out.mono ?_;rintro e w5 ⟨rfl, b5, gr5⟩;have lw5 : Below w.heap.size w w5 := lw4.trans (z1h gr5 lw4.size (Nat.le_of_lt gsB));have rw5 : Blk w5 w.heap.size 68 (u8s 32 fun _ => 0) := (gr5.block _ rw4.lt (by intro h; cases h; omega)).trans rw4;rw [HE.out, HS.out] at b5;have HO := zgy w5 gs (sumV []) KF b5;obtain ⟨S, hS⟩ := zx (z30 (sumV []));rw [← hS] at HO;have HSS := zh hS; clear hS;have HO' := zh HO; clear HO
 go_wp2_with fail
 refine HO'.out.mono ?_;rintro e w6 ⟨rfl, l6⟩;have lw6 : Below w.heap.size w w6 := lw5.trans (l6.mono lw5.size);have rw6 : Blk w6 w.heap.size 68 (u8s 32 fun _ => 0) := rw5.below l6 rw5.lt;have rw7 : Blk (w6.setRow w.heap.size (u8s 32 S)) w.heap.size 68 (u8s 32 S) := setRow_heap w6 w.heap.size _ _ _ _ rw6;have lw7 : Below w.heap.size w (w6.setRow w.heap.size (u8s 32 S)) := below_setRow lw6 zl _
 go_wp2_with (refine wpList_store_row rfl 68 _ _ rfl w.heap.size (u8s 32 S) rfl rfl 68 (u8s 32 fun _ => 0) rw6 (by rw [z0a]; kernel_rfl) (by rw [z0a, z0a]) (z3r 32 _) ?_)
 exact bodyPost_ret (v := .agg (u8s 32 S)) (results_cell_row rfl _ _ w.heap.size 68 (u8s 32 S) (0, 0) _ rfl rw7 Tryz.underlying68 rfl (by rw [z0a]; kernel_rfl)) rfl ⟨by rw [HSS.out], lw7⟩
theorem index32 (F : Nat → UInt8) (W : World) (i : Nat) (hi : i < 32) : (Instr.index 68 (.agg (u8s 32 F)) (.int .i64 (i : Int))).run Tryz.prog W = .ok (.int .u8 ((F i).toNat : Int)) W := by
 have h1 : (u8s 32 F)[i]? = some (.int .u8 ((F i).toNat : Int)) := z47 32 F i hi;have hs : ∀ W, (sizeOf 5).run Tryz.prog W = .ok 1 W := fun _ => by kernel_rfl
 have hp : ∀ W, (part 5 (u8s 32 F) i).run Tryz.prog W = .ok (.int .u8 ((F i).toNat : Int)) W := fun W => by
  have ha : ∀ W, (isAgg 5).run Tryz.prog W = .ok false W := fun _ => by kernel_rfl
  simp [part, Sem.run_bind, ha, h1]
 have hi1 : 0 ≤ (i : Int) := by omega
 simp [Instr.index, asIntOf, Sem.run_bind, run_underlying Tryz.underlying68, hs, hp, hi1];omega
theorem zdf (G : Nat → UInt8) (a b : Nat → UInt8) : ∀ n, (∀ j, j < n → G (2 * j) = a j ∧ G (2 * j + 1) = b j) → (List.range (2 * n)).map G = (List.range n).flatMap fun i => [a i, b i]
 | 0, _ => rfl
 | n + 1, h => by
   rw [show 2 * (n + 1) = 2 * n + 1 + 1 by omega, List.range_succ, List.range_succ, List.map_append, List.map_append, zdf G a b n fun j hj => h j (by omega), List.range_succ, List.flatMap_append];simp [(h n (by omega)).1, (h n (by omega)).2]
theorem pairs_eq (G : Nat → UInt8) (a b : Nat → UInt8) (h : ∀ j, j < 32 → G (2 * j) = a j ∧ G (2 * j + 1) = b j) : (List.range 64).map G = (List.range 32).flatMap fun i => [a i, b i] := zdf G a b 32 h
theorem hexAt : ∀ k : Fin 16, ((⟨#[48, 49, 50, 51, 52, 53, 54, 55, 56, 57, 97, 98, 99, 100, 101, 102]⟩ : ByteArray)[k.val]'k.isLt) = hexD (UInt8.ofNat k.val) := by decide +kernel
theorem hexHi (c : UInt8) (h : c.toNat / 16 < (⟨#[48, 49, 50, 51, 52, 53, 54, 55, 56, 57, 97, 98, 99, 100, 101, 102]⟩ : ByteArray).size) : ((⟨#[48, 49, 50, 51, 52, 53, 54, 55, 56, 57, 97, 98, 99, 100, 101, 102]⟩ : ByteArray)[c.toNat / 16]'h) = hexD (c / 16) := by
 refine (hexAt ⟨c.toNat / 16, h⟩).trans (congrArg hexD ?_);have := c.toNat_lt;rw [← UInt8.toNat_inj, UInt8.toNat_ofNat', UInt8.toNat_div];simp; omega
theorem hexLo (c : UInt8) (h : c.toNat % 16 < (⟨#[48, 49, 50, 51, 52, 53, 54, 55, 56, 57, 97, 98, 99, 100, 101, 102]⟩ : ByteArray).size) : ((⟨#[48, 49, 50, 51, 52, 53, 54, 55, 56, 57, 97, 98, 99, 100, 101, 102]⟩ : ByteArray)[c.toNat % 16]'h) = hexD (c % 16) := by
 refine (hexAt ⟨c.toNat % 16, h⟩).trans (congrArg hexD ?_);have := c.toNat_lt;rw [← UInt8.toNat_inj, UInt8.toNat_ofNat', UInt8.toNat_mod];simp; omega
theorem Name_of (w : World) (v : Value) (F : Nat → UInt8) (hS : ∀ W : World, Below w.heap.size w W → Calls Tryz.prog 54 #[v] W fun e w' => e = .returned (.agg (u8s 32 F)) ∧ Below W.heap.size W w') :
 Calls Tryz.prog 143 #[v] w fun e w' => e = .returned (SV ((List.range 32).flatMap fun i => [hexD (F i / 16), hexD (F i % 16)])) ∧ Below w.heap.size w w' := by
 have HS := zh hS; clear hS
 go_enter Tryz.func143, Tryz.ntmps143
 go_wp2_with fail
 have l0 : Below w.heap.size w (w.alloc (Obj.cells (u8s 64 fun _ => 0) 255)) := z1v w _;have b0 : Blk (w.alloc (Obj.cells (u8s 64 fun _ => 0) 255)) w.heap.size 255 (u8s 64 fun _ => 0) := Blk.new w _ _;refine (HS.out _ l0).mono ?_;rintro e w1 ⟨rfl, l1⟩;have b1 := b0.below l1 b0.lt;have lw1 : Below w.heap.size w w1 := l0.trans (l1.mono l0.size)
 go_wp2
 go_loopw [4, 5, 8] (fun _ _ i wr => ∃ (k : Nat) (G : Nat → UInt8), k ≤ 32 ∧ i = .int .i64 k ∧ Blk wr w.heap.size 255 (u8s 64 G) ∧ Below w.heap.size w wr ∧ (∀ j, j < k → G (2 * j) = hexD (F j / 16) ∧ G (2 * j + 1) = hexD (F j % 16))) (fun _ _ i _ => 32 - (intOf i).toNat)
 case atStart => exact ⟨0, _, Nat.zero_le _, rfl, b1, lw1, fun j hj => absurd hj (Nat.not_lt_zero _)⟩
 case round =>
  clear b1 lw1 l1 b0 l0;obtain ⟨k, G, hk, rfl, hblk, hb, hG⟩ := hrel;have HG := zh hG; clear hG;by_cases hlt : k < 32
  · have hix := fun W => index32 F W k hlt;obtain ⟨c, hc⟩ := zx (F k);rw [← hc] at hix;have Hc := zh hc; clear hc;obtain ⟨x, hx⟩ := zx (hexD (c / 16));obtain ⟨y, hy⟩ := zx (hexD (c % 16));have gx := fun h => (hexHi c h).trans hx.symm;have gy := fun h => (hexLo c h).trans hy.symm;have Hx := zh hx; have Hy := zh hy; clear hx hy;have cq0 := hblk.byte (2 * k) (by omega);have cq1 := hblk.byte (2 * k + 1) (by omega);have zq0 := hblk.frozen (2 * k);have zq1 := hblk.frozen (2 * k + 1);have hbound := hblk.lt;have hcl := c.toNat_lt;have hc1 : c.toNat / 16 < 16 := by omega
    have hc2 : (c.toNat : Int) / 16 < 16 := by omega
    have hc3 : 0 ≤ (c.toNat : Int) / 16 := by omega
    have hc4 : c.toNat % 16 < 16 := by omega
    go_wp2
    go_roundw
    case rel =>
     refine ⟨k + 1, upd (upd G (2 * k) x) (2 * k + 1) y, by omega, by go_num, (hblk.setB (2 * k) x).setB (2 * k + 1) y, (hb.setCell zl _).setCell zl _, fun j hj => ?_⟩;by_cases hjk : j = k
     · subst hjk;rw [z0q, z09 _ _ _ _ (show 2 * j ≠ 2 * j + 1 by omega), z0q, Hx.out, Hy.out, Hc.out];exact ⟨rfl, rfl⟩
     · rw [z09 _ _ _ _ (show 2 * j ≠ 2 * k + 1 by omega), z09 _ _ _ _ (show 2 * j ≠ 2 * k by omega), z09 _ _ _ _ (show 2 * j + 1 ≠ 2 * k + 1 by omega), z09 _ _ _ _ (show 2 * j + 1 ≠ 2 * k by omega)];exact HG.out j (by omega)
    case measure => simp [intOf]; omega
  · have Hl : Hid ((List.range 64).map G = (List.range 32).flatMap fun i => [hexD (F i / 16), hexD (F i % 16)]) := zh (pairs_eq _ _ _ fun j hj => HG.out j (by omega));obtain ⟨nm, hnm⟩ := zx ((List.range 64).map G);have hlen : nm.length = 64 := by rw [hnm]; simp
    have hconv : (convert 23 9 (.slice (some ⟨w.heap.size, 0, none⟩) 64 64)).run Tryz.prog wr = .ok (.string ⟨nm.toArray⟩) wr := by
     have := run_convert_bytes_back (P := Tryz.prog) wr 23 9 5 ⟨w.heap.size, 0, none⟩ 64 nm Tryz.underlying23 Tryz.underlying5 Tryz.underlying9 (fun j hj => by
      rw [add_none, Nat.zero_add, hblk.byte j (by omega)];simp [hnm])
     rw [hlen] at this;exact this
    have Hnm : Hid (nm = (List.range 32).flatMap fun i => [hexD (F i / 16), hexD (F i % 16)]) := zh (hnm.trans Hl.out);have hbound := hblk.lt;clear hnm hlen
    go_wp2
    go_ret
    exact ⟨by unfold SV; rw [Hnm.out]; rfl, hb⟩
theorem zfi (w : World) (v : Value) (l : zB) (hp : Pr w) (hl : l.length ≤ 90000) (hr : Rb w v l) :
 Calls Tryz.prog 54 #[v] w fun e w' => e = .returned (.agg (u8s 32 (z30 (sumV l)))) ∧ Below w.heap.size w w' := by
 rcases hr with ⟨⟨A, rfl⟩, rfl⟩ | ⟨g, o, c, rfl, hc, hg, hcell⟩
 · exact Sum_nil w A hp
 · exact Sum_some w g o c l hp hl hc hg hcell
theorem zlz (f : Nat → UInt8) (n : Nat) : u8s n f = (((List.range n).map f).map Extern.Stop.cell).toArray := by
 unfold u8s;rw [List.map_map]; rfl
def sumC (l : zB) : List Value := (sumL l).map Extern.Stop.cell
theorem zfj (l : zB) : u8s 32 (z30 (sumV l)) = (sumC l).toArray := zlz _ _
theorem zm0 (l : zB) : ((List.range 32).flatMap fun i => [hexD (z30 (sumV l) i / 16), hexD (z30 (sumV l) i % 16)]) = z3u l := by
 unfold z3u sumL;rw [List.flatMap_map]
theorem Name_any (w : World) (v : Value) (l : zB) (hp : Pr w) (hl : l.length ≤ 90000) (hr : Rb w v l) :
 Calls Tryz.prog 143 #[v] w fun e w' => e = .returned (SV (z3u l)) ∧ Below w.heap.size w w' := by
 rw [← zm0];exact Name_of w v (z30 (sumV l)) fun W hW => zfi W v l (hp.below hW hp.lt) hl (hr.below hW zl)
section
variable {P : Program} {ops : Array Oper} {Q : Exit → Go.Act → World → Prop}
theorem z97 {md : Region.Mode} {S S' : World → Prop} (hS : ∀ w, S' w → S w) : ∀ (fuel : Nat) (listed : Array Bool) (a : Go.Act) (w : World), wpAnyH P md ops Q S' fuel listed a w → wpAnyH P md ops Q S fuel listed a w
 | 0, _, _, _, h => h
 | fuel + 1, _, _, _, h => ⟨h.1, fun i hi => wpOp_mono (fun a' w' h' => ⟨hS w' h'.1, z97 hS fuel _ a' w' h'.2⟩) (h.2 i hi)⟩
def AnyB (P : Program) (ops : Array Oper) (Q : Exit → Go.Act → World → Prop) (fuel : Nat) (listed : Array Bool) (a : Go.Act) (w : World) : Prop :=
 wpAnyH P .any ops Q (fun W => Below w.heap.size w W) fuel listed a w
theorem AnyB.start {id : Nat} {a : Go.Act} {w : World} (hm : P.follows .mixedOrders = true) (h : AnyB P ops Q ops.size (Array.replicate ops.size false) a w.drew) : (Code.region id ops true).wp P Q a w :=
 wp_region_held hm h
theorem AnyB.take (i : Nat) (v : Value) {oi : Oper} {fuel : Nat} {listed : Array Bool} {a : Go.Act} {w : World} (hi : ops[i]? = some oi)
 (hs : Region.noSelect ops = true) (hf : Region.free .any ops listed i = true) (hr : (Region.ready .any ops listed).contains i = true)
 (hQ : ∀ c a w, Q (.panic c) (a.put oi.dst v) w → Q (.panic c) a w) (hw : Region.wanted oi (yielded ops a.tmps) = true)
 (hy : ∀ W, Below w.heap.size w W → (execOp a.eval oi).run P W = .ok (.value v) W)
 (h : AnyB P ops Q fuel (listed.setIfInBounds i true) (a.put oi.dst v) w) : AnyB P ops Q (fuel + 1) listed a w :=
 wpAnyH_take hi hs hf hr hQ (.inl ⟨hw, hy⟩) (Below.refl _ _) h
theorem AnyB.skip (i : Nat) {oi : Oper} {fuel : Nat} {listed : Array Bool} {a : Go.Act} {w : World} (hi : ops[i]? = some oi)
 (hs : Region.noSelect ops = true) (hf : Region.free .any ops listed i = true) (hr : (Region.ready .any ops listed).contains i = true)
 (hQ : ∀ c a w, Q (.panic c) (a.put oi.dst undef) w → Q (.panic c) a w) (hw : Region.wanted oi (yielded ops a.tmps) = false)
 (h : AnyB P ops Q fuel (listed.setIfInBounds i true) (a.put oi.dst undef) w) : AnyB P ops Q (fuel + 1) listed a w :=
 wpAnyH_take hi hs hf hr hQ (.inr ⟨hw, rfl⟩) (Below.refl _ _) h
theorem AnyB.call (i : Nat) {oi : Oper} {fuel : Nat} {listed : Array Bool} {a : Go.Act} {w : World} (f : FuncId) (vs : Array Value) (hr : Region.ready .any ops listed = [i]) (hi : ops[i]? = some oi)
 (hw : Region.wanted oi (yielded ops a.tmps) = true) (he : (execOp a.eval oi).run P w = .ok (.enter f vs) w)
 (hc : Calls P f vs w fun e w' => ∃ v, e = .returned v ∧ Below w.heap.size w w' ∧ AnyB P ops Q fuel (listed.setIfInBounds i true) (a.put oi.dst v) w') : AnyB P ops Q (fuel + 1) listed a w := by
 refine wpAnyH_ready hr (by simp) (AllReadyH.cons hi (fun K hK => ?_) AllReadyH.nil);rw [if_pos hw];unfold Oper.wp;rw [he, Oper.upon_enter];refine hc.mono ?_;rintro e w' ⟨v, rfl, hb, h⟩;exact hK.out _ _ hb fun _ => z97 (fun _ hW => hb.trans (hW.mono hb.size)) _ _ _ _ h
theorem AnyB.op (i : Nat) (v : Value) (w' : World) {oi : Oper} {fuel : Nat} {listed : Array Bool} {a : Go.Act} {w : World} (hr : Region.ready .any ops listed = [i]) (hi : ops[i]? = some oi)
 (hw : Region.wanted oi (yielded ops a.tmps) = true) (he : (execOp a.eval oi).run P w = .ok (.value v) w') (hb : Below w.heap.size w w') (h : AnyB P ops Q fuel (listed.setIfInBounds i true) (a.put oi.dst v) w') : AnyB P ops Q (fuel + 1) listed a w :=
 held_one hr (held_op v w' hi hw he hb (z97 (fun _ hW => hb.trans (hW.mono hb.size)) _ _ _ _ h))
theorem AnyB.done {listed : Array Bool} {a : Go.Act} {w : World} (fuel : Nat) (hr : Region.ready .any ops listed = []) (h : Q .normal a w) : AnyB P ops Q fuel listed a w :=
 wpAnyH_done hr h fuel
end
section
variable {P : Program} {a : Go.Act} {o : Oper} {W : World}
theorem y_bin {op : BinOp} {s t : Operand} {ty ty' : TypeId} {x y r : Value} (ho : o.op = .binOp op ty s t ty') (hs : a.eval s = x) (ht : a.eval t = y)
 (hg : (eqGuard op ty s t x y).run P W = .ok () W) (hb : (binOp op ty x y).run P W = .ok r W) : (execOp a.eval o).run P W = .ok (.value r) W := by
 subst hs ht;simp only [execOp, ho];simp [Sem.run_bind, hg, hb, Result.andThen]
theorem y_conv' {s : Operand} {ty ty' : TypeId} {x r : Value} {W' : World} (ho : o.op = .convert ty ty' s) (hs : a.eval s = x) (hc : (convert ty ty' x).run P W = .ok r W') : (execOp a.eval o).run P W = .ok (.value r) W' := by
 subst hs;simp only [execOp, ho];simp [hc, Result.andThen]
theorem y_conv {s : Operand} {ty ty' : TypeId} {x r : Value} (ho : o.op = .convert ty ty' s) (hs : a.eval s = x) (hc : (convert ty ty' x).run P W = .ok r W) : (execOp a.eval o).run P W = .ok (.value r) W := by
 subst hs;simp only [execOp, ho];simp [hc, Result.andThen]
end
end Go.Proofs.YtgjddkeogboojaaGreatDoor
