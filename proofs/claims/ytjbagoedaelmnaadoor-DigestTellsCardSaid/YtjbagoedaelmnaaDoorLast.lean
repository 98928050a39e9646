/-
  last: what is summed behind the last whole block.
-/
import Derived.Test.YtjbagoedaelmnaaDoorTake
import Derived.Laws.CopyOwn
import Derived.Laws.ResultCell
namespace Go.Proofs.YtjbagoedaelmnaaDoor
open Go Go.RowKit

/-- Byte j of what stands behind the whole blocks: n bytes are left of L, N is the whole's length. -/
def endB (m : Nat → UInt8) (n N L j : Nat) : UInt8 := if j < n then m j else if j = n then 128 else if j < N - 8 then 0 else if j < N then UInt8.ofNat (8 * L / 2 ^ (8 * (N - 1 - j))) else 0

theorem zero128 : (∀ w, (zeroValue 36).run Tryd.prog w = .ok (.agg (u8s 128 fun _ => 0)) w) ∧ (Tryd.prog.info? 36).map (·.size) = some 128 := zero_of_info (by kernel_rfl)

theorem len_min (n : Nat) {f : Nat → Value} (h : n ≤ 128) : ((List.range n).map f).length = Nat.min n 128 := by
  rw [List.length_map, List.length_range]; exact (Nat.min_eq_left h).symm
theorem add_none (g o j : Nat) : (⟨g, o, none⟩ : Addr).add j = ⟨g, o + j, none⟩ := by unfold Addr.add; split <;> simp_all
theorem src_ok (w : World) (A : Option Addr) (n : Nat) (m : Nat → UInt8) (o : Obj) {dp : Option Addr} {x : Addr} (h : 0 < n → ∃ g o, A = some ⟨g, o, none⟩ ∧ ∀ j, j < n → w.cell? ⟨g, o + j, none⟩ = some (.int .u8 ((m j).toNat : Int)))
   
    (hd : dp = some x) : 0 < ((List.range n).map fun j => bv (m j)).length → dp = some x ∧ ∃ ad, A = some ad ∧ ∀ j v, ((List.range n).map fun j => bv (m j))[j]? = some v → (w.alloc o).cell? (ad.add j) = some v := by
  intro h0
  rw [List.length_map, List.length_range] at h0
  obtain ⟨g, off, rfl, hc⟩ := h h0
  refine ⟨hd, _, rfl, fun j v hj => ?_⟩
  rw [List.getElem?_map] at hj
  by_cases hjn : j < n
  · rw [List.getElem?_range hjn] at hj
    have hv : v = bv (m j) := (Option.some.inj hj).symm
    have hlt : g < w.heap.size := by have := block_lt_of_cell (hc 0 h0); exact this
    rw [add_none, hv, World.cell?_of_block (w := w) (a := ⟨g, off + j, none⟩) (Below.heap_alloc w o g hlt)]
    exact hc j hjn
  · rw [List.getElem?_eq_none (by rw [List.length_range]; omega)] at hj; cases hj
theorem one_bv (n : Nat) (m : Nat → UInt8) : ∀ v ∈ (List.range n).map fun j => bv (m j), v.oneCell' = true := by
  intro v hv
  obtain ⟨i, _, rfl⟩ := List.mem_map.1 hv
  rfl
theorem below_new (w : World) (o : Obj) : Below w.heap.size w (w.alloc o) := (Below.refl _ w).alloc (Nat.le_refl _) o
theorem splice_u8s (n : Nat) (m : Nat → UInt8) (h : n ≤ 128) : (splice (u8s 128 fun _ => 0).toList 0 ((List.range n).map fun j => bv (m j))).toArray = u8s 128 fun j => if j < n then m j else 0 := by
  unfold splice
  apply Array.ext_getElem?
  intro i
  rw [List.getElem?_toArray, List.take_zero, List.nil_append, Nat.zero_add, List.length_map, List.length_range]
  by_cases hi : i < n
  · rw [List.getElem?_append_left (by rw [List.length_map, List.length_range]; exact hi), List.getElem?_map, List.getElem?_range hi, u8s_get _ _ _ (by omega), if_pos hi]; rfl
  · rw [List.getElem?_append_right (by rw [List.length_map, List.length_range]; omega), List.length_map, List.length_range, List.getElem?_drop, show n + (i - n) = i by omega, Array.getElem?_toList]
    by_cases h2 : i < 128
    · rw [u8s_get _ _ _ h2, u8s_get _ _ _ h2, if_neg hi]
    · rw [Array.getElem?_eq_none (by rw [u8s_size]; omega), Array.getElem?_eq_none (by rw [u8s_size]; omega)]

theorem results_two {P : Program} {fn : Func} {p u : Tmp} {ty : TypeId} (h : fn.results = #[.cell p ty, .tmp u]) (tmps : Array Value) (w : World) (g : Nat) (t : TypeId) (cs : Array Value) (fr : Nat × Nat) (d : TypeDesc)
    (hp : tmps.getD p undef = .pointer (some ⟨g, 0, none⟩)) (hg : w.heap[g]? = some (.cells cs t fr))
    (hu : P.underlying ty = some d) (hd : (match d with | .struct _ | .array _ _ => true | _ => false) = true) (hi : (P.info? ty).map (·.size) = some cs.size) {x : Value} (hx : tmps.getD u undef = x) :
    (results fn tmps).run P w = .ok (.tuple #[.agg cs, x]) w := by
  rw [results_cell_tmp h, hp, hx]
  simp [asAddr, Result.andThen, run_loadVar_row w g t ty cs fr d hg hu hd hi]

set_option maxRecDepth 100000 in
set_option maxHeartbeats 1000000 in
theorem last_any (w : World) (A : Option Addr) (n c L : Nat) (m : Nat → UInt8) (hn : n < 64) (hL : L ≤ 30000)
    (hr : 0 < n → ∃ g o, A = some ⟨g, o, none⟩ ∧ ∀ j, j < n → w.cell? ⟨g, o + j, none⟩ = some (.int .u8 ((m j).toNat : Int))) :
    Calls Tryd.prog 19 #[.slice A n c, .int .i64 (L : Int)] w fun e w' =>
      e = .returned (.tuple #[.agg (u8s 128 (endB m n (if 56 < n + 1 then 128 else 64) L)), .int .i64 ((if 56 < n + 1 then 128 else 64 : Nat) : Int)]) ∧ Below w.heap.size w w' := by
  have hz := zero128.1
  have HR := Lib.hid hr; clear hr
  by_cases h56 : 56 < n + 1

  · have HE : Hid (u8s 128 (endB m n 128 L) = u8s 128 (endB m n (if 56 < n + 1 then 128 else 64) L)) := Lib.hid (by rw [if_pos h56])
    have HN : Hid (Value.int .i64 128 = .int .i64 ((if 56 < n + 1 then 128 else 64 : Nat) : Int)) := Lib.hid (by rw [if_pos h56]; rfl)
    rw [← HE.out, ← HN.out]
    have Q1 := Lib.hid (len_min n (f := fun j => bv (m j)) (by omega))
    have Q2 := Lib.hid (src_ok w A n m (Obj.cells (u8s 128 fun _ => 0) 36) HR.out (dp := some ⟨w.heap.size, 0, none⟩) (x := ⟨w.heap.size, 0, none⟩) rfl)
    have Q3 : Hid (0 + ((List.range n).map fun j => bv (m j)).length ≤ (u8s 128 fun _ => 0).toList.length) := Lib.hid (by rw [List.length_map, List.length_range, Array.length_toList, u8s_size]; omega)
    go_enter Tryd.func19, Tryd.ntmps19
    go_wp2_with (refine wpList_copy_splice (o := ⟨some 14, _, _, _, _, _⟩) rfl _ _ _ _ rfl 5 Tryd.underlying22 (by kernel_rfl) _ _ _ _ _ _ rfl rfl w.heap.size 0 (u8s 128 fun _ => 0).toList 36 (by exact Blk.new w _ _) ((List.range n).map fun j => bv (m j)) Q1.out Q2.out Q3.out (one_bv n m) w.heap.size w (below_new w _) (Nat.le_refl _) ?_)
    intro w1 hblk0 hb0
    have hblk := hblk0.out
    rw [splice_u8s n m (by omega)] at hblk
    clear hblk0
    replace hblk : Blk w1 w.heap.size 36 (u8s 128 fun j => if j < n then m j else 0) := hblk
    have cq := hblk.byte n (by omega)
    have zq := hblk.frozen n
    have hbound := hblk.lt
    go_wp2
    clear cq zq hbound
    have hblk2 : Blk (w1.setCell ⟨w.heap.size, n, none⟩ (.int .u8 128)) w.heap.size 36 (u8s 128 (upd (fun j => if j < n then m j else 0) n 128)) := hblk.setB n 128
    have hb2 : Below w.heap.size w (w1.setCell ⟨w.heap.size, n, none⟩ (.int .u8 128)) := hb0.setCell (Nat.le_refl _) _
    go_loopw [7, 21] (fun _ i wr => ∃ (k : Nat) (F : Nat → UInt8), k ≤ 8 ∧ i = .int .i64 k ∧ Blk wr w.heap.size 36 (u8s 128 F) ∧ Below w.heap.size w wr ∧ (∀ j, j < 128 → F j = if 128 - k ≤ j ∧ j < 128 then endB m n 128 L j else upd (fun j => if j < n then m j else 0) n 128 j)) (fun _ i _ => 8 - (intOf i).toNat)
    case atStart => exact ⟨0, _, Nat.zero_le _, rfl, hblk2, hb2, fun j hj => by rw [if_neg (by omega)]⟩
    case round =>
      clear hblk hb0 hblk2 hb2
      obtain ⟨k, F, hk, rfl, hblk, hb, hF⟩ := hrel
      have HF := Lib.hid hF; clear hF
      by_cases hlt : k < 8
      · obtain ⟨D, hD⟩ : ∃ D, D = 8 * L / 2 ^ (8 * k) := ⟨_, rfl⟩
        obtain ⟨z, hz8⟩ : ∃ z, z = UInt8.ofNat D := ⟨_, rfl⟩
        have gD : ((8 * L : Nat) : Int) / 2 ^ (8 * k) = (D : Int) := by rw [hD]; simp
        have gD' : (L : Int) * 8 / 2 ^ (8 * k) = (D : Int) := by rw [hD, show (L : Int) * 8 = ((8 * L : Nat) : Int) by omega]; simp
        have gz : IntKind.u8.wrap (D : Int) = (z.toNat : Int) := by rw [IntKind.wrap_u8', hz8, UInt8.toNat_ofNat']; omega
        have Hz : Hid (z = endB m n 128 L (127 - k)) := Lib.hid (by
          unfold endB
          rw [if_neg (by omega), if_neg (by omega), if_neg (by omega), if_pos (by omega), hz8, hD, show 128 - 1 - (127 - k) = k by omega])
        have e1 : (127 - (k : Int)).toNat = 127 - k := by omega
        have e2 : (8 * (k : Int)).toNat = 8 * k := by omega
        have cq := hblk.byte (127 - k) (by omega)
        have zq := hblk.frozen (127 - k)
        have hbound := hblk.lt
        clear hD hz8
        go_wp2
        go_roundw
        case rel =>
          refine ⟨k + 1, upd F (127 - k) z, by omega, by go_num, hblk.setB (127 - k) z, hb.setCell (Nat.le_refl _) _, fun j hj => ?_⟩
          by_cases hjk : j = 127 - k
          · subst hjk; rw [upd_same, if_pos (by omega), Hz.out]
          · rw [upd_other _ _ _ _ hjk, HF.out j hj]
            by_cases h : 128 - k ≤ j ∧ j < 128
            · rw [if_pos h, if_pos (by omega)]
            · rw [if_neg h, if_neg (by omega)]
        case measure => simp [intOf]; omega
      · have Hf : Hid (u8s 128 F = u8s 128 (endB m n 128 L)) := Lib.hid (u8s_congr fun j hj => by
          rw [HF.out j hj]
          by_cases h : 128 - k ≤ j ∧ j < 128
          · rw [if_pos h]
          · rw [if_neg h]
            unfold endB
            by_cases h1 : j = n
            · subst h1; rw [upd_same, if_neg (by omega), if_pos rfl]
            · rw [upd_other _ _ _ _ h1]
              by_cases h2 : j < n
              · rw [if_pos h2, if_pos h2]
              · rw [if_neg h2, if_neg h2, if_neg h1]
                by_cases h3 : j < 128 - 8
                · rw [if_pos h3]
                · rw [if_neg h3, if_neg (by omega)])
        go_wp2_with (first
          | (refine wpList_load_row rfl 36 _ rfl w.heap.size rfl 36 (u8s 128 F) (0, 0) _ hblk Tryd.underlying36 rfl (by rw [u8s_size]; kernel_rfl) ?_)
          | (refine wpList_store_row rfl 36 _ _ rfl w.heap.size (u8s 128 F) rfl rfl 36 (u8s 128 F) hblk (by rw [u8s_size]; kernel_rfl) rfl (u8s_one 128 F) ?_; rw [setRow_self _ _ _ _ _ hblk]))
        exact bodyPost_ret (v := .tuple #[.agg (u8s 128 F), .int .i64 128]) (results_two rfl _ _ w.heap.size 36 (u8s 128 F) (0, 0) _ rfl hblk Tryd.underlying36 rfl (by rw [u8s_size]; kernel_rfl) rfl) rfl ⟨by rw [Hf.out], hb⟩

  · have HE : Hid (u8s 128 (endB m n 64 L) = u8s 128 (endB m n (if 56 < n + 1 then 128 else 64) L)) := Lib.hid (by rw [if_neg h56])
    have HN : Hid (Value.int .i64 64 = .int .i64 ((if 56 < n + 1 then 128 else 64 : Nat) : Int)) := Lib.hid (by rw [if_neg h56]; rfl)
    rw [← HE.out, ← HN.out]
    have Q1 := Lib.hid (len_min n (f := fun j => bv (m j)) (by omega))
    have Q2 := Lib.hid (src_ok w A n m (Obj.cells (u8s 128 fun _ => 0) 36) HR.out (dp := some ⟨w.heap.size, 0, none⟩) (x := ⟨w.heap.size, 0, none⟩) rfl)
    have Q3 : Hid (0 + ((List.range n).map fun j => bv (m j)).length ≤ (u8s 128 fun _ => 0).toList.length) := Lib.hid (by rw [List.length_map, List.length_range, Array.length_toList, u8s_size]; omega)
    go_enter Tryd.func19, Tryd.ntmps19
    go_wp2_with (refine wpList_copy_splice (o := ⟨some 14, _, _, _, _, _⟩) rfl _ _ _ _ rfl 5 Tryd.underlying22 (by kernel_rfl) _ _ _ _ _ _ rfl rfl w.heap.size 0 (u8s 128 fun _ => 0).toList 36 (by exact Blk.new w _ _) ((List.range n).map fun j => bv (m j)) Q1.out Q2.out Q3.out (one_bv n m) w.heap.size w (below_new w _) (Nat.le_refl _) ?_)
    intro w1 hblk0 hb0
    have hblk := hblk0.out
    rw [splice_u8s n m (by omega)] at hblk
    clear hblk0
    replace hblk : Blk w1 w.heap.size 36 (u8s 128 fun j => if j < n then m j else 0) := hblk
    have cq := hblk.byte n (by omega)
    have zq := hblk.frozen n
    have hbound := hblk.lt
    go_wp2
    clear cq zq hbound
    have hblk2 : Blk (w1.setCell ⟨w.heap.size, n, none⟩ (.int .u8 128)) w.heap.size 36 (u8s 128 (upd (fun j => if j < n then m j else 0) n 128)) := hblk.setB n 128
    have hb2 : Below w.heap.size w (w1.setCell ⟨w.heap.size, n, none⟩ (.int .u8 128)) := hb0.setCell (Nat.le_refl _) _
    go_loopw [7, 21] (fun _ i wr => ∃ (k : Nat) (F : Nat → UInt8), k ≤ 8 ∧ i = .int .i64 k ∧ Blk wr w.heap.size 36 (u8s 128 F) ∧ Below w.heap.size w wr ∧ (∀ j, j < 128 → F j = if 64 - k ≤ j ∧ j < 64 then endB m n 64 L j else upd (fun j => if j < n then m j else 0) n 128 j)) (fun _ i _ => 8 - (intOf i).toNat)
    case atStart => exact ⟨0, _, Nat.zero_le _, rfl, hblk2, hb2, fun j hj => by rw [if_neg (by omega)]⟩
    case round =>
      clear hblk hb0 hblk2 hb2
      obtain ⟨k, F, hk, rfl, hblk, hb, hF⟩ := hrel
      have HF := Lib.hid hF; clear hF
      by_cases hlt : k < 8
      · obtain ⟨D, hD⟩ : ∃ D, D = 8 * L / 2 ^ (8 * k) := ⟨_, rfl⟩
        obtain ⟨z, hz8⟩ : ∃ z, z = UInt8.ofNat D := ⟨_, rfl⟩
        have gD : ((8 * L : Nat) : Int) / 2 ^ (8 * k) = (D : Int) := by rw [hD]; simp
        have gD' : (L : Int) * 8 / 2 ^ (8 * k) = (D : Int) := by rw [hD, show (L : Int) * 8 = ((8 * L : Nat) : Int) by omega]; simp
        have gz : IntKind.u8.wrap (D : Int) = (z.toNat : Int) := by rw [IntKind.wrap_u8', hz8, UInt8.toNat_ofNat']; omega
        have Hz : Hid (z = endB m n 64 L (63 - k)) := Lib.hid (by
          unfold endB
          rw [if_neg (by omega), if_neg (by omega), if_neg (by omega), if_pos (by omega), hz8, hD, show 64 - 1 - (63 - k) = k by omega])
        have e1 : (63 - (k : Int)).toNat = 63 - k := by omega
        have e2 : (8 * (k : Int)).toNat = 8 * k := by omega
        have cq := hblk.byte (63 - k) (by omega)
        have zq := hblk.frozen (63 - k)
        have hbound := hblk.lt
        clear hD hz8
        go_wp2
        go_roundw
        case rel =>
          refine ⟨k + 1, upd F (63 - k) z, by omega, by go_num, hblk.setB (63 - k) z, hb.setCell (Nat.le_refl _) _, fun j hj => ?_⟩
          by_cases hjk : j = 63 - k
          · subst hjk; rw [upd_same, if_pos (by omega), Hz.out]
          · rw [upd_other _ _ _ _ hjk, HF.out j hj]
            by_cases h : 64 - k ≤ j ∧ j < 64
            · rw [if_pos h, if_pos (by omega)]
            · rw [if_neg h, if_neg (by omega)]
        case measure => simp [intOf]; omega
      · have Hf : Hid (u8s 128 F = u8s 128 (endB m n 64 L)) := Lib.hid (u8s_congr fun j hj => by
          rw [HF.out j hj]
          by_cases h : 64 - k ≤ j ∧ j < 64
          · rw [if_pos h]
          · rw [if_neg h]
            unfold endB
            by_cases h1 : j = n
            · subst h1; rw [upd_same, if_neg (by omega), if_pos rfl]
            · rw [upd_other _ _ _ _ h1]
              by_cases h2 : j < n
              · rw [if_pos h2, if_pos h2]
              · rw [if_neg h2, if_neg h2, if_neg h1]
                by_cases h3 : j < 64 - 8
                · rw [if_pos h3]
                · rw [if_neg h3, if_neg (by omega)])
        go_wp2_with (first
          | (refine wpList_load_row rfl 36 _ rfl w.heap.size rfl 36 (u8s 128 F) (0, 0) _ hblk Tryd.underlying36 rfl (by rw [u8s_size]; kernel_rfl) ?_)
          | (refine wpList_store_row rfl 36 _ _ rfl w.heap.size (u8s 128 F) rfl rfl 36 (u8s 128 F) hblk (by rw [u8s_size]; kernel_rfl) rfl (u8s_one 128 F) ?_; rw [setRow_self _ _ _ _ _ hblk]))
        exact bodyPost_ret (v := .tuple #[.agg (u8s 128 F), .int .i64 64]) (results_two rfl _ _ w.heap.size 36 (u8s 128 F) (0, 0) _ rfl hblk Tryd.underlying36 rfl (by rw [u8s_size]; kernel_rfl) rfl) rfl ⟨by rw [Hf.out], hb⟩
end Go.Proofs.YtjbagoedaelmnaaDoor
