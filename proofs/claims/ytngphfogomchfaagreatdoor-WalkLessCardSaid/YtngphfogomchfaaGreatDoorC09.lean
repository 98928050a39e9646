/-
  No two alike.
  A number's decimals; what an item is called in an error.
  checkTree: an error, if items are no tree.
-/
import Derived.RangeFuncBox
import Derived.RangeFuncLeaves
import Derived.Shelf.RegionOpen
import Derived.OwnWalkIn
import Derived.TacticsInMore
import Derived.LoopNIn
import Derived.LoopIn
import Derived.Maps.AppendAt
import Derived.Sort.OwnSorted
import Derived.Sort.KeysCollected
import Derived.Test.YtngphfogomchfaaGreatDoorC05
import Derived.Test.YtngphfogomchfaaGreatDoorLay
import Derived.Lib.ItoaMem
import Derived.Lib.ItoaNum
import Derived.Lib.LaidTab
import Derived.Lib.AppendIntMem
import Derived.Deep.RegionHeld3
import Derived.Deep.QuietTactic
import Derived.BigQuiet
import Derived.Test.YtngphfogomchfaaGreatDoorC06

namespace Go.Proofs.YtngphfogomchfaaGreatDoor
open Go Go.RowKit Go.Shelf Go.Maps Go.Sort
attribute [local go_sem] Oper.semAt_some
set_option maxRecDepth 100000 in
set_option maxHeartbeats 2000000 in
theorem values1_in (n : Nat) (hn : 1 ≤ n) (l Bs n₀ b off cap : Nat) (zs : List (List UInt8)) (hreach : zs.length * 16 ≤ 140737488351232) (hb : b < n₀) (J Jx : List (List UInt8) → World → Prop)
    (hY : ∀ pre x W, J pre W → pre.length < zs.length → YieldAt Fence.wide (n - 1) Tryz.prog l #[encStr x] W fun e W' =>
      (e = .returned (.bool true) ∧ J (pre ++ [x]) W' ∧ Below n₀ W W') ∨ (e = .returned (.bool false) ∧ Jx (pre ++ [x]) W'))
    (W : World) (hBs : W.cell? ⟨Bs, 0, none⟩ = some (.slice (some ⟨b, off, none⟩) zs.length cap)) (hc : ∀ j, j < zs.length → W.cell? ⟨b, off + j, none⟩ = some (encStr (zs.getD j []))) (h0 : J [] W) :
    CallsIn Fence.wide n Tryz.prog 193 #[.func (.yield l) #[] #[], .pointer (some ⟨Bs, 0, none⟩)] W fun e W' => (∃ v, e = .returned v) ∧
      ((∃ ys, ys = zs ∧ J ys W') ∨ (∃ pre, pre <+: zs ∧ Jx pre W')) := by
  refine callsIn_of_wp Tryz.func193 rfl trivial ?_ rfl
  simp only [Tryz.ntmps193, List.size_toArray, List.length_cons, List.length_nil, Nat.reduceAdd, Nat.reduceSub, Array.replicate_succ, Array.replicate_zero, List.push_toArray, List.append_toArray, List.nil_append, List.cons_append]
  gi_wp2
  gi_loopw [7] (fun i wr => ∃ k : Nat, k ≤ zs.length ∧ i = .int .i64 k ∧ J (zs.take k) wr ∧ Below n₀ W wr)
    (fun i _ => zs.length - (intOf i).toNat)
  case atStart => exact ⟨0, Nat.zero_le _, rfl, h0, Below.refl _ _⟩
  case round =>
    obtain ⟨k, hk, rfl, hJs, hnx⟩ := hrel
    have hcx : k < zs.length → wr.cell? ⟨b, off + k, none⟩ = some (encStr (zs.getD k [])) := fun h => (hnx.cell (p := ⟨b, off + k, none⟩) hb).trans (hc k h)
    by_cases hlt : k < zs.length
    · have hcx' := hcx hlt
      have h1 := take_getD zs [] k hlt
      generalize zs.getD k [] = x at hcx' h1
      have H1 := Lib.hid h1
      clear hcx h1
      obtain ⟨fn, tmps, assign, body, hy, hR⟩ := hY _ x wr hJs (by rw [List.length_take]; omega)
      gi_wp2
      refine hR.mono ?_
      rintro e W3 (⟨rfl, hJ3, hk3⟩ | ⟨rfl, hJx3⟩)
      · gi_wp2
        go_roundw
        case rel => exact ⟨k + 1, by omega, by simp, by rw [H1.out]; exact hJ3, hnx.trans hk3⟩
        case measure => simp [intOf]; omega
      · gi_wp2
        refine bodyPost_ret (results_none rfl _ _ _) rfl ?_
        exact ⟨⟨_, rfl⟩, .inr ⟨_, by rw [← H1.out]; exact List.take_prefix _ _, hJx3⟩⟩
    · obtain rfl : k = zs.length := by omega
      gi_wp2
      go_end0
      exact ⟨⟨_, rfl⟩, .inl ⟨_, List.take_length, hJs⟩⟩
set_option maxRecDepth 100000 in
set_option maxHeartbeats 1000000 in
theorem values1_nil (n : Nat) (l Bs : Nat) (A : Option Addr) (cap : Nat) (J : List (List UInt8) → World → Prop) (W : World) (hBs : W.cell? ⟨Bs, 0, none⟩ = some (.slice A 0 cap)) (h0 : J [] W) :
    CallsIn Fence.wide n Tryz.prog 193 #[.func (.yield l) #[] #[], .pointer (some ⟨Bs, 0, none⟩)] W fun e W' => (∃ v, e = .returned v) ∧ J [] W' := by
  refine callsIn_of_wp Tryz.func193 rfl trivial ?_ rfl
  simp only [Tryz.ntmps193, List.size_toArray, List.length_cons, List.length_nil, Nat.reduceAdd, Nat.reduceSub, Array.replicate_succ, Array.replicate_zero, List.push_toArray, List.append_toArray, List.nil_append, List.cons_append]
  gi_wp2
  gi_loopw [7] (fun i wr => i = .int .i64 0 ∧ J [] wr) (fun _ _ => 0)
  case atStart => exact ⟨rfl, h0⟩
  case round =>
    obtain ⟨rfl, hJs⟩ := hrel
    gi_wp2
    go_end0
    exact ⟨⟨_, rfl⟩, hJs⟩
theorem values_any (A : Option Addr) (len cap : Nat) (w : World) :
    Calls Tryz.prog 178 #[.slice A len cap] w fun e w' => e = .returned (.func (.func 193) #[] #[.pointer (some ⟨w.heap.size, 0, none⟩)]) ∧ w.alloc (.cells #[.slice A len cap] 23) = w' := by
  go_enter Tryz.func178, Tryz.ntmps178
  go_wp2
  go_ret
  exact ⟨rfl, rfl⟩
theorem values_stops (n : Nat) (hn : 1 ≤ n) (Bs n₀ : Nat) (sv : Value) (zs : List (List UInt8)) (hreach : zs.length * 16 ≤ 140737488351232) (w : World) (hBs : Bs < w.heap.size)
    (hc : w.cell? ⟨Bs, 0, none⟩ = some sv) (hI : StrsR w sv zs) (hlt : ∀ b off c, sv = .slice (some ⟨b, off, none⟩) zs.length c → zs ≠ [] → b < n₀) :
    SeqStopsK Fence.wide n Tryz.prog 193 #[.pointer (some ⟨Bs, 0, none⟩)] (fun x : List UInt8 => #[encStr x]) (Below n₀) (fun ys => ys = zs) (fun pre => pre <+: zs) zs.length w := fun l J Jx W hW _ _ hY h0 => by
  have hc' := (hW.cell (p := ⟨Bs, 0, none⟩) hBs).trans hc
  by_cases hz : zs = []
  · subst hz
    obtain ⟨A, c, rfl⟩ := hI.shape
    exact (values1_nil n l Bs A c J W hc' h0).mono fun e W' ⟨he, hj⟩ => ⟨he, .inl ⟨_, rfl, hj⟩⟩
  · obtain ⟨g, o, c, rfl, _, _⟩ := hI.pos (List.length_pos_iff.2 hz)
    have hg := hlt g o c rfl hz
    exact values1_in n hn l Bs n₀ g o c zs hreach hg J Jx hY W hc' (fun j hj => (hW.cell (p := ⟨g, o + j, none⟩) (by show g < _; omega)).trans (StrsR.cell hI j hj)) h0
theorem infoStr : (Tryz.prog.info? 9).map (fun i => (i.zero, i.size, i.bytes)) = some (some (.string ⟨#[]⟩), 1, 16) := by kernel_rfl
set_option maxRecDepth 100000 in
set_option maxHeartbeats 2000000 in
theorem appendSeq_any (n : Nat) (hn : 3 ≤ n) (Bs n₀ : Nat) (sv : Value) (zs : List (List UInt8)) (hlen : zs.length ≤ 1000000) (w : World) (hBs : Bs < w.heap.size) (hn₀ : n₀ ≤ w.heap.size)
    (hc : w.cell? ⟨Bs, 0, none⟩ = some sv) (hI : StrsR w sv zs) (hlt : ∀ b off c, sv = .slice (some ⟨b, off, none⟩) zs.length c → zs ≠ [] → b < n₀) :
    CallsIn Fence.wide n Tryz.prog 199 #[.slice none 0 0, .func (.func 193) #[] #[.pointer (some ⟨Bs, 0, none⟩)]] w fun e W' => ∃ v, e = .returned v ∧ W'.ownsRow w.heap.size 9 1 v zs.length (zs.map encStr) ∧ Below w.heap.size w W' := by
  have h1 : 1 ≤ n := by omega
  obtain ⟨i0, hi, hz0, hz1, hz2⟩ := info_parts infoStr
  refine callsIn_of_wp_marks Tryz.func199 rfl trivial ?_ rfl
  simp only [Tryz.ntmps199, List.size_toArray, List.length_cons, List.length_nil, Nat.reduceAdd, Nat.reduceSub, Array.replicate_succ, Array.replicate_zero, List.push_toArray, List.append_toArray, List.nil_append, List.cons_append]
  gi_wp2
  have bO := Boxed.new w 23 (.slice none 0 0)
  have hB0 : Below w.heap.size w (w.alloc (.cells #[.slice none 0 0] 23)) := (Below.refl _ w).alloc (Nat.le_refl _) _
  refine wpIn_rangeFunc_ownG (F := Fence.wide) rfl h1 (gf := 193) (lb := #[.pointer (some ⟨Bs, 0, none⟩)]) rfl trivial (enters_of Tryz.func193 (by kernel_rfl) rfl)
    (values_stops (n - 1) (by omega) Bs w.heap.size sv zs (by omega) (w.alloc (.cells #[.slice none 0 0] 23)) (by simp; omega) ((hB0.cell (p := ⟨Bs, 0, none⟩) hBs).trans hc) (hI.below hB0 (Nat.le_refl _)) (fun b off c e hz => Nat.lt_of_lt_of_le (hlt b off c e hz) hn₀)) belowK_t (belowK_b (by simp)) (Below.refl _ _) (fun _ => rfl)
    (fun (pre : List (List UInt8)) W => (∃ v, Boxed W w.heap.size 23 v ∧ W.ownsRow w.heap.size 9 1 v pre.length (pre.map encStr) ∧ True) ∧ Below w.heap.size w W)
    (fun _ _ _ => False)
    (OwnFrom.and (Own.from (holdsRow_own w.heap.size w.heap.size 23 9 1 (fun pre : List (List UInt8) => pre.length) (fun pre => pre.map encStr) (fun _ _ => True)) _) (ownFrom_below (Nat.le_refl _) (by simp)))
    (fun _ _ _ _ _ hs _ _ => hs)
    ⟨⟨_, bO, World.ownsRow_nil _ _ _ _, trivial⟩, hB0⟩
    (fun x => { tmps := #[.slice none 0 0, .func (.func 193) #[] #[.pointer (some ⟨Bs, 0, none⟩)], .pointer (some ⟨w.heap.size, 0, none⟩), undef, .slice none 0 0, encStr x, .func (.func 193) #[] #[.pointer (some ⟨Bs, 0, none⟩)], encStr x, undef, undef, undef, undef, undef], defers := [] }) ?assign ?body ?done ?stop
  case assign =>
    intro l x W K hK
    gi_wp2
    exact hK
  case body =>
    rintro l pre x W ⟨⟨v, hv, hrow, -⟩, hB⟩ hlt
    have hc := hv.cell
    gi_wp2_with (gi_at_builtin; refine wpListIn_append_own _ rfl _ _ 23 rfl w.heap.size 9 i0 (.string ⟨#[]⟩) 1 16 Tryz.underlying23 hi hz0 hz1 hz2 rfl (by decide) _ _ _ rfl (hrow.alloc _) ⟨W.heap.size, 0, none⟩ 1 1 [encStr x] rfl rfl (cell_one_new _ _ _) (by simp [Value.oneCell']) (by unfold maxLen; omega) (by omega) (by have := hB.size; simp; omega) ?_; intro v' w1 hown' hgrow _; obtain ⟨g', cap', rfl⟩ := ownsRow_succ hown'; obtain ⟨hv1, hv2, hr2, hk2, hb2⟩ := hv.appended (by decide) hrow hB.size (Nat.le_refl _) hown' hgrow; have hc1 := hv1.cell; have hf1 := hv1.frozen)
    exact ⟨hk2.from _, hb2, ⟨_, hv2, by simpa using hr2, trivial⟩, hB.trans hb2⟩
  case done =>
    rintro D ys W hD rfl ⟨⟨v, hv, hrow, -⟩, hB⟩ hK
    have hc := hv.cell
    gi_wp2
    refine ⟨by simp, .inl ⟨_, _, rfl, run_takeDeferred hK, ?_⟩⟩
    exact ⟨_, results_tmp rfl _ _ _, v, rfl, ownsRow_putObj hrow _ hK rfl, hB.trans (belowK_b (w := w) (Nat.le_refl _) W D _ _ (by simp at hD; omega) hK rfl rfl)⟩
  case stop =>
    rintro D c pre W _ _ h _
    exact h.elim
end Go.Proofs.YtngphfogomchfaaGreatDoor
namespace Go.Proofs.YtngphfogomchfaaGreatDoor
open Go Go.RowKit Go.Shelf Go.Maps Go.Sort
theorem sorted_leB (l : List (List UInt8)) : (l.mergeSort leB).Pairwise fun a b => a ≤ b := by
  have tr : ∀ a b c : List UInt8, leB a b = true → leB b c = true → leB a c = true := fun a b c h1 h2 => by simp only [leB, decide_eq_true_eq] at *; exact List.le_trans h1 h2
  have to : ∀ a b : List UInt8, (leB a b || leB b a) = true := fun a b => by simp only [leB, Bool.or_eq_true, decide_eq_true_eq]; exact List.le_total a b
  exact (List.pairwise_mergeSort tr to l).imp fun h => by simpa [leB] using h
theorem nodup_of_adj : ∀ {l : List (List UInt8)}, l.Pairwise (fun a b => a ≤ b) → (∀ j, j + 1 < l.length → l[j]? ≠ l[j + 1]?) → l.Nodup
  | [], _, _ => List.nodup_nil
  | [a], _, _ => by simp
  | a :: b :: t, hp, h => by
    have hp2 := List.pairwise_cons.1 hp
    have ih := nodup_of_adj hp2.2 fun j hj => by have := h (j + 1) (by simpa using hj); simpa using this
    refine List.nodup_cons.2 ⟨fun hm => ?_, ih⟩
    have hab : a ≠ b := fun e => h 0 (by simp) (by simp [e])
    rcases List.mem_cons.1 hm with e | hm'
    · exact hab e
    · have h1 := hp2.1 b (by simp)
      have h2 := (List.pairwise_cons.1 hp2.2).1 a hm'
      exact hab (List.le_antisymm h1 h2)
theorem filter_full {α : Type} (p : α → Bool) (l : List α) (h : (l.filter p).length = l.length) : ∀ x ∈ l, p x = true := by
  have := List.length_filter_eq_length_iff.1 h
  exact this
theorem compact_len (l : List (List UInt8)) : (Lib.compact (l.mergeSort leB)).length = l.length ↔ l.Nodup := by
  have hl : (l.mergeSort leB).length = l.length := List.length_mergeSort l
  have hk : ∀ j, j < l.length → (Lib.keeps (l.mergeSort leB).toArray j = true ↔ (j = 0 ∨ (l.mergeSort leB)[j]? ≠ (l.mergeSort leB)[j - 1]?)) := fun j hj => by
    unfold Lib.keeps
    rw [decide_eq_true_iff]
    have e1 : (l.mergeSort leB).toArray[j]! = (l.mergeSort leB)[j]'(by omega) := by rw [getElem!_pos _ _ (by simp; omega)]; simp
    have e2 : (l.mergeSort leB).toArray[j - 1]! = (l.mergeSort leB)[j - 1]'(by omega) := by rw [getElem!_pos _ _ (by simp; omega)]; simp
    rw [e1, e2, List.getElem?_eq_getElem (by omega), List.getElem?_eq_getElem (by omega)]
    simp
  unfold Lib.compact Lib.compactUpTo
  rw [List.length_map, hl]
  constructor
  · intro h
    have hall := filter_full _ _ (h.trans (List.length_range).symm)
    have hn : (l.mergeSort leB).Nodup := nodup_of_adj (sorted_leB l) fun j hj e => by
      have h1 := (hk (j + 1) (by omega)).1 (hall (j + 1) (by simp; omega))
      rcases h1 with h1 | h1
      · omega
      · exact h1 (by rw [Nat.add_sub_cancel]; exact e.symm)
    exact (List.mergeSort_perm l leB).nodup_iff.1 hn
  · intro h
    have hn : (l.mergeSort leB).Nodup := (List.mergeSort_perm l leB).nodup_iff.2 h
    rw [List.filter_eq_self.2, List.length_range]
    intro j hj
    have hj' : j < l.length := by simpa using hj
    refine (hk j hj').2 ?_
    by_cases h0 : j = 0
    · exact .inl h0
    · refine .inr fun e => ?_
      rw [List.getElem?_eq_getElem (by omega), List.getElem?_eq_getElem (by omega)] at e
      have := (List.getElem_inj hn).1 (Option.some.inj e)
      omega
theorem collect_any (Bs n₀ : Nat) (sv : Value) (zs : List (List UInt8)) (hlen : zs.length ≤ 1000000) (w : World) (hBs : Bs < w.heap.size) (hn₀ : n₀ ≤ w.heap.size)
    (hc : w.cell? ⟨Bs, 0, none⟩ = some sv) (hI : StrsR w sv zs) (hlt : ∀ b off c, sv = .slice (some ⟨b, off, none⟩) zs.length c → zs ≠ [] → b < n₀) :
    Calls Tryz.prog 192 #[.func (.func 193) #[] #[.pointer (some ⟨Bs, 0, none⟩)]] w fun e W' => ∃ v, e = .returned v ∧ W'.ownsRow w.heap.size 9 1 v zs.length (zs.map encStr) ∧ Below w.heap.size w W' := by
  have H := Lib.hid ((callsIn_wide (n := 5)).1 (appendSeq_any 5 (by omega) Bs n₀ sv zs hlen w hBs hn₀ hc hI hlt))
  clear hc hI hlt
  go_enter Tryz.func192, Tryz.ntmps192
  go_wp2_with fail
  refine H.out.mono ?_
  rintro e w1 ⟨v, rfl, h1, h2⟩
  go_wp2
  go_ret
  exact ⟨v, rfl, h1, h2⟩
set_option maxHeartbeats 1000000 in
theorem sorted_any (Bs n₀ : Nat) (sv : Value) (zs : List (List UInt8)) (hlen : zs.length ≤ 1000000) (w : World) (hBs : Bs < w.heap.size) (hn₀ : n₀ ≤ w.heap.size)
    (hc : w.cell? ⟨Bs, 0, none⟩ = some sv) (hI : StrsR w sv zs) (hlt : ∀ b off c, sv = .slice (some ⟨b, off, none⟩) zs.length c → zs ≠ [] → b < n₀) :
    Calls Tryz.prog 177 #[.func (.func 193) #[] #[.pointer (some ⟨Bs, 0, none⟩)]] w fun e W' => ∃ v, e = .returned v ∧ W'.ownsRow w.heap.size 9 1 v zs.length ((zs.mergeSort leB).map encStr) ∧ Below w.heap.size w W' := by
  have H := Lib.hid (collect_any Bs n₀ sv zs hlen w hBs hn₀ hc hI hlt)
  clear hc hI hlt
  go_enter Tryz.func177, Tryz.ntmps177
  go_wp2_with fail
  refine H.out.mono ?_
  rintro e w1 ⟨v, rfl, h1, h2⟩
  have h1' := h1
  obtain ⟨h0, ⟨rfl, hz⟩ | ⟨gb, cap, cur, rfl, hbase, hgb, r1, r2, r3, r4⟩⟩ := h1
  · have hss : zs = [] := List.eq_nil_of_length_eq_zero hz
    subst hss
    have HS := Lib.hid (AnyM.slices_Sort_string_none Tryz.sortA none 0 w1)
    have H1 := Lib.hid h1'
    clear h0 h1'
    go_wp2_with fail
    refine HS.out.mono ?_
    rintro e w2 ⟨rfl, rfl⟩
    go_wp2
    go_ret
    exact ⟨_, rfl, by simpa using H1.out, h2⟩
  · have hH : Holds encStr w1 gb 0 zs.toArray := holds_of_block hgb (by simpa using r4)
    have HS := Lib.hid (AnyM.slices_Sort_string Tryz.sortA gb 0 cap zs w1 hH (lt_heap hgb) (by omega))
    have Hg := Lib.hid hgb; have H3 := Lib.hid r3; have H2 := Lib.hid h2
    clear hH h0 h1' hgb r3 r4 h2
    go_wp2_with fail
    refine HS.out.mono ?_
    rintro e w2 ⟨rfl, k, os, rfl⟩
    go_wp2
    go_ret
    refine ⟨_, rfl, ?_, ?_⟩
    · exact ownsRow_sorted (by simp) hbase Hg.out r1 r2 H3.out
    · exact H2.out.grown (grownBy_sorted _) H2.out.size (fun j hj => by cases hj; exact hbase)
theorem grownBy_putRow {w : World} {g n : Nat} (d : Array (List UInt8)) : w.grownBy (putRow encStr (Sort.ahead w n) g 0 d) (some g) := by
  refine ⟨rfl, rfl, rfl, by simp [putRow, mapBlock, Sort.ahead], fun k hk hne => ?_⟩
  have : g ≠ k := fun e => hne (by rw [e])
  simp [putRow, mapBlock, Sort.ahead, Array.getElem?_modify, this]
/-- What Compact comes to behind it. -/
theorem compactOf (base : Nat) (v : Value) (zs : List (List UInt8)) (hlen : zs.length ≤ 1000000) (w : World) (hrow : w.ownsRow base 9 1 v zs.length (zs.map encStr)) :
    Calls Tryz.prog 176 #[v] w fun e w' => (∃ A c, e = .returned (.slice A (Lib.compact zs).length c)) ∧ Below base w w' := by
  obtain ⟨h0, ⟨rfl, hz⟩ | ⟨gb, cap, cur, rfl, hbase, hgb, r1, r2, r3, r4⟩⟩ := hrow
  · have hss : zs = [] := List.eq_nil_of_length_eq_zero hz
    subst hss
    refine (Any.slices_Compact_string_empty Tryz.compA none 0 w).mono ?_
    rintro e w' ⟨rfl, rfl⟩
    exact ⟨⟨_, _, rfl⟩, Below.refl _ _⟩
  · have hH : Holds encStr w gb 0 zs.toArray := holds_of_block hgb (by simpa using r4)
    refine (Any.slices_Compact_string Tryz.compA gb 0 cap zs w hH (by omega) r1).mono ?_
    rintro e w' ⟨rfl, q, rfl⟩
    refine ⟨⟨_, _, rfl⟩, ?_⟩
    have hg := grownBy_putRow (w := w) (g := gb) (n := q) (Lib.compact zs ++ List.replicate (zs.length - (Lib.compact zs).length) []).toArray
    exact ⟨hg.os, hg.tape, hg.output, hg.size, fun k hk => by
      refine hg.block k ?_ ?_
      · have := lt_heap hgb; omega
      · intro e; cases e; omega⟩
theorem onceHyp {w : World} {v : Value} {zs : List (List UInt8)} (hr : StrsR w v zs) : ∀ b off c, v = .slice (some ⟨b, off, none⟩) zs.length c → zs ≠ [] → b < w.heap.size := fun b off c e hz => by
  obtain ⟨g, o, c', e', _, hg⟩ := hr.pos (List.length_pos_iff.2 hz)
  rw [e] at e'; cases e'; exact hg
set_option maxRecDepth 100000 in
set_option maxHeartbeats 1000000 in
theorem checkOnce_of (zs : List (List UInt8)) (hl : zs.length ≤ 1000000) (A : Option Addr) (c : Nat) (w : World) (hr : StrsR w (.slice A zs.length c) zs) (he : Er w) (b : Bool) (hb : decide (((Lib.compact (zs.mergeSort leB)).length : Int) = (zs.length : Int)) = b) (Q : Ending → World → Prop)
    (hN : ∀ W, Below w.heap.size w W → ∀ pe, W.cell? ⟨1, 0, none⟩ = some (.iface 266 pe) → Calls Tryz.prog 95 #[.bool b, .string ⟨#[116, 119, 111]⟩, .iface 266 pe] W fun e W' => (∃ v, e = .returned v ∧ Q (.returned v) W')) :
    Calls Tryz.prog 157 #[.slice A zs.length c] w Q := by
  have HV := Lib.hid (values_any A zs.length c w)
  have hb1 := below_new w (.cells #[.slice A zs.length c] 23)
  have HS := Lib.hid (sorted_any w.heap.size w.heap.size (.slice A zs.length c) zs hl (w.alloc (.cells #[.slice A zs.length c] 23)) (by simp) (by simp) (by simp) (hr.below hb1 (Nat.le_refl _)) (onceHyp hr))
  have HR := Lib.hid hr; have HE := Lib.hid he; have HN := Lib.hid hN
  obtain ⟨m, hm⟩ : ∃ m, m = (Lib.compact (zs.mergeSort leB)).length := ⟨_, rfl⟩
  rw [← hm] at hb
  have hbi : ((m : Int) == (zs.length : Int)) = b := by rw [← hb]; rfl
  have Hm := Lib.hid hm
  clear hr he hN hm hb
  go_enter Tryz.func157, Tryz.ntmps157
  go_wp2_with fail
  refine HV.out.mono ?_
  rintro e w1 ⟨rfl, rfl⟩
  go_wp2_with fail
  refine HS.out.mono ?_
  rintro e w2 ⟨v, rfl, h1, h2⟩
  have l2 : Below w.heap.size w w2 := hb1.trans (h2.mono hb1.size)
  have hlen : (zs.mergeSort leB).length = zs.length := List.length_mergeSort zs
  have HC := Lib.hid (compactOf (w.alloc (.cells #[.slice A zs.length c] 23)).heap.size v (zs.mergeSort leB) (by omega) w2 (by rw [hlen]; exact h1))
  rw [← Hm.out] at HC
  clear h1 h2 hlen hb1
  go_wp2_with fail
  refine HC.out.mono ?_
  rintro e w3 ⟨⟨A3, c3, rfl⟩, h3⟩
  have l3 : Below w.heap.size w w3 := l2.trans (h3.mono (by simp))
  obtain ⟨a, ce⟩ := (HE.out.below l3).wrong
  have HN3 := Lib.hid (HN.out w3 l3 _ ce)
  clear h3
  go_wp2_with fail
  refine HN3.out.mono ?_
  rintro e w4 ⟨v4, rfl, h4⟩
  go_wp2
  exact h4
theorem checkOnce_yes (zs : List (List UInt8)) (hl : zs.length ≤ 1000000) (v : Value) (w : World) (hr : StrsR w v zs) (he : Er w) (h : zs.Nodup) : Calls Tryz.prog 157 #[v] w (RetBelow .nilIface w) := by
  obtain ⟨A, c, rfl⟩ := hr.shape
  refine checkOnce_of zs hl A c w hr he true (decide_eq_true (by rw [(compact_len zs).2 h])) _ fun W hW pe _ => ?_
  refine (need_yes _ _ W).mono ?_
  rintro e w' ⟨rfl, rfl⟩
  exact ⟨_, rfl, rfl, hW⟩
theorem checkOnce_no (zs : List (List UInt8)) (hl : zs.length ≤ 1000000) (v : Value) (w : World) (hr : StrsR w v zs) (he : Er w) (h : ¬ zs.Nodup) : Calls Tryz.prog 157 #[v] w (FailB w) := by
  obtain ⟨A, c, rfl⟩ := hr.shape
  refine checkOnce_of zs hl A c w hr he false (decide_eq_false (fun e => h ((compact_len zs).1 (by omega)))) _ fun W hW pe _ => ?_
  refine (need_no _ _ _ W).mono ?_
  rintro e w' ⟨rfl, rfl⟩
  exact ⟨_, rfl, _, rfl, hW.trans ((below_new W _).mono hW.size)⟩
end Go.Proofs.YtngphfogomchfaaGreatDoor


namespace Go.Proofs.YtngphfogomchfaaGreatDoor
open Go Go.RowKit
/-- The table of the powers of ten. -/
def Tb (w : World) : Prop := Lib.TabIs Tryz.prog w "internal/strconv.uint64pow10" .u64 Lib.pow10Tab
theorem Tb.below {w w' : World} (h : Tb w) (hb : Below w.heap.size w w') : Tb w' := by
  have hg : Tryz.prog.globalNamed "internal/strconv.uint64pow10" = some 6 := by kernel_rfl
  have hlt : 6 < w.heap.size := World.block_lt_of_cell? w _ (Lib.TabIs.cell h hg 0 (by rw [Lib.pow10Tab_length]; decide))
  unfold Tb Lib.TabIs World.var? at h ⊢
  rw [hg] at h ⊢
  simp only [Option.bind_some] at h ⊢
  rw [hb.block _ hlt]
  exact h
theorem dd_lo {u : Nat} (h : u < 10) : Lib.decDigits u = [UInt8.ofNat (48 + u)] := by rw [Lib.decDigits, dif_pos h]
theorem dd_hi {u : Nat} (h : 10 ≤ u) : Lib.decDigits u = Lib.decDigits (u / 10) ++ [UInt8.ofNat (48 + u % 10)] := by rw [Lib.decDigits, dif_neg (by omega)]
theorem nd_len : ∀ (k u : Nat), u < 10 ^ (k + 1) → Lib.nDigits u ≤ k + 1
  | k, u, h => by
    by_cases hu : u < 10
    · rw [Lib.nDigits_small hu]; omega
    · rw [Lib.nDigits_big hu]
      cases k with
      | zero => rw [Nat.pow_one] at h; omega
      | succ k =>
        rw [Nat.pow_succ] at h
        have := nd_len k (u / 10) (by omega)
        omega
theorem dd_zero : Lib.decDigits 0 = [48] := by rw [dd_lo (by omega)]; rfl
theorem byte_of {n : Nat} (h : n < 256) : ((UInt8.ofNat n).toNat : Int) = (n : Int) := by rw [UInt8.toNat_ofNat']; omega
/-- A number's decimals; nothing below 0. -/
def textL (n : Int) : List UInt8 := if n < 0 then [] else Lib.decDigits n.toNat
theorem textL_nat (n : Nat) : textL (n : Int) = Lib.decDigits n := by unfold textL; rw [if_neg (by omega), Int.toNat_natCast]
theorem textL_len {n : Int} (h : n ≤ 9223372036854775807) : (textL n).length ≤ 20 := by
  unfold textL
  by_cases h0 : n < 0
  · rw [if_pos h0]; simp
  · rw [if_neg h0, Lib.decDigits_length]
    exact nd_len 19 n.toNat (by omega)
set_option maxHeartbeats 400000 in
theorem Text_any (n : Int) (h0 : -9223372036854775808 ≤ n) (h1 : n ≤ 9223372036854775807) (w : World) (hp : Tb w) :
    Calls Tryz.prog 88 #[.int .i64 n] w fun e w' => e = .returned (SV (textL n)) ∧ Below w.heap.size w w' := by
  have HI := Lib.hid (Any.strconv_Itoa Tryz.itoaA n h0 h1 w hp)
  clear hp
  by_cases h : n < 0
  · rw [show textL n = [] from if_pos h]
    unfold SV
    clear HI
    go_enter Tryz.func88, Tryz.ntmps88
    go_wp2
    go_ret
    exact ⟨rfl, Below.refl _ _⟩
  · have HT : Hid (Lib.itoa n = textL n) := Lib.hid (by unfold textL Lib.itoa; rw [if_neg h, if_neg h])
    rw [HT.out] at HI
    generalize textL n = t at HI ⊢
    clear HT
    unfold SV
    go_enter Tryz.func88, Tryz.ntmps88
    go_wp2_with fail
    refine HI.out.mono ?_
    rintro e w' ⟨rfl, k, os, rfl⟩
    go_wp2
    go_ret
    exact ⟨rfl, Lib.below_grow _ _ (Nat.le_refl _) _ _⟩
set_option maxHeartbeats 400000 in
theorem item_any (n : Nat) (h1 : n ≤ 1000000) (w : World) (hp : Tb w) :
    Calls Tryz.prog 138 #[.int .i64 (n : Int)] w fun e w' => (∃ s, e = .returned (.string s)) ∧ Below w.heap.size w w' := by
  have HT := Lib.hid (Text_any n (by omega) (by omega) w hp)
  have hl := textL_len (n := (n : Int)) (by omega)
  generalize textL (n : Int) = t at HT hl
  unfold SV at HT
  clear hp
  go_enter Tryz.func138, Tryz.ntmps138
  go_wp2_with fail
  refine HT.out.mono ?_
  rintro e w' ⟨rfl, l⟩
  go_wp2
  go_ret
  exact ⟨⟨_, rfl⟩, l⟩
end Go.Proofs.YtngphfogomchfaaGreatDoor


namespace Go.Proofs.YtngphfogomchfaaGreatDoor
open Go Go.RowKit Go.Shelf
theorem less_before : ∀ (a b : List UInt8), Op.bytesLess a b = bytesBefore a b
  | [], [] => rfl
  | [], _ :: _ => rfl
  | _ :: _, [] => rfl
  | x :: a, y :: b => by rw [Op.bytesLess, bytesBefore, less_before a b]
theorem goodI_of {l : List Itm} {k : Nat} {x p : Itm} (hx : x = l.getD k noItm) (hp : p = l.getD (k - 1) noItm) : goodI l k = (itemB x && (k == 0 || bytesBefore (keyL p) (keyL x))) := by
  rw [hx, hp]; rfl
/-- Lengths that may be. -/
def Smalls (l : List Itm) : Prop := ∀ x ∈ l, x.name.length ≤ 1000000 ∧ x.id.length ≤ 1000000
theorem Smalls.get {l : List Itm} (h : Smalls l) {k : Nat} (hk : k < l.length) {x : Itm} (hx : x = l.getD k noItm) : x.name.length ≤ 1000000 ∧ x.id.length ≤ 1000000 := by
  rw [hx]; exact h _ (getD_mem l noItm k hk)
theorem names_snoc (l : List Itm) (k : Nat) (hk : k < l.length) : (l.take (k + 1)).map Itm.name = (l.take k).map Itm.name ++ [(l.getD k noItm).name] := by
  rw [take_getD l noItm k hk, List.map_append]; rfl
theorem add_none' (g o j : Nat) : (⟨g, o, none⟩ : Addr).add j = ⟨g, o + j, none⟩ := by unfold Addr.add; split <;> simp_all
/-- What is known of an element's type. -/
structure ElK {α : Type} (st t : TypeId) (k bt : Nat) (f : α → List Value) : Prop where
  ut : Tryz.prog.underlying st = some (.slice t)
  info : ∃ z, (Tryz.prog.info? t).map (fun i => (i.zero, i.size, i.bytes)) = some (some z, k, bt) ∧ z.cells.size = k
  pos : 0 < k
  len : ∀ x, (f x).length = k
  one : ∀ x, ∀ u ∈ f x, u.oneCell' = true
theorem strK : ElK 23 9 1 16 strC := ⟨Tryz.underlying23, ⟨_, infoStr, rfl⟩, by decide, strC_len, fun x u hu => by
  simp only [strC, List.mem_singleton] at hu; subst hu; rfl⟩
theorem itmK : ElK 60 59 3 40 itmC := ⟨Tryz.underlying60, ⟨.agg #[.int .i64 0, .string ⟨#[]⟩, .string ⟨#[]⟩], by kernel_rfl, by kernel_rfl⟩, by decide, itmC_len, fun x u hu => by
  simp only [itmC, List.mem_cons, List.not_mem_nil, or_false] at hu; rcases hu with rfl | rfl | rfl <;> rfl⟩
theorem wantK : ElK 44 47 2 24 wantV := ⟨Tryz.underlying44, ⟨.agg #[.string ⟨#[]⟩, .int .i64 0], by kernel_rfl, by kernel_rfl⟩, by decide, wantV_len, fun x u hu => by
  simp only [wantV, List.mem_cons, List.not_mem_nil, or_false] at hu; rcases hu with rfl | rfl <;> rfl⟩
/-- One element more. -/
theorem run_one {α : Type} {st t : TypeId} {k bt : Nat} {f : α → List Value} (E : ElK st t k bt f) {w : World} {base : Nat} {v : Value} {l : List α} (h : OwK t k f w base v l) (hl : l.length + 1 ≤ 1000000) (hbt : bt ≤ 1000) (hb : base ≤ w.heap.size) (x : α) (cs : Array Value) (hcs : cs = (f x).toArray) (ty : TypeId) :
    ∃ v' w', (Builtin.append_ #[st, st] ty #[v, .slice (some ⟨w.heap.size, 0, none⟩) 1 1]).run Tryz.prog (w.alloc (.cells cs t)) = .ok v' w' ∧ OwK t k f w' base v' (l ++ [x]) ∧ Below base w w' := by
  obtain ⟨z, hz, hzs⟩ := E.info
  obtain ⟨i0, hi, hz0, hz1, hz2⟩ := info_parts hz
  subst hcs
  have ha : OwK t k f (w.alloc (.cells (f x).toArray t)) base v l := h.below (below_new w _) (Nat.le_refl _)
  obtain ⟨v', w', h1, h2, h3, _⟩ := run_append_own (P := Tryz.prog) _ base st ty t i0 z k bt E.ut hi hz0 hz1 hz2 hzs (by have := E.pos; omega) v l.length (l.flatMap f) ha ⟨w.heap.size, 0, none⟩ 1 1 (f x) (by rw [E.len, Nat.one_mul]) (fun j u hj => by
    rw [add_none', Nat.zero_add, cell_of_row (w.alloc _) w.heap.size j _ _ _ (heap_alloc_new w _)]
    simpa using hj) (E.one x) (by unfold maxLen; omega) (by
      have : (l.length + 1) * bt ≤ 1000000 * 1000 := Nat.mul_le_mul hl hbt
      omega) (by simp; omega)
  refine ⟨v', w', h1, ?_, ?_⟩
  · unfold OwK; rw [List.length_append, List.flatMap_append]; simpa using h2
  · refine ((below_new w _).mono hb).trans ⟨h3.os, h3.tape, h3.output, by have := h3.size; simpa using this, fun j hj => h3.block j (by simp; omega) ?_⟩
    intro e
    have := (h.lt j e.symm).1
    omega
/-- The operation. -/
theorem wpList_one {α : Type} {st t : TypeId} {k bt : Nat} {f : α → List Value} (E : ElK st t k bt f) {ops : Array Oper} {rest : List Oper} {o : Oper} {a : Act} {w : World} {Q : Exit → Act → World → Prop} (hgd : o.guard = none) (s y : Operand)
    (ho : o.op = .call { callee := .builtin .append, args := #[s, y], argTypes := #[st, st] }) (base : Nat) (v : Value) (l : List α) (x : α) (cs : Array Value) (hcs : cs = (f x).toArray) (hs : a.eval s = v) (hy : a.eval y = .slice (some ⟨w.heap.size, 0, none⟩) 1 1)
    (h : OwK t k f w base v l) (hl : l.length + 1 ≤ 1000000) (hbt : bt ≤ 1000) (hb : base ≤ w.heap.size)
    (kk : ∀ v' w', OwK t k f w' base v' (l ++ [x]) → Below base w w' → wpList Tryz.prog ops Q rest (a.put o.dst v') w') : wpList Tryz.prog ops Q (o :: rest) a (w.alloc (.cells cs t)) := by
  refine wpList_plain hgd fun K hK => ?_
  obtain ⟨v', w', h1, h2, h3⟩ := run_one E h hl hbt hb x cs hcs o.type
  unfold Oper.wp
  simp [execOp, ho, resolve, invoke, builtin, hs, hy, h1, Result.andThen]
  exact hK _ _ (kk v' w' h2 h3)
end Go.Proofs.YtngphfogomchfaaGreatDoor
