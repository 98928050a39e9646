/-
  No two alike.
-/
import Derived.Test.YtdkkeaaepebafaaGreatDoorCheck
import Derived.Test.YtdkkeaaepebafaaGreatDoorLay
import Derived.RangeFuncBox
import Derived.RangeFuncLeaves
import Derived.Shelf.RegionOpen
import Derived.OwnWalkIn
import Derived.TacticsInMore
import Derived.LoopNIn
import Derived.LoopIn
import Derived.Maps.AppendAt
import Derived.Sort.OwnSorted
import Derived.Sort.KeysCollected

namespace Go.Proofs.YtdkkeaaepebafaaGreatDoor
open Go Go.RowKit Go.Shelf Go.Maps Go.Sort

attribute [local go_sem] Oper.semAt_some

set_option maxRecDepth 100000 in
set_option maxHeartbeats 2000000 in
theorem values1_in (n : Nat) (hn : 1 ≤ n) (l Bs n₀ b off cap : Nat) (zs : List (List UInt8)) (hreach : zs.length * 16 ≤ 140737488351232) (hb : b < n₀) (J Jx : List (List UInt8) → World → Prop)
    (hY : ∀ pre x W, J pre W → pre.length < zs.length → YieldAt Fence.wide (n - 1) Tryz.prog l #[encStr x] W fun e W' =>
      (e = .returned (.bool true) ∧ J (pre ++ [x]) W' ∧ Below n₀ W W') ∨ (e = .returned (.bool false) ∧ Jx (pre ++ [x]) W'))
    (W : World) (hBs : W.cell? ⟨Bs, 0, none⟩ = some (.slice (some ⟨b, off, none⟩) zs.length cap)) (hc : ∀ j, j < zs.length → W.cell? ⟨b, off + j, none⟩ = some (encStr (zs.getD j []))) (h0 : J [] W) :
    CallsIn Fence.wide n Tryz.prog 135 #[.func (.yield l) #[] #[], .pointer (some ⟨Bs, 0, none⟩)] W fun e W' => (∃ v, e = .returned v) ∧
      ((∃ ys, ys = zs ∧ J ys W') ∨ (∃ pre, pre <+: zs ∧ Jx pre W')) := by
  refine callsIn_of_wp Tryz.func135 rfl trivial ?_ rfl
  simp only [Tryz.ntmps135, List.size_toArray, List.length_cons, List.length_nil, Nat.reduceAdd, Nat.reduceSub, Array.replicate_succ, Array.replicate_zero, List.push_toArray, List.append_toArray, List.nil_append, List.cons_append]
  gi_wp2
  gi_loopw [7] (fun i wr => ∃ k : Nat, k ≤ zs.length ∧ i = .int .i64 k ∧ J (zs.take k) wr ∧ Below n₀ W wr)
    (fun i _ => zs.length - (intOf i).toNat)
  case atStart => exact ⟨0, Nat.zero_le _, rfl, h0, Below.refl _ _⟩
  case round =>
    obtain ⟨k, hk, rfl, hJs, hnx⟩ := hrel
    have hcx : k < zs.length → wr.cell? ⟨b, off + k, none⟩ = some (encStr (zs.getD k [])) := fun h => (hnx.cell (p := ⟨b, off + k, none⟩) hb).trans (hc k h)
    by_cases hlt : k < zs.length
    · have hcx' := hcx hlt
      have h1 := take_getD zs [] k hlt
      generalize zs.getD k [] = x at hcx' h1
      have H1 := Lib.hid h1
      clear hcx h1
      obtain ⟨fn, tmps, assign, body, hy, hR⟩ := hY _ x wr hJs (by rw [List.length_take]; omega)
      gi_wp2
      refine hR.mono ?_
      rintro e W3 (⟨rfl, hJ3, hk3⟩ | ⟨rfl, hJx3⟩)
      · gi_wp2
        go_roundw
        case rel => exact ⟨k + 1, by omega, by simp, by rw [H1.out]; exact hJ3, hnx.trans hk3⟩
        case measure => simp [intOf]; omega
      · gi_wp2
        refine bodyPost_ret (results_none rfl _ _ _) rfl ?_
        exact ⟨⟨_, rfl⟩, .inr ⟨_, by rw [← H1.out]; exact List.take_prefix _ _, hJx3⟩⟩
    · obtain rfl : k = zs.length := by omega
      gi_wp2
      go_end0
      exact ⟨⟨_, rfl⟩, .inl ⟨_, List.take_length, hJs⟩⟩

set_option maxRecDepth 100000 in
set_option maxHeartbeats 1000000 in
theorem values1_nil (n : Nat) (l Bs : Nat) (A : Option Addr) (cap : Nat) (J : List (List UInt8) → World → Prop) (W : World) (hBs : W.cell? ⟨Bs, 0, none⟩ = some (.slice A 0 cap)) (h0 : J [] W) :
    CallsIn Fence.wide n Tryz.prog 135 #[.func (.yield l) #[] #[], .pointer (some ⟨Bs, 0, none⟩)] W fun e W' => (∃ v, e = .returned v) ∧ J [] W' := by
  refine callsIn_of_wp Tryz.func135 rfl trivial ?_ rfl
  simp only [Tryz.ntmps135, List.size_toArray, List.length_cons, List.length_nil, Nat.reduceAdd, Nat.reduceSub, Array.replicate_succ, Array.replicate_zero, List.push_toArray, List.append_toArray, List.nil_append, List.cons_append]
  gi_wp2
  gi_loopw [7] (fun i wr => i = .int .i64 0 ∧ J [] wr) (fun _ _ => 0)
  case atStart => exact ⟨rfl, h0⟩
  case round =>
    obtain ⟨rfl, hJs⟩ := hrel
    gi_wp2
    go_end0
    exact ⟨⟨_, rfl⟩, hJs⟩

theorem values_any (A : Option Addr) (len cap : Nat) (w : World) :
    Calls Tryz.prog 118 #[.slice A len cap] w fun e w' => e = .returned (.func (.func 135) #[] #[.pointer (some ⟨w.heap.size, 0, none⟩)]) ∧ w.alloc (.cells #[.slice A len cap] 38) = w' := by
  go_enter Tryz.func118, Tryz.ntmps118
  go_wp2
  go_ret
  exact ⟨rfl, rfl⟩

theorem values_stops (n : Nat) (hn : 1 ≤ n) (Bs n₀ : Nat) (sv : Value) (zs : List (List UInt8)) (hreach : zs.length * 16 ≤ 140737488351232) (w : World) (hBs : Bs < w.heap.size)
    (hc : w.cell? ⟨Bs, 0, none⟩ = some sv) (hI : StrsR w sv zs) (hlt : ∀ b off c, sv = .slice (some ⟨b, off, none⟩) zs.length c → zs ≠ [] → b < n₀) :
    SeqStopsK Fence.wide n Tryz.prog 135 #[.pointer (some ⟨Bs, 0, none⟩)] (fun x : List UInt8 => #[encStr x]) (Below n₀) (fun ys => ys = zs) (fun pre => pre <+: zs) zs.length w := fun l J Jx W hW _ _ hY h0 => by
  have hc' := (hW.cell (p := ⟨Bs, 0, none⟩) hBs).trans hc
  by_cases hz : zs = []
  · subst hz
    obtain ⟨A, c, rfl⟩ := hI.shape
    exact (values1_nil n l Bs A c J W hc' h0).mono fun e W' ⟨he, hj⟩ => ⟨he, .inl ⟨_, rfl, hj⟩⟩
  · obtain ⟨g, o, c, rfl, _, _⟩ := hI.pos (List.length_pos_iff.2 hz)
    have hg := hlt g o c rfl hz
    exact values1_in n hn l Bs n₀ g o c zs hreach hg J Jx hY W hc' (fun j hj => (hW.cell (p := ⟨g, o + j, none⟩) (by show g < _; omega)).trans (StrsR.cell hI j hj)) h0

theorem infoStr : (Tryz.prog.info? 9).map (fun i => (i.zero, i.size, i.bytes)) = some (some (.string ⟨#[]⟩), 1, 16) := by kernel_rfl

set_option maxRecDepth 100000 in
set_option maxHeartbeats 2000000 in
theorem appendSeq_any (n : Nat) (hn : 3 ≤ n) (Bs n₀ : Nat) (sv : Value) (zs : List (List UInt8)) (hlen : zs.length ≤ 1000000) (w : World) (hBs : Bs < w.heap.size) (hn₀ : n₀ ≤ w.heap.size)
    (hc : w.cell? ⟨Bs, 0, none⟩ = some sv) (hI : StrsR w sv zs) (hlt : ∀ b off c, sv = .slice (some ⟨b, off, none⟩) zs.length c → zs ≠ [] → b < n₀) :
    CallsIn Fence.wide n Tryz.prog 145 #[.slice none 0 0, .func (.func 135) #[] #[.pointer (some ⟨Bs, 0, none⟩)]] w fun e W' => ∃ v, e = .returned v ∧ W'.ownsRow w.heap.size 9 1 v zs.length (zs.map encStr) ∧ Below w.heap.size w W' := by
  have h1 : 1 ≤ n := by omega
  obtain ⟨i0, hi, hz0, hz1, hz2⟩ := info_parts infoStr
  refine callsIn_of_wp_marks Tryz.func145 rfl trivial ?_ rfl
  simp only [Tryz.ntmps145, List.size_toArray, List.length_cons, List.length_nil, Nat.reduceAdd, Nat.reduceSub, Array.replicate_succ, Array.replicate_zero, List.push_toArray, List.append_toArray, List.nil_append, List.cons_append]
  gi_wp2
  have bO := Boxed.new w 38 (.slice none 0 0)
  have hB0 : Below w.heap.size w (w.alloc (.cells #[.slice none 0 0] 38)) := (Below.refl _ w).alloc (Nat.le_refl _) _
  refine wpIn_rangeFunc_ownG (F := Fence.wide) rfl h1 (gf := 135) (lb := #[.pointer (some ⟨Bs, 0, none⟩)]) rfl trivial (enters_of Tryz.func135 (by kernel_rfl) rfl)
    (values_stops (n - 1) (by omega) Bs w.heap.size sv zs (by omega) (w.alloc (.cells #[.slice none 0 0] 38)) (by simp; omega) ((hB0.cell (p := ⟨Bs, 0, none⟩) hBs).trans hc) (hI.below hB0 (Nat.le_refl _)) (fun b off c e hz => Nat.lt_of_lt_of_le (hlt b off c e hz) hn₀)) belowK_t (belowK_b (by simp)) (Below.refl _ _) (fun _ => rfl)
    (fun (pre : List (List UInt8)) W => (∃ v, Boxed W w.heap.size 38 v ∧ W.ownsRow w.heap.size 9 1 v pre.length (pre.map encStr) ∧ True) ∧ Below w.heap.size w W)
    (fun _ _ _ => False)
    (OwnFrom.and (Own.from (holdsRow_own w.heap.size w.heap.size 38 9 1 (fun pre : List (List UInt8) => pre.length) (fun pre => pre.map encStr) (fun _ _ => True)) _) (ownFrom_below (Nat.le_refl _) (by simp)))
    (fun _ _ _ _ _ hs _ _ => hs)
    ⟨⟨_, bO, World.ownsRow_nil _ _ _ _, trivial⟩, hB0⟩
    (fun x => { tmps := #[.slice none 0 0, .func (.func 135) #[] #[.pointer (some ⟨Bs, 0, none⟩)], .pointer (some ⟨w.heap.size, 0, none⟩), undef, .slice none 0 0, encStr x, .func (.func 135) #[] #[.pointer (some ⟨Bs, 0, none⟩)], encStr x, undef, undef, undef, undef, undef], defers := [] }) ?assign ?body ?done ?stop
  case assign =>
    intro l x W K hK
    gi_wp2
    exact hK
  case body =>
    rintro l pre x W ⟨⟨v, hv, hrow, -⟩, hB⟩ hlt
    have hc := hv.cell
    gi_wp2_with (gi_at_builtin; refine wpListIn_append_own _ rfl _ _ 38 rfl w.heap.size 9 i0 (.string ⟨#[]⟩) 1 16 Tryz.underlying38 hi hz0 hz1 hz2 rfl (by decide) _ _ _ rfl (hrow.alloc _) ⟨W.heap.size, 0, none⟩ 1 1 [encStr x] rfl rfl (cell_one_new _ _ _) (by simp [Value.oneCell']) (by unfold maxLen; omega) (by omega) (by have := hB.size; simp; omega) ?_; intro v' w1 hown' hgrow _; obtain ⟨g', cap', rfl⟩ := ownsRow_succ hown'; obtain ⟨hv1, hv2, hr2, hk2, hb2⟩ := hv.appended (by decide) hrow hB.size (Nat.le_refl _) hown' hgrow; have hc1 := hv1.cell; have hf1 := hv1.frozen)
    exact ⟨hk2.from _, hb2, ⟨_, hv2, by simpa using hr2, trivial⟩, hB.trans hb2⟩
  case done =>
    rintro D ys W hD rfl ⟨⟨v, hv, hrow, -⟩, hB⟩ hK
    have hc := hv.cell
    gi_wp2
    refine ⟨by simp, .inl ⟨_, _, rfl, run_takeDeferred hK, ?_⟩⟩
    exact ⟨_, results_tmp rfl _ _ _, v, rfl, ownsRow_putObj hrow _ hK rfl, hB.trans (belowK_b (w := w) (Nat.le_refl _) W D _ _ (by simp at hD; omega) hK rfl rfl)⟩
  case stop =>
    rintro D c pre W _ _ h _
    exact h.elim
end Go.Proofs.YtdkkeaaepebafaaGreatDoor

namespace Go.Proofs.YtdkkeaaepebafaaGreatDoor
open Go Go.RowKit Go.Shelf Go.Maps Go.Sort

/-! ### Plain: of a sorted list nothing goes, if no two are one -/
theorem sorted_leB (l : List (List UInt8)) : (l.mergeSort leB).Pairwise fun a b => a ≤ b := by
  have tr : ∀ a b c : List UInt8, leB a b = true → leB b c = true → leB a c = true := fun a b c h1 h2 => by simp only [leB, decide_eq_true_eq] at *; exact List.le_trans h1 h2
  have to : ∀ a b : List UInt8, (leB a b || leB b a) = true := fun a b => by simp only [leB, Bool.or_eq_true, decide_eq_true_eq]; exact List.le_total a b
  exact (List.pairwise_mergeSort tr to l).imp fun h => by simpa [leB] using h
theorem nodup_of_adj : ∀ {l : List (List UInt8)}, l.Pairwise (fun a b => a ≤ b) → (∀ j, j + 1 < l.length → l[j]? ≠ l[j + 1]?) → l.Nodup
  | [], _, _ => List.nodup_nil
  | [a], _, _ => by simp
  | a :: b :: t, hp, h => by
    have hp2 := List.pairwise_cons.1 hp
    have ih := nodup_of_adj hp2.2 fun j hj => by have := h (j + 1) (by simpa using hj); simpa using this
    refine List.nodup_cons.2 ⟨fun hm => ?_, ih⟩
    have hab : a ≠ b := fun e => h 0 (by simp) (by simp [e])
    rcases List.mem_cons.1 hm with e | hm'
    · exact hab e
    · have h1 := hp2.1 b (by simp)
      have h2 := (List.pairwise_cons.1 hp2.2).1 a hm'
      exact hab (List.le_antisymm h1 h2)
theorem filter_full {α : Type} (p : α → Bool) (l : List α) (h : (l.filter p).length = l.length) : ∀ x ∈ l, p x = true := by
  have := List.length_filter_eq_length_iff.1 h
  exact this
theorem compact_len (l : List (List UInt8)) : (Lib.compact (l.mergeSort leB)).length = l.length ↔ l.Nodup := by
  have hl : (l.mergeSort leB).length = l.length := List.length_mergeSort l
  have hk : ∀ j, j < l.length → (Lib.keeps (l.mergeSort leB).toArray j = true ↔ (j = 0 ∨ (l.mergeSort leB)[j]? ≠ (l.mergeSort leB)[j - 1]?)) := fun j hj => by
    unfold Lib.keeps
    rw [decide_eq_true_iff]
    have e1 : (l.mergeSort leB).toArray[j]! = (l.mergeSort leB)[j]'(by omega) := by rw [getElem!_pos _ _ (by simp; omega)]; simp
    have e2 : (l.mergeSort leB).toArray[j - 1]! = (l.mergeSort leB)[j - 1]'(by omega) := by rw [getElem!_pos _ _ (by simp; omega)]; simp
    rw [e1, e2, List.getElem?_eq_getElem (by omega), List.getElem?_eq_getElem (by omega)]
    simp
  unfold Lib.compact Lib.compactUpTo
  rw [List.length_map, hl]
  constructor
  · intro h
    have hall := filter_full _ _ (h.trans (List.length_range).symm)
    have hn : (l.mergeSort leB).Nodup := nodup_of_adj (sorted_leB l) fun j hj e => by
      have h1 := (hk (j + 1) (by omega)).1 (hall (j + 1) (by simp; omega))
      rcases h1 with h1 | h1
      · omega
      · exact h1 (by rw [Nat.add_sub_cancel]; exact e.symm)
    exact (List.mergeSort_perm l leB).nodup_iff.1 hn
  · intro h
    have hn : (l.mergeSort leB).Nodup := (List.mergeSort_perm l leB).nodup_iff.2 h
    rw [List.filter_eq_self.2, List.length_range]
    intro j hj
    have hj' : j < l.length := by simpa using hj
    refine (hk j hj').2 ?_
    by_cases h0 : j = 0
    · exact .inl h0
    · refine .inr fun e => ?_
      rw [List.getElem?_eq_getElem (by omega), List.getElem?_eq_getElem (by omega)] at e
      have := (List.getElem_inj hn).1 (Option.some.inj e)
      omega
theorem compact_le (l : List (List UInt8)) : (Lib.compact l).length ≤ l.length := by
  unfold Lib.compact Lib.compactUpTo
  rw [List.length_map]
  exact Nat.le_trans (List.length_filter_le _ _) (by simp)

/-! ### The library's Sorted at Values -/
theorem collect_any (Bs n₀ : Nat) (sv : Value) (zs : List (List UInt8)) (hlen : zs.length ≤ 1000000) (w : World) (hBs : Bs < w.heap.size) (hn₀ : n₀ ≤ w.heap.size)
    (hc : w.cell? ⟨Bs, 0, none⟩ = some sv) (hI : StrsR w sv zs) (hlt : ∀ b off c, sv = .slice (some ⟨b, off, none⟩) zs.length c → zs ≠ [] → b < n₀) :
    Calls Tryz.prog 133 #[.func (.func 135) #[] #[.pointer (some ⟨Bs, 0, none⟩)]] w fun e W' => ∃ v, e = .returned v ∧ W'.ownsRow w.heap.size 9 1 v zs.length (zs.map encStr) ∧ Below w.heap.size w W' := by
  have H := Lib.hid ((callsIn_wide (n := 5)).1 (appendSeq_any 5 (by omega) Bs n₀ sv zs hlen w hBs hn₀ hc hI hlt))
  clear hc hI hlt
  go_enter Tryz.func133, Tryz.ntmps133
  go_wp2_with fail
  refine H.out.mono ?_
  rintro e w1 ⟨v, rfl, h1, h2⟩
  go_wp2
  go_ret
  exact ⟨v, rfl, h1, h2⟩

set_option maxHeartbeats 1000000 in
theorem sorted_any (Bs n₀ : Nat) (sv : Value) (zs : List (List UInt8)) (hlen : zs.length ≤ 1000000) (w : World) (hBs : Bs < w.heap.size) (hn₀ : n₀ ≤ w.heap.size)
    (hc : w.cell? ⟨Bs, 0, none⟩ = some sv) (hI : StrsR w sv zs) (hlt : ∀ b off c, sv = .slice (some ⟨b, off, none⟩) zs.length c → zs ≠ [] → b < n₀) :
    Calls Tryz.prog 117 #[.func (.func 135) #[] #[.pointer (some ⟨Bs, 0, none⟩)]] w fun e W' => ∃ v, e = .returned v ∧ W'.ownsRow w.heap.size 9 1 v zs.length ((zs.mergeSort leB).map encStr) ∧ Below w.heap.size w W' := by
  have H := Lib.hid (collect_any Bs n₀ sv zs hlen w hBs hn₀ hc hI hlt)
  clear hc hI hlt
  go_enter Tryz.func117, Tryz.ntmps117
  go_wp2_with fail
  refine H.out.mono ?_
  rintro e w1 ⟨v, rfl, h1, h2⟩
  have h1' := h1
  obtain ⟨h0, ⟨rfl, hz⟩ | ⟨gb, cap, cur, rfl, hbase, hgb, r1, r2, r3, r4⟩⟩ := h1
  · have hss : zs = [] := List.eq_nil_of_length_eq_zero hz
    subst hss
    have HS := Lib.hid (AnyM.slices_Sort_string_none Tryz.sortA none 0 w1)
    have H1 := Lib.hid h1'
    clear h0 h1'
    go_wp2_with fail
    refine HS.out.mono ?_
    rintro e w2 ⟨rfl, rfl⟩
    go_wp2
    go_ret
    exact ⟨_, rfl, by simpa using H1.out, h2⟩
  · have hH : Holds encStr w1 gb 0 zs.toArray := holds_of_block hgb (by simpa using r4)
    have HS := Lib.hid (AnyM.slices_Sort_string Tryz.sortA gb 0 cap zs w1 hH (lt_heap hgb) (by omega))
    have Hg := Lib.hid hgb; have H3 := Lib.hid r3; have H2 := Lib.hid h2
    clear hH h0 h1' hgb r3 r4 h2
    go_wp2_with fail
    refine HS.out.mono ?_
    rintro e w2 ⟨rfl, k, os, rfl⟩
    go_wp2
    go_ret
    refine ⟨_, rfl, ?_, ?_⟩
    · exact ownsRow_sorted (by simp) hbase Hg.out r1 r2 H3.out
    · exact H2.out.grown (grownBy_sorted _) H2.out.size (fun j hj => by cases hj; exact hbase)

theorem grownBy_putRow {w : World} {g n : Nat} (d : Array (List UInt8)) : w.grownBy (putRow encStr (Sort.ahead w n) g 0 d) (some g) := by
  refine ⟨rfl, rfl, rfl, by simp [putRow, mapBlock, Sort.ahead], fun k hk hne => ?_⟩
  have : g ≠ k := fun e => hne (by rw [e])
  simp [putRow, mapBlock, Sort.ahead, Array.getElem?_modify, this]

/-- What Compact comes to behind it. -/
theorem compactOf (base : Nat) (v : Value) (zs : List (List UInt8)) (hlen : zs.length ≤ 1000000) (w : World) (hrow : w.ownsRow base 9 1 v zs.length (zs.map encStr)) :
    Calls Tryz.prog 116 #[v] w fun e w' => (∃ A c, e = .returned (.slice A (Lib.compact zs).length c)) ∧ Below base w w' := by
  obtain ⟨h0, ⟨rfl, hz⟩ | ⟨gb, cap, cur, rfl, hbase, hgb, r1, r2, r3, r4⟩⟩ := hrow
  · have hss : zs = [] := List.eq_nil_of_length_eq_zero hz
    subst hss
    refine (Any.slices_Compact_string_empty Tryz.compA none 0 w).mono ?_
    rintro e w' ⟨rfl, rfl⟩
    exact ⟨⟨_, _, rfl⟩, Below.refl _ _⟩
  · have hH : Holds encStr w gb 0 zs.toArray := holds_of_block hgb (by simpa using r4)
    refine (Any.slices_Compact_string Tryz.compA gb 0 cap zs w hH (by omega) r1).mono ?_
    rintro e w' ⟨rfl, q, rfl⟩
    refine ⟨⟨_, _, rfl⟩, ?_⟩
    have hg := grownBy_putRow (w := w) (g := gb) (n := q) (Lib.compact zs ++ List.replicate (zs.length - (Lib.compact zs).length) []).toArray
    exact ⟨hg.os, hg.tape, hg.output, hg.size, fun k hk => by
      refine hg.block k ?_ ?_
      · have := lt_heap hgb; omega
      · intro e; cases e; omega⟩

theorem onceHyp {w : World} {v : Value} {zs : List (List UInt8)} (hr : StrsR w v zs) : ∀ b off c, v = .slice (some ⟨b, off, none⟩) zs.length c → zs ≠ [] → b < w.heap.size := fun b off c e hz => by
  obtain ⟨g, o, c', e', _, hg⟩ := hr.pos (List.length_pos_iff.2 hz)
  rw [e] at e'; cases e'; exact hg

set_option maxRecDepth 100000 in
set_option maxHeartbeats 1000000 in
theorem checkOnce_of (zs : List (List UInt8)) (hl : zs.length ≤ 1000000) (A : Option Addr) (c : Nat) (w : World) (hr : StrsR w (.slice A zs.length c) zs) (he : Er w) (b : Bool) (hb : decide (((Lib.compact (zs.mergeSort leB)).length : Int) = (zs.length : Int)) = b) (Q : Ending → World → Prop)
    (hN : ∀ W, Below w.heap.size w W → ∀ pe, W.cell? ⟨1, 0, none⟩ = some (.iface 240 pe) → Calls Tryz.prog 60 #[.bool b, .string ⟨#[116, 119, 111]⟩, .iface 240 pe] W fun e W' => (∃ v, e = .returned v ∧ Q (.returned v) W')) :
    Calls Tryz.prog 91 #[.slice A zs.length c] w Q := by
  have HV := Lib.hid (values_any A zs.length c w)
  have hb1 := below_new w (.cells #[.slice A zs.length c] 38)
  have HS := Lib.hid (sorted_any w.heap.size w.heap.size (.slice A zs.length c) zs hl (w.alloc (.cells #[.slice A zs.length c] 38)) (by simp) (by simp) (by simp) (hr.below hb1 (Nat.le_refl _)) (onceHyp hr))
  have HR := Lib.hid hr; have HE := Lib.hid he; have HN := Lib.hid hN
  obtain ⟨m, hm⟩ : ∃ m, m = (Lib.compact (zs.mergeSort leB)).length := ⟨_, rfl⟩
  rw [← hm] at hb
  have hbi : ((m : Int) == (zs.length : Int)) = b := by rw [← hb]; rfl
  have Hm := Lib.hid hm
  clear hr he hN hm hb
  go_enter Tryz.func91, Tryz.ntmps91
  go_wp2_with fail
  refine HV.out.mono ?_
  rintro e w1 ⟨rfl, rfl⟩
  go_wp2_with fail
  refine HS.out.mono ?_
  rintro e w2 ⟨v, rfl, h1, h2⟩
  have l2 : Below w.heap.size w w2 := hb1.trans (h2.mono hb1.size)
  have hlen : (zs.mergeSort leB).length = zs.length := List.length_mergeSort zs
  have HC := Lib.hid (compactOf (w.alloc (.cells #[.slice A zs.length c] 38)).heap.size v (zs.mergeSort leB) (by omega) w2 (by rw [hlen]; exact h1))
  rw [← Hm.out] at HC
  clear h1 h2 hlen hb1
  go_wp2_with fail
  refine HC.out.mono ?_
  rintro e w3 ⟨⟨A3, c3, rfl⟩, h3⟩
  have l3 : Below w.heap.size w w3 := l2.trans (h3.mono (by simp))
  obtain ⟨a, ce⟩ := (HE.out.below l3).wrong
  have HN3 := Lib.hid (HN.out w3 l3 _ ce)
  clear h3
  go_wp2_with fail
  refine HN3.out.mono ?_
  rintro e w4 ⟨v4, rfl, h4⟩
  go_wp2
  exact h4
theorem checkOnce_yes (zs : List (List UInt8)) (hl : zs.length ≤ 1000000) (v : Value) (w : World) (hr : StrsR w v zs) (he : Er w) (h : zs.Nodup) : Calls Tryz.prog 91 #[v] w (RetBelow .nilIface w) := by
  obtain ⟨A, c, rfl⟩ := hr.shape
  refine checkOnce_of zs hl A c w hr he true (decide_eq_true (by rw [(compact_len zs).2 h])) _ fun W hW pe _ => ?_
  refine (need_yes _ _ W).mono ?_
  rintro e w' ⟨rfl, rfl⟩
  exact ⟨_, rfl, rfl, hW⟩
theorem checkOnce_no (zs : List (List UInt8)) (hl : zs.length ≤ 1000000) (v : Value) (w : World) (hr : StrsR w v zs) (he : Er w) (h : ¬ zs.Nodup) : Calls Tryz.prog 91 #[v] w (FailB w) := by
  obtain ⟨A, c, rfl⟩ := hr.shape
  refine checkOnce_of zs hl A c w hr he false (decide_eq_false (fun e => h ((compact_len zs).1 (by omega)))) _ fun W hW pe _ => ?_
  refine (need_no _ _ _ W).mono ?_
  rintro e w' ⟨rfl, rfl⟩
  exact ⟨_, rfl, _, rfl, hW.trans ((below_new W _).mono hW.size)⟩
end Go.Proofs.YtdkkeaaepebafaaGreatDoor
