/-
  The document's Put of an index, walked.
-/
import Derived.Test.YtdjmcehoaneekaaDoorIRefN
import Derived.Test.YtdjmcehoaneekaaDoorIPure
namespace Go.Proofs.YtdjmcehoaneekaaDoor.Ix
open Go.Proofs.YtdjmcehoaneekaaDoor
open Go Go.RowKit

/-- The rows of places. -/
def rowN (ids : List Bs) (p : Nat) : Rw := ⟨rawL (ids.getD p []), p⟩
def lrows (ids : List Bs) (l : List Nat) : List Rw := l.map (rowN ids)
theorem lrows_range (ids : List Bs) : lrows ids (List.range ids.length) = rowsOf ids := by
  apply List.ext_getElem?
  intro i
  unfold lrows rowN
  rw [rowsOf_get, List.getElem?_map]
  by_cases h : i < ids.length
  · rw [List.getElem?_range h, List.getElem?_eq_getElem h, Option.map_some, Option.map_some, List.getD_eq_getElem?_getD, List.getElem?_eq_getElem h]; rfl
  · rw [List.getElem?_eq_none (by rw [List.length_range]; omega), List.getElem?_eq_none (by omega)]; rfl
theorem raw_lt {a b : Bs} (ha : namedB a = true) (hb : namedB b = true) : rawL a < rawL b ↔ a < b := by
  have h := hex_lt (rawL a) (rawL b)
  rw [hex_raw ha, hex_raw hb] at h
  exact h.symm
/-- What is done, and what is left. -/
structure Sel (ids : List Bs) (D : List Rw) (l : List Nat) : Prop where
  perm : (D ++ lrows ids l).Perm (rowsOf ids)
  rise : (sumsOf D).Pairwise (· < ·)
  low : ∀ d ∈ D, ∀ p ∈ l, d.sum < rawL (ids.getD p [])
  lt : ∀ p ∈ l, p < ids.length
  apart : l.Nodup
/-- The place of the least among the first ones. -/
def MinTo (ids : List Bs) (l : List Nat) (i b : Nat) : Prop := b < l.length ∧ ∀ j, j < i → ¬ ids.getD (l.getD j 0) [] < ids.getD (l.getD b 0) []
theorem MinTo.start {ids : List Bs} {l : List Nat} (h : 0 < l.length) : MinTo ids l 1 0 := by
  refine ⟨h, fun j hj => ?_⟩
  obtain rfl : j = 0 := by omega
  exact lt_irrefl_bs _
theorem MinTo.less {ids : List Bs} {l : List Nat} {i b : Nat} (h : MinTo ids l i b) (hi : i < l.length) (hlt : ids.getD (l.getD i 0) [] < ids.getD (l.getD b 0) []) : MinTo ids l (i + 1) i := by
  refine ⟨hi, fun j hj hc => ?_⟩
  by_cases e : j = i
  · subst e; exact lt_irrefl_bs _ hc
  · exact h.2 j (by omega) (lt_trans_bs hc hlt)
theorem MinTo.keep {ids : List Bs} {l : List Nat} {i b : Nat} (h : MinTo ids l i b) (hlt : ¬ ids.getD (l.getD i 0) [] < ids.getD (l.getD b 0) []) : MinTo ids l (i + 1) b := by
  refine ⟨h.1, fun j hj => ?_⟩
  by_cases e : j = i
  · subst e; exact hlt
  · exact h.2 j (by omega)
theorem Sel.start {ids : List Bs} : Sel ids [] (List.range ids.length) := by
  refine ⟨?_, List.Pairwise.nil, ?_, fun p hp => by simpa using hp, List.nodup_range⟩
  · rw [List.nil_append, lrows_range]
  · intro d hd; cases hd
theorem Sel.last {ids : List Bs} {D : List Rw} (h : Sel ids D []) : Srt ids D := ⟨by have := h.perm; simpa [lrows] using this, h.rise⟩
theorem split_at {l : List Nat} {b : Nat} (h : b < l.length) : l = l.take b ++ l.getD b 0 :: l.drop (b + 1) := by
  rw [List.getD_eq_getElem?_getD, List.getElem?_eq_getElem h, Option.getD_some, List.getElem_cons_drop, List.take_append_drop]
theorem Sel.step {ids : List Bs} {D : List Rw} {l : List Nat} {b : Nat} (h : Sel ids D l) (hn : ids.all namedB = true) (hd : ids.Nodup) (hm : MinTo ids l l.length b) :
    Sel ids (D ++ [rowN ids (l.getD b 0)]) (l.take b ++ l.drop (b + 1)) := by
  have hs := split_at hm.1
  have hall : ∀ p, p < ids.length → namedB (ids.getD p []) = true := fun p hp => by
    rw [List.getD_eq_getElem?_getD, List.getElem?_eq_getElem hp]
    exact List.all_eq_true.1 hn _ (List.getElem_mem hp)
  obtain ⟨q, hq⟩ : ∃ q, q = l.getD b 0 := ⟨_, rfl⟩
  rw [← hq] at hs ⊢
  have hpm : l.Perm (q :: (l.take b ++ l.drop (b + 1))) := by
    have := List.perm_middle (a := q) (l₁ := l.take b) (l₂ := l.drop (b + 1))
    rw [← hs] at this
    exact this
  have hmem : ∀ p, p ∈ l.take b ++ l.drop (b + 1) → p ∈ l := fun p hp => hpm.mem_iff.2 (List.mem_cons.2 (.inr hp))
  have hql : q ∈ l := hpm.mem_iff.2 (List.mem_cons.2 (.inl rfl))
  have hnd : (q :: (l.take b ++ l.drop (b + 1))).Nodup := hpm.nodup_iff.1 h.apart
  rw [List.nodup_cons] at hnd
  refine ⟨?_, ?_, ?_, fun p hp => h.lt p (hmem p hp), hnd.2⟩
  · refine List.Perm.trans ?_ h.perm
    rw [List.append_assoc]
    refine List.Perm.append_left D ?_
    unfold lrows
    have := (hpm.map (rowN ids)).symm
    rw [List.map_cons] at this
    exact this
  · unfold sumsOf
    rw [List.map_append, List.pairwise_append]
    refine ⟨h.rise, by simp, fun a ha c hc => ?_⟩
    obtain ⟨d, hd', rfl⟩ := List.mem_map.1 ha
    simp only [List.map_cons, List.map_nil, List.mem_singleton] at hc
    subst hc
    exact h.low d hd' q hql
  · intro d hd' p hp
    rcases List.mem_append.1 hd' with hd' | hd'
    · exact h.low d hd' p (hmem p hp)
    · rw [List.mem_singleton.1 hd']
      show rawL (ids.getD q []) < _
      have hpl := h.lt p (hmem p hp); have hqlt := h.lt q hql
      rw [raw_lt (hall q hqlt) (hall p hpl)]
      obtain ⟨j, hj⟩ := List.getElem?_of_mem (hmem p hp)
      have hjl : j < l.length := (List.getElem?_eq_some_iff.1 hj).1
      have hge := hm.2 j hjl
      have e : l.getD j 0 = p := by rw [List.getD_eq_getElem?_getD, hj]; rfl
      rw [e, ← hq] at hge
      refine lt_total_bs hge fun e2 => ?_
      have hpq : p = q := by
        rw [List.getD_eq_getElem?_getD, List.getD_eq_getElem?_getD, List.getElem?_eq_getElem hpl, List.getElem?_eq_getElem hqlt] at e2
        exact (List.getElem_inj hd).1 e2
      subst hpq
      exact hnd.1 hp
/-- The counts' bytes. -/
def headI (ids : List Bs) (k : Nat) : Bs := (List.range k).flatMap fun c => num2 (upToI ids c)
theorem headI_succ (ids : List Bs) (k : Nat) : headI ids (k + 1) = headI ids k ++ num2 (upToI ids k) := by unfold headI; rw [List.range_succ, List.flatMap_append]; simp
theorem headI_len (ids : List Bs) (k : Nat) : (headI ids k).length = 2 * k := by unfold headI; rw [flat_len _ 2 _ fun _ _ => rfl, List.length_range]; omega
theorem headI_all {ids : List Bs} {D : List Rw} (h : Srt ids D) : headI ids 256 = headL D := by
  unfold headI headL
  congr 1
  funext c
  rw [h.upTo]
theorem bodyL_snocR (D : List Rw) (r : Rw) : bodyL (D ++ [r]) = bodyL D ++ r.sum ++ num2 r.place := by unfold bodyL; rw [List.flatMap_append]; simp [rowB]
theorem bodyL_le (D : List Rw) (h : ∀ r ∈ D, r.sum.length ≤ 32) : (bodyL D).length ≤ D.length * 34 := by
  induction D with
  | nil => simp [bodyL]
  | cons r D ih =>
    have h1 := ih fun x hx => h x (List.mem_cons.2 (.inr hx))
    have h2 := h r (List.mem_cons.2 (.inl rfl))
    unfold bodyL at h1 ⊢
    rw [List.flatMap_cons, List.length_append, List.length_cons, Nat.add_mul]
    have : (rowB r).length = r.sum.length + 2 := by unfold rowB; rw [List.length_append]; rfl
    omega
theorem Sel.fit {ids : List Bs} {D : List Rw} {l : List Nat} (h : Sel ids D l) : Fit D := fun r hr => (fit_rowsFrom 0 ids) r (h.perm.mem_iff.1 (List.mem_append.2 (.inl hr)))
theorem Sel.len {ids : List Bs} {D : List Rw} {l : List Nat} (h : Sel ids D l) : D.length + l.length = ids.length := by
  have := h.perm.length_eq
  rw [rowsOf_len, List.length_append] at this
  unfold lrows at this
  rw [List.length_map] at this
  exact this
/-- None of the first ones is told twice. -/
theorem take_nodup {ids : List Bs} {k : Nat} (hk : k < ids.length) (h : (ids.take k).Nodup) (hno : ∀ j, j < k → ids.getD j [] ≠ ids.getD k []) : (ids.take (k + 1)).Nodup := by
  rw [List.take_add_one, List.getElem?_eq_getElem hk, Option.toList_some, List.nodup_append]
  refine ⟨h, by simp, fun a ha c hc e => ?_⟩
  rw [List.mem_singleton.1 hc] at e
  subst e
  obtain ⟨j, hj⟩ := List.getElem?_of_mem ha
  have hjk : j < k := by have := (List.getElem?_eq_some_iff.1 hj).1; rw [List.length_take] at this; omega
  rw [List.getElem?_take, if_pos hjk] at hj
  refine hno j hjk ?_
  rw [List.getD_eq_getElem?_getD, hj, List.getD_eq_getElem?_getD, List.getElem?_eq_getElem hk]
theorem twice_not {ids : List Bs} {j k : Nat} (hk : k < ids.length) (hjk : j < k) (e : ids.getD j [] = ids.getD k []) : ¬ ids.Nodup := fun h => by
  rw [List.getD_eq_getElem?_getD, List.getD_eq_getElem?_getD, List.getElem?_eq_getElem (by omega : j < ids.length), List.getElem?_eq_getElem hk] at e
  have := (List.getElem_inj h).1 e
  omega
theorem getD_of {ids : List Bs} {k : Nat} {x : Bs} (h : ids[k]? = some x) : ids.getD k [] = x := by rw [List.getD_eq_getElem?_getD, h]; rfl

def intC (p : Nat) : List Value := [.int .i64 (p : Int)]
theorem intE : ElK (α := Nat) 56 3 1 8 intC := ⟨Tryd.underlying56, ⟨.int .i64 0, by kernel_rfl, by kernel_rfl⟩, by decide, fun _ => rfl, fun x u hu => by
  simp only [intC, List.mem_singleton] at hu; subst hu; rfl⟩
abbrev IntO (w : World) (B : Nat) (v : Value) (l : List Nat) : Prop := OwK 3 1 intC w B v l
theorem int_apart {w w' : World} {B : Nat} {left out out' : Value} {l : List Nat} {m : Bs} (h : IntO w B left l) (ho : Dl.Ow w B out m) (hb : Dl.AppF w out w' out') : IntO w' B left l := by
  obtain ⟨h1, h2⟩ := h
  refine ⟨h1, ?_⟩
  rcases h2 with h2 | ⟨g, cap, cur, rfl, hbg, hg, r⟩
  · exact .inl h2
  · refine .inr ⟨g, cap, cur, rfl, hbg, (hb.1.block g (lt_of_block hg) fun e => ?_).trans hg, r⟩
    rcases ho.2 with ⟨rfl, _⟩ | ⟨g', cap', cur', rfl, _, hg', _⟩
    · cases e
    · obtain rfl : g' = g := Option.some.inj e
      rw [hg] at hg'
      cases hg'
theorem IntO.shape {w : World} {B : Nat} {v : Value} {l : List Nat} (h : IntO w B v l) : ∃ A c, v = .slice A l.length c := (own_rd (f := intC) (k := 1) (fun _ => rfl) h).shape
theorem IntO.cell {w : World} {B : Nat} {A : Option Addr} {M c : Nat} {l : List Nat} (h : IntO w B (.slice A M c) l) (h0 : 0 < M) : ∃ g, A = some ⟨g, 0, none⟩ ∧ M = l.length ∧ M ≤ c ∧ g < w.heap.size ∧ ∀ W, Below w.heap.size w W → ∀ j, j < M → W.cell? ⟨g, j, none⟩ = some (.int .i64 ((l.getD j 0 : Nat) : Int)) := by
  have hr := own_rd (f := intC) (k := 1) (fun _ => rfl) h
  rcases h.2 with ⟨e, _⟩ | ⟨g, cap, cur, e, hbg, hg, hnc, r⟩
  · cases e; omega
  · cases e
    have hlt := lt_of_block hg
    refine ⟨g, rfl, rfl, hnc, hlt, fun W hW j hj => ?_⟩
    rw [hW.cell (p := ⟨g, j, none⟩) hlt]
    rcases hr with ⟨_, rfl⟩ | ⟨g', o', c', e, hc, hg', hcell⟩
    · simp at hj
    · cases e
      have := hcell j hj _ (List.getElem?_eq_getElem hj) 0 (by omega)
      rw [Nat.mul_one, Nat.add_zero, Nat.zero_add] at this
      rw [this, List.getD_eq_getElem?_getD, List.getElem?_eq_getElem hj]; rfl
def slen : Value → Nat | .slice _ n _ => n | _ => 0
theorem at_i (W : World) (g n c k : Nat) (hk : k < n) : (Instr.indexAt 56 (.slice (some ⟨g, 0, none⟩) n c) (.int .i64 (k : Int))).run Tryd.prog W = .ok (.pointer (some ⟨g, k, none⟩)) W := by
  have h1 : (k : Int) < (n : Int) := by omega
  simp [go_sem, h1]
theorem ld_i (W : World) (g k : Nat) (x : Nat) (h : W.cell? ⟨g, k, none⟩ = some (.int .i64 (x : Int))) : (Instr.loadAt 3 (.pointer (some ⟨g, k, none⟩))).run Tryd.prog W = .ok (.int .i64 (x : Int)) W := by
  simp [go_sem, h]
theorem ld_s (W : World) (g k : Nat) (x : Bs) (h : W.cell? ⟨g, k, none⟩ = some (.string ⟨x.toArray⟩)) : (Instr.loadAt 9 (.pointer (some ⟨g, k, none⟩))).run Tryd.prog W = .ok (.string ⟨x.toArray⟩) W := by
  simp [go_sem, h]
theorem eq_str (W : World) (x y : Bs) (b : Bool) (h : decide (x = y) = b) : (binOp .eql 9 (.string ⟨x.toArray⟩) (.string ⟨y.toArray⟩)).run Tryd.prog W = .ok (.bool b) W := by
  show (Op.stringOp .eql _ _).run _ _ = _
  cases b with
  | true =>
    have h1 : x = y := of_decide_eq_true h
    simp [go_sem, Op.stringOp, h1]
  | false =>
    have h1 : ¬ x = y := of_decide_eq_false h
    simp [go_sem, Op.stringOp, h1]
theorem lss_strP (W : World) (x y : Bs) (b : Bool) (h : decide (x < y) = b) : (binOp .lss 9 (.string ⟨x.toArray⟩) (.string ⟨y.toArray⟩)).run Tryd.prog W = .ok (.bool b) W := by
  show (Op.stringOp .lss _ _).run _ _ = _
  have e : Op.bytesLess x y = decide (x < y) := Go.Proofs.bytesLess_eq x y
  rw [h] at e
  simp [go_sem, Op.stringOp, e]
theorem bld_i (W : World) (k : Nat) : (Instr.buildSlice 56 1 #[(0, .int .i64 (k : Int))]).run Tryd.prog W = .ok (.slice (some ⟨W.heap.size, 0, none⟩) 1 1) (W.alloc (.cells #[.int .i64 (k : Int)] 3)) := by
  simp [go_sem]
theorem bld_i0 (W : World) : (Instr.buildSlice 56 0 #[]).run Tryd.prog W = .ok (.slice (some ⟨W.heap.size, 0, none⟩) 0 0) (W.alloc (.cells #[] 3)) := by
  simp [go_sem]
theorem icut_lo (W : World) (g n c k : Nat) (hk : k ≤ c) : (Instr.sliceAt 56 (.slice (some ⟨g, 0, none⟩) n c) none (some (.int .i64 (k : Int))) none).run Tryd.prog W = .ok (.slice (some ⟨g, 0, none⟩) k c) W := by
  have h1 : (k : Int) ≤ (c : Int) := by omega
  simp [go_sem, h1]
theorem icut_hi (g n c k : Nat) (hk : k ≤ n) (hc : n ≤ c) : ∃ A, (∀ W, (Instr.sliceAt 56 (.slice (some ⟨g, 0, none⟩) n c) (some (.int .i64 (k : Int))) none none).run Tryd.prog W = .ok (.slice (some A) (n - k) (c - k)) W) ∧ (k < c → A = ⟨g, k, none⟩) := by
  have he : Tryd.prog.underlying 56 = some (.slice (Tryd.prog.elem 56)) := by kernel_rfl
  have hs : ∀ W, (sizeOf (Tryd.prog.elem 56)).run Tryd.prog W = .ok 1 W := fun W => by kernel_rfl
  refine ⟨if c - k = 0 then ⟨g, 0, none⟩ else ⟨g, k, none⟩, fun W => ?_, fun h => by rw [if_neg (by omega)]⟩
  rw [run_sliceAt_slice W 56 _ _ _ _ he, run_slice_l W 56 _ _ _ he .i64 (k : Int) (by omega) (by omega), hs]
  simp [Result.andThen, sliced, Addr.add]
  by_cases e : c - k = 0
  · rw [if_pos e, if_pos (by omega)]
  · rw [if_neg e, if_neg (by omega)]
    by_cases e2 : k = 0
    · rw [if_pos e2, e2]
    · rw [if_neg e2]
/-- Cells of a part of the left ones. -/
theorem int_part {W : World} {g M : Nat} {l : List Nat} (hM : M = l.length) (h : ∀ j, j < M → W.cell? ⟨g, j, none⟩ = some (.int .i64 ((l.getD j 0 : Nat) : Int))) (a : Nat) (m : List Nat) (hm : ∀ j, m[j]? = if j < m.length then l[a + j]? else none) (j : Nat) (u : Value) (hj : (m.flatMap intC)[j]? = some u) : W.cell? ⟨g, a + j, none⟩ = some u := by
  have hlen : (m.flatMap intC).length = m.length := by rw [flat_length (k := 1) (fun _ => rfl)]; omega
  have hlt : j < m.length := by have := (List.getElem?_eq_some_iff.1 hj).1; omega
  obtain ⟨p, hp⟩ : ∃ p, m[j]? = some p := ⟨_, List.getElem?_eq_getElem hlt⟩
  have h1 := flat_get (f := intC) (k := 1) (fun _ => rfl) m j p hp 0 (by omega)
  rw [Nat.mul_one, Nat.add_zero, hj] at h1
  have h2 := hm j
  rw [hp, if_pos hlt] at h2
  have hlt2 : a + j < l.length := (List.getElem?_eq_some_iff.1 h2.symm).1
  rw [h (a + j) (by omega), List.getD_eq_getElem?_getD, ← h2]
  exact h1.symm
theorem rsum_gd (l : Bs) : (sumC l).toArray = sumA (sumL l) := by
  rw [← sumC_eq]
  unfold sumA
  refine u8s_congr fun i hi => ?_
  unfold gd sumL
  rw [List.getD_eq_getElem?_getD, List.getElem?_map, List.getElem?_range hi]; rfl
theorem raw_first (id : Bs) : 0 < (rawL id).length := by rw [rawL_len]; omega

set_option maxRecDepth 100000 in
set_option maxHeartbeats 16000000 in
theorem RPut_any (w : World) (v : Value) (ids : List Bs) (hv : StrsR w v ids) (hm : ∀ x ∈ ids, x.length ≤ maxLen) (hl : ids.length ≤ 1000000) : Calls Tryd.prog 12 #[v] w (PutPost ids w) := by
  obtain ⟨A, c, rfl⟩ := hv.shape
  obtain ⟨N, hN⟩ : ∃ N, N = ids.length := ⟨_, rfl⟩
  rw [← hN] at hl ⊢
  by_cases hbig : 512 < N
  · have hbi : (512 : Int) < (N : Int) := by omega
    have HE : Hid (putE ids = some 2) := Lib.hid (putE_big (by omega))
    clear hv hN hm hbig
    go_enter Tryd.func12, Tryd.ntmps12
    go_wp2_with fail
    go_ret2
    exact ⟨Below.refl _ _, .inl ⟨2, HE.out, rfl⟩⟩
  have hbi : ¬ (512 : Int) < (N : Int) := by omega
  have hN5 : N ≤ 512 := by omega
  have HV : Hid (StrsR w (.slice A N c) ids) := Lib.hid (by rw [hN]; exact hv)
  have HN := Lib.hid hN; have HM := Lib.hid hm
  have HId : Hid (∀ k, k < N → ∃ g o x, A = some ⟨g, o, none⟩ ∧ ids[k]? = some x ∧ ∀ W, Below w.heap.size w W → ∀ j y, ids[j]? = some y → W.cell? ⟨g, o + j, none⟩ = some (.string ⟨y.toArray⟩)) := Lib.hid fun k hk => by
    obtain ⟨g, o, c', e, _, hg⟩ := HV.out.pos (by have := HN.out; omega)
    obtain rfl : A = some ⟨g, o, none⟩ := by cases e; rfl
    refine ⟨g, o, _, rfl, List.getElem?_eq_getElem (by have := HN.out; omega), fun W hW j y hy => ?_⟩
    rw [hW.cell (p := ⟨g, o + j, none⟩) hg]
    exact StrsR.cell HV.out j y hy
  clear hv hN hm hbig hl
  obtain ⟨zs, hzs0⟩ : ∃ z, z = u8s 32 (fun _ => 0) := ⟨_, rfl⟩
  have hzs : ∀ W, (zeroValue 44).run Tryd.prog W = .ok (.agg zs) W := by rw [hzs0]; exact (zero_of_info (n := 32) (by kernel_rfl)).1
  have HSs : Hid (zs.size = 32) := Lib.hid (by rw [hzs0, u8s_size])
  clear hzs0
  have HZ := Lib.hid hzs
  clear hzs
  go_enter Tryd.func12, Tryd.ntmps12
  go_wp2_with fail
  go_loopw [4] (fun i wr => ∃ k : Nat, k ≤ N ∧ i = .int .i64 k ∧ Hid (Below w.heap.size w wr) ∧ Hid ((ids.take k).all namedB = true)) (fun i _ => N - (intOf i).toNat)
  case atStart => exact ⟨0, Nat.zero_le _, rfl, Lib.hid (Below.refl _ _), Lib.hid rfl⟩
  case round =>
    obtain ⟨k, hk, rfl, hB, hnm⟩ := hrel
    by_cases hlt : k < N
    · obtain ⟨g, o, id, rfl, hid, hcell⟩ := HId.out k hlt
      have cid := hcell wr hB.out k id hid
      have hnamed := RNamed_any id wr (HM.out id (List.mem_of_getElem? hid))
      unfold SV at hnamed
      cases hb : namedB id with
      | false =>
        rw [hb] at hnamed
        have HNm := Lib.hid hnamed
        have HE : Hid (putE ids = some 1) := Lib.hid (putE_bad (by have := HN.out; omega) hid hb)
        have LB := Lib.hid hB.out
        clear hnamed hb hid hnm hB hcell HId
        go_wp2_with fail
        refine HNm.out.mono ?_
        rintro e w2 ⟨rfl, rfl⟩
        go_wp2_with fail
        go_ret2
        exact ⟨LB.out, .inl ⟨1, HE.out, rfl⟩⟩
      | true =>
        rw [hb] at hnamed
        have HNm := Lib.hid hnamed
        have HAll : Hid ((ids.take (k + 1)).all namedB = true) := Lib.hid (by rw [List.take_add_one, hid, Option.toList_some, List.all_append, hnm.out]; simp [hb])
        clear hnamed hb hid hnm hcell HId
        go_wp2_with fail
        refine HNm.out.mono ?_
        rintro e w2 ⟨rfl, rfl⟩
        clear HNm cid
        go_wp2_with fail
        go_roundw
        case rel => exact ⟨k + 1, by omega, by go_num, hB, HAll⟩
        case measure => simp [intOf]; omega
    have HAl : Hid (ids.all namedB = true) := Lib.hid (by have h := hnm.out; rw [show k = N by omega, HN.out, List.take_length] at h; exact h)
    have HO0 : Hid (IntO wr w.heap.size (.slice none 0 0) (List.range 0)) := Lib.hid (World.ownsRow_nil wr _ _ _)
    have HB0 := Lib.hid hB.out
    clear hnm hB
    go_wp2_with fail
    go_loopw [6, 7, 8] (fun lv i _ wx => ∃ k : Nat, k ≤ N ∧ i = .int .i64 k ∧ Hid (Below w.heap.size w wx) ∧ Hid (IntO wx w.heap.size lv (List.range k)) ∧ Hid ((ids.take k).Nodup)) (fun _ i _ _ => N - (intOf i).toNat)
    case atStart => exact ⟨0, Nat.zero_le _, rfl, HB0, HO0, Lib.hid List.nodup_nil⟩
    case round =>
      clear HO0 HB0 hlt hk
      obtain ⟨k, hk, rfl, hB, hO, hnd⟩ := hrel
      by_cases hlt : k < N
      · obtain ⟨g, o, id, rfl, hid, hcell⟩ := HId.out k hlt
        have HCell := Lib.hid hcell; have HIdk := Lib.hid hid
        have HBo := Lib.hid hB.out; have HOo := Lib.hid hO.out
        clear hcell hid hB hO
        go_wp2_with fail
        generalize wr = wq at HBo HOo ⊢
        go_loopw [8] (fun j wx => ∃ m : Nat, m ≤ k ∧ j = .int .i64 m ∧ Hid (Below w.heap.size w wx) ∧ Hid (IntO wx w.heap.size u6 (List.range k)) ∧ Hid (∀ q, q < m → ids.getD q [] ≠ ids.getD k [])) (fun j _ => k - (intOf j).toNat)
        case atStart => exact ⟨0, Nat.zero_le _, rfl, HBo, HOo, Lib.hid fun q h => absurd h (Nat.not_lt_zero q)⟩
        case round =>
          clear HBo HOo
          obtain ⟨m, hm, rfl, hB, hO, hne⟩ := hrel
          by_cases hlm : m < k
          · obtain ⟨x, hx⟩ : ∃ x, ids[m]? = some x := ⟨_, List.getElem?_eq_getElem (by have := HN.out; omega)⟩
            have HX := Lib.hid hx
            have LD : Hid (Below w.heap.size w wr.drew) := Lib.hid hB.out.drew
            have OD : Hid (IntO wr.drew w.heap.size u6 (List.range k)) := Lib.hid hO.out
            clear hx
            go_wp2_with fail
            cases hq : decide (x = id) with
            | true =>
              refine AnyB.start (by kernel_rfl) ?_
              refine AnyB.take 0 (.slice (some ⟨g, o, none⟩) N c) rfl (by kernel_rfl) (by kernel_rfl) (by kernel_rfl) (fun _ _ _ h => h) (by kernel_rfl) (fun W hW => by kernel_rfl) ?_
              refine AnyB.take 1 (.int .i64 (m : Int)) rfl (by kernel_rfl) (by kernel_rfl) (by kernel_rfl) (fun _ _ _ h => h) (by kernel_rfl) (fun W hW => by kernel_rfl) ?_
              refine AnyB.take 2 (.pointer (some ⟨g, o + m, none⟩)) rfl (by kernel_rfl) (by kernel_rfl) (by kernel_rfl) (fun _ _ _ h => h) (by kernel_rfl) (fun W hW => y_index (sv := .slice (some ⟨g, o, none⟩) N c) (iv := .int .i64 (m : Int)) rfl (by kernel_rfl) (by kernel_rfl) (at_str W g o N c m (by omega))) ?_
              refine AnyB.take 3 (.string ⟨x.toArray⟩) rfl (by kernel_rfl) (by kernel_rfl) (by kernel_rfl) (fun _ _ _ h => h) (by kernel_rfl) (fun W hW => y_load (sv := .pointer (some ⟨g, o + m, none⟩)) rfl (by kernel_rfl) (ld_s W g (o + m) x (HCell.out W (LD.out.trans (hW.mono LD.out.size)) m x HX.out))) ?_
              refine AnyB.take 4 (.slice (some ⟨g, o, none⟩) N c) rfl (by kernel_rfl) (by kernel_rfl) (by kernel_rfl) (fun _ _ _ h => h) (by kernel_rfl) (fun W hW => by kernel_rfl) ?_
              refine AnyB.take 5 (.int .i64 (k : Int)) rfl (by kernel_rfl) (by kernel_rfl) (by kernel_rfl) (fun _ _ _ h => h) (by kernel_rfl) (fun W hW => by kernel_rfl) ?_
              refine AnyB.take 6 (.pointer (some ⟨g, o + k, none⟩)) rfl (by kernel_rfl) (by kernel_rfl) (by kernel_rfl) (fun _ _ _ h => h) (by kernel_rfl) (fun W hW => y_index (sv := .slice (some ⟨g, o, none⟩) N c) (iv := .int .i64 (k : Int)) rfl (by kernel_rfl) (by kernel_rfl) (at_str W g o N c k hlt)) ?_
              refine AnyB.take 7 (.string ⟨id.toArray⟩) rfl (by kernel_rfl) (by kernel_rfl) (by kernel_rfl) (fun _ _ _ h => h) (by kernel_rfl) (fun W hW => y_load (sv := .pointer (some ⟨g, o + k, none⟩)) rfl (by kernel_rfl) (ld_s W g (o + k) id (HCell.out W (LD.out.trans (hW.mono LD.out.size)) k id HIdk.out))) ?_
              refine AnyB.take 8 (.bool true) rfl (by kernel_rfl) (by kernel_rfl) (by kernel_rfl) (fun _ _ _ h => h) (by kernel_rfl) (fun W hW => y_bin (x := .string ⟨x.toArray⟩) (y := .string ⟨id.toArray⟩) rfl (by kernel_rfl) (by kernel_rfl) rfl (eq_str W x id _ hq)) ?_
              refine AnyB.done _ (by kernel_rfl) ?_
              go_simp
              have HE : Hid (putE ids = some 91) := Lib.hid (putE_two (by have := HN.out; omega) HAl.out fun h => by
                refine twice_not (j := m) (k := k) (by have := HN.out; omega) hlm ?_ ((nodup_raw HAl.out).1 h)
                rw [getD_of HX.out, getD_of HIdk.out]; exact of_decide_eq_true hq)
              clear hq hB hO hne hlm hlt
              go_wp2_with fail
              go_ret2
              exact ⟨LD.out, .inl ⟨91, HE.out, rfl⟩⟩
            | false =>
              refine AnyB.start (by kernel_rfl) ?_
              refine AnyB.take 0 (.slice (some ⟨g, o, none⟩) N c) rfl (by kernel_rfl) (by kernel_rfl) (by kernel_rfl) (fun _ _ _ h => h) (by kernel_rfl) (fun W hW => by kernel_rfl) ?_
              refine AnyB.take 1 (.int .i64 (m : Int)) rfl (by kernel_rfl) (by kernel_rfl) (by kernel_rfl) (fun _ _ _ h => h) (by kernel_rfl) (fun W hW => by kernel_rfl) ?_
              refine AnyB.take 2 (.pointer (some ⟨g, o + m, none⟩)) rfl (by kernel_rfl) (by kernel_rfl) (by kernel_rfl) (fun _ _ _ h => h) (by kernel_rfl) (fun W hW => y_index (sv := .slice (some ⟨g, o, none⟩) N c) (iv := .int .i64 (m : Int)) rfl (by kernel_rfl) (by kernel_rfl) (at_str W g o N c m (by omega))) ?_
              refine AnyB.take 3 (.string ⟨x.toArray⟩) rfl (by kernel_rfl) (by kernel_rfl) (by kernel_rfl) (fun _ _ _ h => h) (by kernel_rfl) (fun W hW => y_load (sv := .pointer (some ⟨g, o + m, none⟩)) rfl (by kernel_rfl) (ld_s W g (o + m) x (HCell.out W (LD.out.trans (hW.mono LD.out.size)) m x HX.out))) ?_
              refine AnyB.take 4 (.slice (some ⟨g, o, none⟩) N c) rfl (by kernel_rfl) (by kernel_rfl) (by kernel_rfl) (fun _ _ _ h => h) (by kernel_rfl) (fun W hW => by kernel_rfl) ?_
              refine AnyB.take 5 (.int .i64 (k : Int)) rfl (by kernel_rfl) (by kernel_rfl) (by kernel_rfl) (fun _ _ _ h => h) (by kernel_rfl) (fun W hW => by kernel_rfl) ?_
              refine AnyB.take 6 (.pointer (some ⟨g, o + k, none⟩)) rfl (by kernel_rfl) (by kernel_rfl) (by kernel_rfl) (fun _ _ _ h => h) (by kernel_rfl) (fun W hW => y_index (sv := .slice (some ⟨g, o, none⟩) N c) (iv := .int .i64 (k : Int)) rfl (by kernel_rfl) (by kernel_rfl) (at_str W g o N c k hlt)) ?_
              refine AnyB.take 7 (.string ⟨id.toArray⟩) rfl (by kernel_rfl) (by kernel_rfl) (by kernel_rfl) (fun _ _ _ h => h) (by kernel_rfl) (fun W hW => y_load (sv := .pointer (some ⟨g, o + k, none⟩)) rfl (by kernel_rfl) (ld_s W g (o + k) id (HCell.out W (LD.out.trans (hW.mono LD.out.size)) k id HIdk.out))) ?_
              refine AnyB.take 8 (.bool false) rfl (by kernel_rfl) (by kernel_rfl) (by kernel_rfl) (fun _ _ _ h => h) (by kernel_rfl) (fun W hW => y_bin (x := .string ⟨x.toArray⟩) (y := .string ⟨id.toArray⟩) rfl (by kernel_rfl) (by kernel_rfl) rfl (eq_str W x id _ hq)) ?_
              refine AnyB.done _ (by kernel_rfl) ?_
              go_simp
              have HNe : Hid (∀ q, q < m + 1 → ids.getD q [] ≠ ids.getD k []) := Lib.hid fun q h => by
                by_cases e : q = m
                · rw [e, getD_of HX.out, getD_of HIdk.out]; exact of_decide_eq_false hq
                · exact hne.out q (by omega)
              clear hq hB hO hne
              go_wp2_with fail
              go_roundw
              case rel => exact ⟨m + 1, by omega, by go_num, LD, OD, HNe⟩
              case measure => simp [intOf]; omega
          have hmk : m = k := by omega
          have HNd : Hid ((ids.take (k + 1)).Nodup) := Lib.hid (take_nodup (by have := HN.out; omega) hnd.out (fun j hj => hne.out j (by omega)))
          have HLen : Hid ((List.range k).length + 1 ≤ 1000000) := Lib.hid (by rw [List.length_range]; omega)
          have HBd := Lib.hid fun W => bld_i W k
          have HNext : Hid (List.range k ++ [k] = List.range (k + 1)) := Lib.hid List.range_succ.symm
          have LB := Lib.hid hB.out; have HO := Lib.hid hO.out
          have hmI : ¬ (m : Int) < (k : Int) := by omega
          clear hne hB hO hmk hlm
          go_wp2_with (refine wpList_bldS rfl 56 1 #[(0, .tmp 51)] rfl #[(0, .int .i64 (k : Int))] (by kernel_rfl) _ (HBd.out _) ?_; refine wpList_one intE rfl (.tmp 50) (.tmp 52) rfl w.heap.size _ (List.range k) k #[.int .i64 (k : Int)] rfl rfl rfl HO.out HLen.out (by decide) LB.out.size ?_)
          intro v5 w5 o5 l5
          have H1 : Hid (Below w.heap.size w w5) := Lib.hid (LB.out.trans l5)
          have H2 : Hid (IntO w5 w.heap.size v5 (List.range (k + 1))) := Lib.hid (by rw [← HNext.out]; exact o5)
          clear l5 o5 hmI
          go_wp2_with fail
          go_roundw
          case rel => exact ⟨k + 1, by omega, by go_num, H1, H2, HNd⟩
          case measure => simp [intOf]; omega
      have HNd : Hid (ids.Nodup) := Lib.hid (by have h := hnd.out; rw [show k = N by omega, HN.out, List.take_length] at h; exact h)
      have HL : Hid (IntO wr w.heap.size u6 (List.range N)) := Lib.hid (by have h := hO.out; rw [show k = N by omega] at h; exact h)
      have HB1 := Lib.hid hB.out
      have HO1 : Hid (Dl.Ow wr w.heap.size (.slice none 0 0) (headI ids 0)) := Lib.hid ⟨by simp [headI], .inl ⟨rfl, by simp [headI]⟩⟩
      clear hnd hO hB
      go_wp2_with fail
      go_loopw [5, 9, 10, 11] (fun ov cv _ _ wx => ∃ k : Nat, k ≤ 256 ∧ cv = .int .i64 k ∧ Hid (Below w.heap.size w wx) ∧ Hid (Dl.Ow wx w.heap.size ov (headI ids k)) ∧ Hid (IntO wx w.heap.size u6 (List.range N))) (fun _ cv _ _ _ => 256 - (intOf cv).toNat)
      case atStart => exact ⟨0, by omega, rfl, HB1, HO1, HL⟩
      case round =>
        clear HO1 HB1 HL hlt hk
        obtain ⟨k, hk, rfl, hB, hO, hL⟩ := hrel
        by_cases hlt : k < 256
        · have hltI : (k : Int) < 256 := by omega
          have HBo := Lib.hid hB.out; have HOo := Lib.hid hO.out; have HLo := Lib.hid hL.out
          clear hB hO hL
          go_wp2_with fail
          generalize wr = wq at HBo HOo HLo ⊢
          go_loopw [10, 11] (fun nv iv wx => ∃ q n : Nat, q ≤ N ∧ n ≤ q ∧ iv = .int .i64 q ∧ nv = .int .i64 n ∧ Hid (n = cntI ids k q) ∧ Hid (Below w.heap.size w wx) ∧ Hid (Dl.Ow wx w.heap.size u5 (headI ids k)) ∧ Hid (IntO wx w.heap.size u6 (List.range N))) (fun _ iv _ => N - (intOf iv).toNat)
          case atStart => exact ⟨0, 0, Nat.zero_le _, Nat.le_refl _, rfl, rfl, Lib.hid (by unfold cntI upToI; simp), HBo, HOo, HLo⟩
          case round =>
            clear HBo HOo HLo
            obtain ⟨q, n, hq, hnq, rfl, rfl, hn, hB, hO, hL⟩ := hrel
            by_cases hlq : q < N
            · obtain ⟨g, o, id, rfl, hid, hcell⟩ := HId.out q hlq
              have cid := hcell wr hB.out q id hid
              have hnam : namedB id = true := List.all_eq_true.1 HAl.out _ (List.mem_of_getElem? hid)
              have HRw := Lib.hid (Rraw_any wr id hnam)
              have HCn := Lib.hid (cntI_succ (c := k) hid)
              clear hid hcell hnam HId
              unfold SV at HRw
              go_wp2_with fail
              refine HRw.out.mono ?_
              rintro e w2 ⟨l2, v2, rfl, o2⟩
              obtain ⟨x, hx⟩ : ∃ x, x = (rawL id).getD 0 0 := ⟨_, rfl⟩
              have hr2 := Dl.Ow.rb o2
              obtain ⟨g2, o2', c2, hv2, hc2, hg2, hcl2⟩ : ∃ g2 o2' c2, v2 = .slice (some ⟨g2, o2', none⟩) 32 c2 ∧ 32 ≤ c2 ∧ g2 < w2.heap.size ∧ w2.cell? ⟨g2, o2', none⟩ = some (.int .u8 (x.toNat : Int)) := by
                rcases hr2 with ⟨_, h0⟩ | ⟨g2, o2', c2, e, hc, hg, hcell⟩
                · have := raw_first id; rw [h0] at this; cases this
                · rw [rawL_len] at e hc
                  refine ⟨g2, o2', c2, e, hc, hg, ?_⟩
                  have := hcell 0 (raw_first id)
                  rw [Nat.add_zero] at this
                  rw [this, hx]
              subst hv2
              have H1 : Hid (Below w.heap.size w w2) := Lib.hid (hB.out.trans (l2.mono hB.out.size))
              have H2 : Hid (Dl.Ow w2 w.heap.size u5 (headI ids k)) := Lib.hid (hO.out.below l2 (Nat.le_refl _))
              have H3 : Hid (IntO w2 w.heap.size u6 (List.range N)) := Lib.hid (OwK.below hL.out l2 (Nat.le_refl _))
              rw [← hx] at HCn
              have hx256 := x.toNat_lt
              have hw8 : IntKind.i64.wrap (x.toNat : Int) = (x.toNat : Int) := IntWalk.i64_in _ (by omega)
              clear l2 o2 hr2 hg2 hc2 hx hB hO hL HRw cid
              by_cases hle : x.toNat ≤ k
              · have hleI : (x.toNat : Int) ≤ (k : Int) := by omega
                have HN2 : Hid (n + 1 = cntI ids k (q + 1)) := Lib.hid (by rw [HCn.out, if_pos hle, hn.out])
                clear hn HCn hle
                go_wp2_with fail
                clear hcl2 hw8 hleI hx256
                go_roundw
                case rel => exact ⟨q + 1, n + 1, by omega, by omega, by go_num, by go_num, HN2, H1, H2, H3⟩
                case measure => simp [intOf]; omega
              · have hleI : ¬ (x.toNat : Int) ≤ (k : Int) := by omega
                have HN2 : Hid (n = cntI ids k (q + 1)) := Lib.hid (by rw [HCn.out, if_neg hle, Nat.add_zero, hn.out])
                clear hn HCn hle
                go_wp2_with fail
                clear hcl2 hw8 hleI hx256
                go_roundw
                case rel => exact ⟨q + 1, n, by omega, by omega, by go_num, rfl, HN2, H1, H2, H3⟩
                case measure => simp [intOf]; omega
            have HNu : Hid (n = upToI ids k) := Lib.hid (by rw [hn.out, show q = N by omega, HN.out, cntI_all])
            have hqI : ¬ (q : Int) < (N : Int) := by omega
            have HTw := Lib.hid (Rtwo_any wr n (by omega))
            clear hn hlq
            go_wp2_with fail
            refine HTw.out.mono ?_
            rintro e w2 ⟨l2, v2, rfl, o2⟩
            have O2 : Hid (Dl.Ow w2 w.heap.size u5 (headI ids k)) := Lib.hid (hO.out.below l2 (Nat.le_refl _))
            have L2 : Hid (IntO w2 w.heap.size u6 (List.range N)) := Lib.hid (OwK.below hL.out l2 (Nat.le_refl _))
            have B2 : Hid (Below w.heap.size w w2) := Lib.hid (hB.out.trans (l2.mono hB.out.size))
            have R2 := Lib.hid (Dl.Ow.rb o2)
            have Q2 : Hid ((headI ids k).length + (num2 n).length ≤ 140737488355328) := Lib.hid (by rw [headI_len, num2_len]; omega)
            have HR : Hid (headI ids (k + 1) = headI ids k ++ num2 n) := Lib.hid (by rw [headI_succ, HNu.out])
            clear l2 o2 hO hL hB HTw HNu hqI
            go_wp2_with (refine wpList_app' (o := ⟨some 79, _, _, _, _, _⟩) rfl _ _ rfl w.heap.size _ _ (headI ids k) (num2 n) rfl rfl O2.out R2.out Q2.out B2.out.size HR.out ?_)
            intro v5 w5 o5 f5
            have H1 : Hid (Below w.heap.size w w5) := Lib.hid (B2.out.trans (app_own f5 (ow_ge O2.out) B2.out.size))
            have H2 := Lib.hid o5
            have H3 : Hid (IntO w5 w.heap.size u6 (List.range N)) := Lib.hid (int_apart L2.out O2.out f5)
            clear o5 f5 O2 L2 B2 R2 Q2 HR
            go_wp2_with fail
            go_roundw
            case rel => exact ⟨k + 1, by omega, by go_num, H1, H2, H3⟩
            case measure => simp [intOf]; omega
        have h256 : k = 256 := by omega
        have HO2 : Hid (Dl.Ow wr w.heap.size u5 (headI ids 256 ++ bodyL [])) := Lib.hid (by
          have h := hO.out
          rw [h256] at h
          have e : bodyL [] = [] := rfl
          rw [e, List.append_nil]; exact h)
        have HSel : Hid (Sel ids [] (List.range N)) := Lib.hid (by rw [HN.out]; exact Sel.start)
        have HB2 := Lib.hid hB.out; have HL2 := Lib.hid hL.out
        have hkI : ¬ (k : Int) < 256 := by omega
        clear hO hB hL h256
        go_wp2_with fail
        go_loopw [5, 6, 12, 13] (fun ov lv _ _ wx => ∃ (D : List Rw) (l : List Nat), Hid (Sel ids D l) ∧ Hid (Below w.heap.size w wx) ∧ Hid (Dl.Ow wx w.heap.size ov (headI ids 256 ++ bodyL D)) ∧ Hid (IntO wx w.heap.size lv l)) (fun _ lv _ _ _ => slen lv)
        case atStart => exact ⟨[], _, HSel, HB2, HO2, HL2⟩
        case round =>
          clear HSel HB2 HO2 HL2 hkI hlt hk
          obtain ⟨D, l, hS, hB, hO, hL⟩ := hrel
          obtain ⟨AL, cL, rfl⟩ := hL.out.shape
          obtain ⟨M, hM⟩ : ∃ M, M = l.length := ⟨_, rfl⟩
          rw [← hM] at hL ⊢
          have HMl := Lib.hid hM
          have hMN : M ≤ N := by have := hS.out.len; rw [← HN.out] at this; omega
          clear hM
          by_cases hM0 : 0 < M
          · obtain ⟨gl, rfl, -, hMc, hgl, hcl⟩ := hL.out.cell hM0
            have hMI : (0 : Int) < (M : Int) := by omega
            have HCl := Lib.hid hcl; have HMc := Lib.hid hMc
            obtain ⟨g, o, id0, rfl, -, hcell⟩ := HId.out 0 (by omega)
            have HCell := Lib.hid hcell
            have HMin0 : Hid (MinTo ids l 1 0) := Lib.hid (MinTo.start (by rw [← HMl.out]; exact hM0))
            clear hMc hgl hcl hcell
            go_wp2_with fail
            have HBq : Hid (Below wr.heap.size wr wr) := Lib.hid (Below.refl _ _)
            have HB5 := Lib.hid hB.out; have HO5 := Lib.hid hO.out; have HL5 := Lib.hid hL.out
            clear hB hO hL
            generalize wr = wq at HBq HCl HB5 HO5 HL5 ⊢
            go_loopw [12, 13] (fun bv iv wx => ∃ b i : Nat, i ≤ M ∧ b < M ∧ iv = .int .i64 i ∧ bv = .int .i64 b ∧ Hid (MinTo ids l i b) ∧ Hid (Below wq.heap.size wq wx)) (fun _ iv _ => M - (intOf iv).toNat)
            case atStart => exact ⟨0, 1, hM0, hM0, rfl, rfl, HMin0, HBq⟩
            case round =>
              clear HMin0 HBq
              obtain ⟨b, i, hi, hb, rfl, rfl, hmn, hBq⟩ := hrel
              have hpl : ∀ j, j < M → l.getD j 0 < N := fun j hj => by
                have h := hS.out.lt (l.getD j 0) (by rw [List.getD_eq_getElem?_getD, List.getElem?_eq_getElem (by rw [← HMl.out]; exact hj)]; exact List.getElem_mem _)
                rw [HN.out]; exact h
              by_cases hlt : i < M
              · obtain ⟨pi, hpi⟩ : ∃ p, p = l.getD i 0 := ⟨_, rfl⟩
                obtain ⟨pb, hpb⟩ : ∃ p, p = l.getD b 0 := ⟨_, rfl⟩
                have hpiN := hpl i hlt; have hpbN := hpl b hb
                rw [← hpi] at hpiN
                rw [← hpb] at hpbN
                have HPi : Hid (∀ W, Below wq.heap.size wq W → W.cell? ⟨gl, i, none⟩ = some (.int .i64 (pi : Int))) := Lib.hid fun W hW => by rw [hpi]; exact HCl.out W hW i hlt
                have HPb : Hid (∀ W, Below wq.heap.size wq W → W.cell? ⟨gl, b, none⟩ = some (.int .i64 (pb : Int))) := Lib.hid fun W hW => by rw [hpb]; exact HCl.out W hW b hb
                obtain ⟨x, hx⟩ : ∃ x, ids[pi]? = some x := ⟨_, List.getElem?_eq_getElem (by have := HN.out; omega)⟩
                obtain ⟨y, hy⟩ : ∃ y, ids[pb]? = some y := ⟨_, List.getElem?_eq_getElem (by have := HN.out; omega)⟩
                have HXi := Lib.hid hx; have HXb := Lib.hid hy
                have HLess : Hid (x < y → MinTo ids l (i + 1) i) := Lib.hid fun h => hmn.out.less (by rw [← HMl.out]; exact hlt) (by rw [← hpi, ← hpb, getD_of hx, getD_of hy]; exact h)
                have HKeep : Hid (¬ x < y → MinTo ids l (i + 1) b) := Lib.hid fun h => hmn.out.keep (by rw [← hpi, ← hpb, getD_of hx, getD_of hy]; exact h)
                have LDq : Hid (Below wq.heap.size wq wr.drew) := Lib.hid hBq.out.drew
                have LD : Hid (Below w.heap.size w wr.drew) := Lib.hid (HB5.out.trans (hBq.out.drew.mono HB5.out.size))
                clear hpi hpb hx hy hpl hmn hBq
                go_wp2_with fail
                cases hq : decide (x < y) with
                | true =>
                  refine AnyB.start (by kernel_rfl) ?_
                  refine AnyB.take 0 (.slice (some ⟨g, o, none⟩) N c) rfl (by kernel_rfl) (by kernel_rfl) (by kernel_rfl) (fun _ _ _ h => h) (by kernel_rfl) (fun W hW => by kernel_rfl) ?_
                  refine AnyB.take 1 (.slice (some ⟨gl, 0, none⟩) M cL) rfl (by kernel_rfl) (by kernel_rfl) (by kernel_rfl) (fun _ _ _ h => h) (by kernel_rfl) (fun W hW => by kernel_rfl) ?_
                  refine AnyB.take 2 (.int .i64 (i : Int)) rfl (by kernel_rfl) (by kernel_rfl) (by kernel_rfl) (fun _ _ _ h => h) (by kernel_rfl) (fun W hW => by kernel_rfl) ?_
                  refine AnyB.take 3 (.pointer (some ⟨gl, i, none⟩)) rfl (by kernel_rfl) (by kernel_rfl) (by kernel_rfl) (fun _ _ _ h => h) (by kernel_rfl) (fun W hW => y_index (sv := .slice (some ⟨gl, 0, none⟩) M cL) (iv := .int .i64 (i : Int)) rfl (by kernel_rfl) (by kernel_rfl) (at_i W gl M cL i (by omega))) ?_
                  refine AnyB.take 4 (.int .i64 (pi : Int)) rfl (by kernel_rfl) (by kernel_rfl) (by kernel_rfl) (fun _ _ _ h => h) (by kernel_rfl) (fun W hW => y_load (sv := .pointer (some ⟨gl, i, none⟩)) rfl (by kernel_rfl) (ld_i W gl i pi (HPi.out W (LDq.out.trans (hW.mono LDq.out.size))))) ?_
                  refine AnyB.take 5 (.pointer (some ⟨g, o + pi, none⟩)) rfl (by kernel_rfl) (by kernel_rfl) (by kernel_rfl) (fun _ _ _ h => h) (by kernel_rfl) (fun W hW => y_index (sv := .slice (some ⟨g, o, none⟩) N c) (iv := .int .i64 (pi : Int)) rfl (by kernel_rfl) (by kernel_rfl) (at_str W g o N c pi hpiN)) ?_
                  refine AnyB.take 6 (.string ⟨x.toArray⟩) rfl (by kernel_rfl) (by kernel_rfl) (by kernel_rfl) (fun _ _ _ h => h) (by kernel_rfl) (fun W hW => y_load (sv := .pointer (some ⟨g, o + pi, none⟩)) rfl (by kernel_rfl) (ld_s W g (o + pi) x (HCell.out W (LD.out.trans (hW.mono LD.out.size)) pi x HXi.out))) ?_
                  refine AnyB.take 7 (.slice (some ⟨g, o, none⟩) N c) rfl (by kernel_rfl) (by kernel_rfl) (by kernel_rfl) (fun _ _ _ h => h) (by kernel_rfl) (fun W hW => by kernel_rfl) ?_
                  refine AnyB.take 8 (.slice (some ⟨gl, 0, none⟩) M cL) rfl (by kernel_rfl) (by kernel_rfl) (by kernel_rfl) (fun _ _ _ h => h) (by kernel_rfl) (fun W hW => by kernel_rfl) ?_
                  refine AnyB.take 9 (.int .i64 (b : Int)) rfl (by kernel_rfl) (by kernel_rfl) (by kernel_rfl) (fun _ _ _ h => h) (by kernel_rfl) (fun W hW => by kernel_rfl) ?_
                  refine AnyB.take 10 (.pointer (some ⟨gl, b, none⟩)) rfl (by kernel_rfl) (by kernel_rfl) (by kernel_rfl) (fun _ _ _ h => h) (by kernel_rfl) (fun W hW => y_index (sv := .slice (some ⟨gl, 0, none⟩) M cL) (iv := .int .i64 (b : Int)) rfl (by kernel_rfl) (by kernel_rfl) (at_i W gl M cL b (by omega))) ?_
                  refine AnyB.take 11 (.int .i64 (pb : Int)) rfl (by kernel_rfl) (by kernel_rfl) (by kernel_rfl) (fun _ _ _ h => h) (by kernel_rfl) (fun W hW => y_load (sv := .pointer (some ⟨gl, b, none⟩)) rfl (by kernel_rfl) (ld_i W gl b pb (HPb.out W (LDq.out.trans (hW.mono LDq.out.size))))) ?_
                  refine AnyB.take 12 (.pointer (some ⟨g, o + pb, none⟩)) rfl (by kernel_rfl) (by kernel_rfl) (by kernel_rfl) (fun _ _ _ h => h) (by kernel_rfl) (fun W hW => y_index (sv := .slice (some ⟨g, o, none⟩) N c) (iv := .int .i64 (pb : Int)) rfl (by kernel_rfl) (by kernel_rfl) (at_str W g o N c pb hpbN)) ?_
                  refine AnyB.take 13 (.string ⟨y.toArray⟩) rfl (by kernel_rfl) (by kernel_rfl) (by kernel_rfl) (fun _ _ _ h => h) (by kernel_rfl) (fun W hW => y_load (sv := .pointer (some ⟨g, o + pb, none⟩)) rfl (by kernel_rfl) (ld_s W g (o + pb) y (HCell.out W (LD.out.trans (hW.mono LD.out.size)) pb y HXb.out))) ?_
                  refine AnyB.take 14 (.bool true) rfl (by kernel_rfl) (by kernel_rfl) (by kernel_rfl) (fun _ _ _ h => h) (by kernel_rfl) (fun W hW => y_bin (x := .string ⟨x.toArray⟩) (y := .string ⟨y.toArray⟩) rfl (by kernel_rfl) (by kernel_rfl) rfl (lss_strP W x y _ hq)) ?_
                  refine AnyB.done _ (by kernel_rfl) ?_
                  go_simp
                  have H1 := Lib.hid (HLess.out (of_decide_eq_true hq))
                  clear hq HLess HKeep
                  go_wp2_with fail
                  go_roundw
                  case rel => exact ⟨i, i + 1, by omega, hlt, by go_num, rfl, H1, LDq⟩
                  case measure => simp [intOf]; omega
                | false =>
                  refine AnyB.start (by kernel_rfl) ?_
                  refine AnyB.take 0 (.slice (some ⟨g, o, none⟩) N c) rfl (by kernel_rfl) (by kernel_rfl) (by kernel_rfl) (fun _ _ _ h => h) (by kernel_rfl) (fun W hW => by kernel_rfl) ?_
                  refine AnyB.take 1 (.slice (some ⟨gl, 0, none⟩) M cL) rfl (by kernel_rfl) (by kernel_rfl) (by kernel_rfl) (fun _ _ _ h => h) (by kernel_rfl) (fun W hW => by kernel_rfl) ?_
                  refine AnyB.take 2 (.int .i64 (i : Int)) rfl (by kernel_rfl) (by kernel_rfl) (by kernel_rfl) (fun _ _ _ h => h) (by kernel_rfl) (fun W hW => by kernel_rfl) ?_
                  refine AnyB.take 3 (.pointer (some ⟨gl, i, none⟩)) rfl (by kernel_rfl) (by kernel_rfl) (by kernel_rfl) (fun _ _ _ h => h) (by kernel_rfl) (fun W hW => y_index (sv := .slice (some ⟨gl, 0, none⟩) M cL) (iv := .int .i64 (i : Int)) rfl (by kernel_rfl) (by kernel_rfl) (at_i W gl M cL i (by omega))) ?_
                  refine AnyB.take 4 (.int .i64 (pi : Int)) rfl (by kernel_rfl) (by kernel_rfl) (by kernel_rfl) (fun _ _ _ h => h) (by kernel_rfl) (fun W hW => y_load (sv := .pointer (some ⟨gl, i, none⟩)) rfl (by kernel_rfl) (ld_i W gl i pi (HPi.out W (LDq.out.trans (hW.mono LDq.out.size))))) ?_
                  refine AnyB.take 5 (.pointer (some ⟨g, o + pi, none⟩)) rfl (by kernel_rfl) (by kernel_rfl) (by kernel_rfl) (fun _ _ _ h => h) (by kernel_rfl) (fun W hW => y_index (sv := .slice (some ⟨g, o, none⟩) N c) (iv := .int .i64 (pi : Int)) rfl (by kernel_rfl) (by kernel_rfl) (at_str W g o N c pi hpiN)) ?_
                  refine AnyB.take 6 (.string ⟨x.toArray⟩) rfl (by kernel_rfl) (by kernel_rfl) (by kernel_rfl) (fun _ _ _ h => h) (by kernel_rfl) (fun W hW => y_load (sv := .pointer (some ⟨g, o + pi, none⟩)) rfl (by kernel_rfl) (ld_s W g (o + pi) x (HCell.out W (LD.out.trans (hW.mono LD.out.size)) pi x HXi.out))) ?_
                  refine AnyB.take 7 (.slice (some ⟨g, o, none⟩) N c) rfl (by kernel_rfl) (by kernel_rfl) (by kernel_rfl) (fun _ _ _ h => h) (by kernel_rfl) (fun W hW => by kernel_rfl) ?_
                  refine AnyB.take 8 (.slice (some ⟨gl, 0, none⟩) M cL) rfl (by kernel_rfl) (by kernel_rfl) (by kernel_rfl) (fun _ _ _ h => h) (by kernel_rfl) (fun W hW => by kernel_rfl) ?_
                  refine AnyB.take 9 (.int .i64 (b : Int)) rfl (by kernel_rfl) (by kernel_rfl) (by kernel_rfl) (fun _ _ _ h => h) (by kernel_rfl) (fun W hW => by kernel_rfl) ?_
                  refine AnyB.take 10 (.pointer (some ⟨gl, b, none⟩)) rfl (by kernel_rfl) (by kernel_rfl) (by kernel_rfl) (fun _ _ _ h => h) (by kernel_rfl) (fun W hW => y_index (sv := .slice (some ⟨gl, 0, none⟩) M cL) (iv := .int .i64 (b : Int)) rfl (by kernel_rfl) (by kernel_rfl) (at_i W gl M cL b (by omega))) ?_
                  refine AnyB.take 11 (.int .i64 (pb : Int)) rfl (by kernel_rfl) (by kernel_rfl) (by kernel_rfl) (fun _ _ _ h => h) (by kernel_rfl) (fun W hW => y_load (sv := .pointer (some ⟨gl, b, none⟩)) rfl (by kernel_rfl) (ld_i W gl b pb (HPb.out W (LDq.out.trans (hW.mono LDq.out.size))))) ?_
                  refine AnyB.take 12 (.pointer (some ⟨g, o + pb, none⟩)) rfl (by kernel_rfl) (by kernel_rfl) (by kernel_rfl) (fun _ _ _ h => h) (by kernel_rfl) (fun W hW => y_index (sv := .slice (some ⟨g, o, none⟩) N c) (iv := .int .i64 (pb : Int)) rfl (by kernel_rfl) (by kernel_rfl) (at_str W g o N c pb hpbN)) ?_
                  refine AnyB.take 13 (.string ⟨y.toArray⟩) rfl (by kernel_rfl) (by kernel_rfl) (by kernel_rfl) (fun _ _ _ h => h) (by kernel_rfl) (fun W hW => y_load (sv := .pointer (some ⟨g, o + pb, none⟩)) rfl (by kernel_rfl) (ld_s W g (o + pb) y (HCell.out W (LD.out.trans (hW.mono LD.out.size)) pb y HXb.out))) ?_
                  refine AnyB.take 14 (.bool false) rfl (by kernel_rfl) (by kernel_rfl) (by kernel_rfl) (fun _ _ _ h => h) (by kernel_rfl) (fun W hW => y_bin (x := .string ⟨x.toArray⟩) (y := .string ⟨y.toArray⟩) rfl (by kernel_rfl) (by kernel_rfl) rfl (lss_strP W x y _ hq)) ?_
                  refine AnyB.done _ (by kernel_rfl) ?_
                  go_simp
                  have H1 := Lib.hid (HKeep.out (of_decide_eq_false hq))
                  clear hq HLess HKeep
                  go_wp2_with fail
                  go_roundw
                  case rel => exact ⟨b, i + 1, by omega, hb, by go_num, rfl, H1, LDq⟩
                  case measure => simp [intOf]; omega
              have HMin : Hid (MinTo ids l l.length b) := Lib.hid (by have h := hmn.out; rw [show i = l.length by have := HMl.out; omega] at h; exact h)
              have hiI : ¬ (i : Int) < (M : Int) := by omega
              obtain ⟨q, hq⟩ : ∃ q, q = l.getD b 0 := ⟨_, rfl⟩
              have hqN := hpl b hb
              have HQb := Lib.hid hq
              rw [← hq] at hqN
              obtain ⟨id, hid⟩ : ∃ x, ids[q]? = some x := ⟨_, List.getElem?_eq_getElem (by have := HN.out; omega)⟩
              have hc1 : wr.cell? ⟨gl, b, none⟩ = some (.int .i64 (q : Int)) := by rw [hq]; exact HCl.out wr hBq.out b hb
              have HBw : Hid (Below w.heap.size w wr) := Lib.hid (HB5.out.trans (hBq.out.mono HB5.out.size))
              have hc2 := HCell.out wr HBw.out q id hid
              have hnam : namedB id = true := List.all_eq_true.1 HAl.out _ (List.mem_of_getElem? hid)
              have HRw := Lib.hid (Rraw_any wr id hnam)
              unfold SV at HRw
              have HS2 : Hid (Sel ids (D ++ [rowN ids q]) (l.take b ++ l.drop (b + 1))) := Lib.hid (by
                have h := hS.out.step HAl.out HNd.out HMin.out
                rw [← hq] at h; exact h)
              have HRq : Hid ((rowN ids q).sum = rawL id ∧ (rowN ids q).place = q) := Lib.hid ⟨by show rawL (ids.getD q []) = _; rw [getD_of hid], rfl⟩
              have HOq : Hid (Dl.Ow wr w.heap.size u5 (headI ids 256 ++ bodyL D)) := Lib.hid (HO5.out.below hBq.out (Nat.le_refl _))
              have HLq : Hid (IntO wr w.heap.size (.slice (some ⟨gl, 0, none⟩) M cL) l) := Lib.hid (OwK.below HL5.out hBq.out (Nat.le_refl _))
              have HDl : Hid (D.length ≤ 512 ∧ ∀ r ∈ D, r.sum.length ≤ 32) := Lib.hid ⟨by have := hS.out.len; have := HN.out; omega, fun r hr => Nat.le_of_eq (hS.out.fit r hr)⟩
              clear hmn hBq hpl hlt hi hid hnam hq HB5 HO5 HL5 HMin
              go_wp2_with fail
              refine HRw.out.mono ?_
              rintro e w2 ⟨l2, v2, rfl, o2⟩
              have O2 : Hid (Dl.Ow w2 w.heap.size u5 (headI ids 256 ++ bodyL D)) := Lib.hid (HOq.out.below l2 (Nat.le_refl _))
              have L2 : Hid (IntO w2 w.heap.size (.slice (some ⟨gl, 0, none⟩) M cL) l) := Lib.hid (OwK.below HLq.out l2 (Nat.le_refl _))
              have B2 : Hid (Below w.heap.size w w2) := Lib.hid (HBw.out.trans (l2.mono HBw.out.size))
              have R2 := Lib.hid (Dl.Ow.rb o2)
              have Q2 : Hid ((headI ids 256 ++ bodyL D).length + (rawL id).length ≤ 140737488355328) := Lib.hid (by rw [List.length_append, headI_len, rawL_len]; have := bodyL_le D HDl.out.2; have := HDl.out.1; omega)
              obtain ⟨s1, hs1⟩ : ∃ s, s = headI ids 256 ++ bodyL D ++ rawL id := ⟨_, rfl⟩
              have HR := Lib.hid hs1
              clear l2 o2 HOq HLq HBw HRw hc1 hc2 hs1
              go_wp2_with (refine wpList_app' (o := ⟨some 114, _, _, _, _, _⟩) rfl _ _ rfl w.heap.size _ _ (headI ids 256 ++ bodyL D) (rawL id) rfl rfl O2.out R2.out Q2.out B2.out.size HR.out ?_)
              intro v3 w3 o3 f3
              obtain ⟨A3, N3, c3, rfl, -⟩ := own_shape o3
              have O3 := Lib.hid o3
              have L3 : Hid (IntO w3 w.heap.size (.slice (some ⟨gl, 0, none⟩) M cL) l) := Lib.hid (int_apart L2.out O2.out f3)
              have B3 : Hid (Below w.heap.size w w3) := Lib.hid (B2.out.trans (app_own f3 (ow_ge O2.out) B2.out.size))
              clear o3 f3 O2 L2 B2 R2 Q2
              obtain ⟨gl', e', -, -, -, hcl3⟩ := L3.out.cell hM0
              obtain rfl : gl' = gl := by cases e'; rfl
              have hc1 : w3.cell? ⟨gl', b, none⟩ = some (.int .i64 (q : Int)) := by rw [hcl3 w3 (Below.refl _ _) b hb, ← HQb.out]
              have HTw := Lib.hid (Rtwo_any w3 q (by omega))
              clear e' hcl3
              go_wp2_with fail
              refine HTw.out.mono ?_
              rintro e w4 ⟨l4, v4, rfl, o4⟩
              have O4 : Hid (Dl.Ow w4 w.heap.size (.slice A3 N3 c3) s1) := Lib.hid (O3.out.below l4 (Nat.le_refl _))
              have L4 : Hid (IntO w4 w.heap.size (.slice (some ⟨gl', 0, none⟩) M cL) l) := Lib.hid (OwK.below L3.out l4 (Nat.le_refl _))
              have B4 : Hid (Below w.heap.size w w4) := Lib.hid (B3.out.trans (l4.mono B3.out.size))
              have R4 := Lib.hid (Dl.Ow.rb o4)
              have Q4 : Hid (s1.length + (num2 q).length ≤ 140737488355328) := Lib.hid (by rw [HR.out, List.length_append, List.length_append, headI_len, rawL_len, num2_len]; have := bodyL_le D HDl.out.2; have := HDl.out.1; omega)
              have HR4 : Hid (headI ids 256 ++ bodyL (D ++ [rowN ids q]) = s1 ++ num2 q) := Lib.hid (by rw [bodyL_snocR, HR.out, HRq.out.1, HRq.out.2]; simp [List.append_assoc])
              clear l4 o4 O3 L3 B3 HTw hc1
              go_wp2_with (refine wpList_app' (o := ⟨some 121, _, _, _, _, _⟩) rfl _ _ rfl w.heap.size _ _ s1 (num2 q) rfl rfl O4.out R4.out Q4.out B4.out.size HR4.out ?_)
              intro v5 w5 o5 f5
              obtain ⟨A5, N5, c5, rfl, -⟩ := own_shape o5
              have O5 := Lib.hid o5
              have L5 : Hid (IntO w5 w.heap.size (.slice (some ⟨gl', 0, none⟩) M cL) l) := Lib.hid (int_apart L4.out O4.out f5)
              have B5 : Hid (Below w.heap.size w w5) := Lib.hid (B4.out.trans (app_own f5 (ow_ge O4.out) B4.out.size))
              clear o5 f5 O4 L4 B4 R4 Q4 HR4 HR
              go_wp2_with fail
              obtain ⟨gl9, e', -, -, hgl5, hcl5⟩ := L5.out.cell hM0
              obtain rfl : gl' = gl9 := by cases e'; rfl
              obtain ⟨Ah, hsl, hAh⟩ := icut_hi gl' M cL (b + 1) (by omega) HMc.out
              have HSl := Lib.hid hsl; have HAh := Lib.hid hAh; have HC5 := Lib.hid hcl5
              clear e' hgl5 hcl5 hsl hAh
              refine AnyK.start w5.heap.size w5 (by kernel_rfl) ?_
              have LD : Hid (Below w5.heap.size w5 w5.drew) := Lib.hid (Below.refl _ _).drew
              generalize w5.drew = wd at LD ⊢
              refine AnyK.take 1 (.slice (some ⟨gl', 0, none⟩) M cL) LD.out rfl (by kernel_rfl) (by kernel_rfl) (by kernel_rfl) (fun _ _ _ h => h) (by kernel_rfl) (fun W hW => by kernel_rfl) ?_
              refine AnyK.take 2 (.int .i64 (b : Int)) LD.out rfl (by kernel_rfl) (by kernel_rfl) (by kernel_rfl) (fun _ _ _ h => h) (by kernel_rfl) (fun W hW => by kernel_rfl) ?_
              refine AnyK.take 3 (.slice (some ⟨gl', 0, none⟩) b cL) LD.out rfl (by kernel_rfl) (by kernel_rfl) (by kernel_rfl) (fun _ _ _ h => h) (by kernel_rfl) (fun W hW => y_slice (xv := .slice (some ⟨gl', 0, none⟩) M cL) (lv := none) (hv := some (.int .i64 (b : Int))) (mv := none) rfl (by kernel_rfl) rfl (by kernel_rfl) rfl (icut_lo W gl' M cL b (by have := HMc.out; omega))) ?_
              refine AnyK.take 5 (.slice (some ⟨gl', 0, none⟩) M cL) LD.out rfl (by kernel_rfl) (by kernel_rfl) (by kernel_rfl) (fun _ _ _ h => h) (by kernel_rfl) (fun W hW => by kernel_rfl) ?_
              refine AnyK.take 6 (.int .i64 (b : Int)) LD.out rfl (by kernel_rfl) (by kernel_rfl) (by kernel_rfl) (fun _ _ _ h => h) (by kernel_rfl) (fun W hW => by kernel_rfl) ?_
              refine AnyK.take 7 (.int .i64 ((b + 1 : Nat) : Int)) LD.out rfl (by kernel_rfl) (by kernel_rfl) (by kernel_rfl) (fun _ _ _ h => h) (by kernel_rfl) (fun W hW => y_bin (x := .int .i64 (b : Int)) (y := .int .i64 1) rfl (by kernel_rfl) (by kernel_rfl) rfl (run_inc W b (by omega))) ?_
              refine AnyK.take 8 (.slice (some Ah) (M - (b + 1)) (cL - (b + 1))) LD.out rfl (by kernel_rfl) (by kernel_rfl) (by kernel_rfl) (fun _ _ _ h => h) (by kernel_rfl) (fun W hW => y_slice (xv := .slice (some ⟨gl', 0, none⟩) M cL) (lv := some (.int .i64 ((b + 1 : Nat) : Int))) (hv := none) (mv := none) rfl (by kernel_rfl) (by kernel_rfl) rfl rfl (HSl.out W)) ?_
              have P0 := below_alloc wd (.cells #[] 3)
              have hn := OwK.new0 (t := 3) (k := 1) (f := intC) wd wd.heap.size (Nat.le_refl _)
              refine AnyK.op 0 (.slice (some ⟨wd.heap.size, 0, none⟩) 0 0) (wd.alloc (.cells #[] 3)) (by kernel_rfl) rfl (by kernel_rfl) (y_build rfl (by kernel_rfl) (bld_i0 wd)) (LD.out.trans (P0.mono LD.out.size)) ?_
              generalize wd.alloc (.cells #[] 3) = wa at P0 hn ⊢
              obtain ⟨v1, wb, g1, o1, b1, _⟩ := run_appK intE hn ⟨gl', 0, none⟩ b cL (m := l.take b) (by rw [List.length_take]; have := HMl.out; omega) (fun j u hj => by
                rw [add_n]
                exact int_part HMl.out (fun j hj => HC5.out wa (LD.out.trans (P0.mono LD.out.size)) j hj) 0 (l.take b) (fun j => by
                  rw [List.getElem?_take, List.length_take, Nat.zero_add]
                  by_cases h : j < b
                  · rw [if_pos h]
                    by_cases h2 : j < l.length
                    · rw [if_pos (by omega)]
                    · rw [if_neg (by omega), List.getElem?_eq_none (by omega)]
                  · rw [if_neg h, if_neg (by omega)]) j u hj) (by simp; have := HMl.out; omega) (by decide) P0.size 56
              have P1 := P0.trans b1
              refine AnyK.op 4 v1 wb (by kernel_rfl) rfl (by kernel_rfl) (y_append rfl (by kernel_rfl) (by kernel_rfl) g1) (LD.out.trans (P1.mono LD.out.size)) ?_
              obtain ⟨v2, wc, g2, o2, b2, _⟩ := run_appK intE o1 Ah (M - (b + 1)) (cL - (b + 1)) (m := l.drop (b + 1)) (by rw [List.length_drop]; have := HMl.out; omega) (fun j u hj => by
                have hlt : j < (l.drop (b + 1)).length := by
                  have h1 := (List.getElem?_eq_some_iff.1 hj).1
                  rw [flat_length (k := 1) (fun _ => rfl)] at h1; omega
                have hc : b + 1 < cL := by rw [List.length_drop] at hlt; have := HMl.out; have := HMc.out; omega
                rw [HAh.out hc, add_n]
                exact int_part HMl.out (fun j hj => HC5.out wb (LD.out.trans (P1.mono LD.out.size)) j hj) (b + 1) (l.drop (b + 1)) (fun j => by
                  rw [List.getElem?_drop, List.length_drop]
                  by_cases h : j < l.length - (b + 1)
                  · rw [if_pos h]
                  · rw [if_neg h, List.getElem?_eq_none (by omega)]) j u hj) (by simp; have := HMl.out; omega) (by decide) P1.size 56
              have P2 := P1.trans b2
              have ME := Lib.hid (LD.out.trans (P2.mono LD.out.size))
              refine AnyK.op 9 v2 wc (by kernel_rfl) rfl (by kernel_rfl) (y_append rfl (by kernel_rfl) (by kernel_rfl) g2) ME.out ?_
              rw [List.nil_append] at o2
              have HL9 : Hid (IntO wc w.heap.size v2 (l.take b ++ l.drop (b + 1))) := Lib.hid (OwK.mono o2 (Nat.le_trans B5.out.size LD.out.size))
              obtain ⟨A9, c9, rfl⟩ := HL9.out.shape
              obtain ⟨M9, hM9⟩ : ∃ M9, M9 = (l.take b ++ l.drop (b + 1)).length := ⟨_, rfl⟩
              rw [← hM9] at HL9 ⊢
              have hMM : M9 < M := by rw [hM9, List.length_append, List.length_take, List.length_drop]; have := HMl.out; omega
              clear hM9 g1 g2 o1 o2 b1 b2 hn P0 P1 P2
              refine AnyK.take 10 (.slice A9 M9 c9) ME.out rfl (by kernel_rfl) (by kernel_rfl) (by kernel_rfl) (fun _ _ _ h => h) (by kernel_rfl) (fun W hW => by kernel_rfl) ?_
              refine AnyK.done _ (by kernel_rfl) ?_
              have H1 : Hid (Below w.heap.size w wc) := Lib.hid (B5.out.trans (ME.out.mono B5.out.size))
              have H2 : Hid (Dl.Ow wc w.heap.size (.slice A5 N5 c5) (headI ids 256 ++ bodyL (D ++ [rowN ids q]))) := Lib.hid (O5.out.below ME.out (Nat.le_refl _))
              clear LD ME B5 O5 L5
              go_simp
              go_wp2_with fail
              go_roundw
              case rel => exact ⟨_, _, HS2, H1, H2, HL9⟩
              case measure => simp [slen, hMM]
          · have HSrt : Hid (Srt ids D) := Lib.hid (by
              have h := hS.out
              rw [List.eq_nil_of_length_eq_zero (show l.length = 0 by rw [← HMl.out]; omega)] at h
              exact h.last)
            have ho3 : Hid (Dl.Ow wr w.heap.size u5 (tblL D)) := Lib.hid (by
              have h := hO.out
              rw [headI_all HSrt.out] at h; exact h)
            have hDl : D.length ≤ 512 := by rw [HSrt.out.len]; have := HN.out; omega
            have htl : (tblL D).length ≤ 20000 := by rw [tblL_len HSrt.out.fit]; omega
            have hsum := RSum_any wr u5 (tblL D) (by omega) (Dl.Ow.rb ho3.out)
            rw [rsum_gd] at hsum
            obtain ⟨s, hs⟩ : ∃ s, s = sumL (tblL D) := ⟨_, rfl⟩
            have hsl : s.length = 32 := by rw [hs, sumL_length]
            rw [← hs] at hsum
            have hidx : indexL D = tblL D ++ s := by rw [hs]; rfl
            obtain ⟨F, hF⟩ : ∃ F, F = sumA s := ⟨_, rfl⟩
            have hFs : F.size = 32 := by rw [hF, sumA_size]
            have hF1 : F.all (·.oneCell') = true := by rw [hF]; exact sumA_one s
            rw [← hF] at hsum
            have HE : Hid (putE ids = none) := Lib.hid (putE_none.2 ⟨by have := HN.out; omega, HAl.out, (nodup_raw HAl.out).2 HNd.out⟩)
            have HSum := Lib.hid hsum; have HFs := Lib.hid hFs; have HF1 := Lib.hid hF1; have HIdx := Lib.hid hidx; have HF := Lib.hid hF; have Hsl := Lib.hid hsl; have Htl := Lib.hid htl; have HB9 := Lib.hid hB.out
            obtain ⟨A3, N3, c3, rfl, -⟩ := own_shape ho3.out
            have hzs := HZ.out
            clear hsum hFs hF1 hidx hF hsl hs htl hO hL hB hS HMl hDl HAl HNd
            obtain rfl : M = 0 := by omega
            clear hM0 hMN
            go_wp2_with fail
            refine HSum.out.mono ?_
            rintro e w4 ⟨rfl, l4⟩
            obtain ⟨wa, hwa⟩ : ∃ wa, wa = w4.alloc (Obj.cells zs 44) := ⟨_, rfl⟩
            have ba : Blk wa w4.heap.size 44 zs := by rw [hwa]; exact Blk.new w4 _ _
            have la : Below w4.heap.size w4 wa := by rw [hwa]; exact below_new w4 _
            obtain ⟨wb, hwb⟩ : ∃ wb, wb = wa.setRow w4.heap.size F := ⟨_, rfl⟩
            have bb : Blk wb w4.heap.size 44 F := by rw [hwb]; exact setRow_heap wa _ _ _ _ _ ba
            have lb : Below wr.heap.size wr wb := by rw [hwb]; exact l4.trans ((below_setRow la (Nat.le_refl _) _).mono l4.size)
            have Ob : Hid (Dl.Ow wb w.heap.size (.slice A3 N3 c3) (tblL D)) := Lib.hid (ho3.out.below lb (Nat.le_refl _))
            have Rb' : Hid (Dl.Rb wb (.slice (some ⟨w4.heap.size, 0, none⟩) 32 32) s) := Lib.hid (by have h := bb; rw [HF.out] at h; exact rb_blk h Hsl.out)
            have Qb : Hid ((tblL D).length + s.length ≤ 140737488355328) := Lib.hid (by have := Htl.out; have := Hsl.out; omega)
            have Lb : Hid (Below w.heap.size w wb) := Lib.hid (HB9.out.trans (lb.mono HB9.out.size))
            have HWa := Lib.hid hwa; have HWb := Lib.hid hwb; have Ba := Lib.hid ba
            clear l4 hwa ba la hwb bb lb HSum
            go_wp2_with (first
              | (rw [← HWa.out]; refine wpList_store_row rfl 44 (.tmp 14) (.tmp 133) rfl w4.heap.size F rfl rfl 44 zs Ba.out (by rw [HFs.out]; kernel_rfl) (by rw [HFs.out, HSs.out]) HF1.out ?_; rw [← HWb.out])
              | (refine wpList_app' (o := ⟨some 136, _, _, _, _, _⟩) rfl _ _ rfl w.heap.size _ _ (tblL D) s rfl rfl Ob.out Rb'.out Qb.out Lb.out.size HIdx.out ?_))
            intro v5 w5 o5 f5
            obtain ⟨A5, N5, c5, rfl, hN5'⟩ := own_shape o5
            have O5 := Lib.hid o5; have HN5 := Lib.hid hN5'
            have L5 : Hid (Below w.heap.size w w5) := Lib.hid (Lb.out.trans (app_own f5 (ow_ge Ob.out) Lb.out.size))
            clear o5 f5 hN5' hzs
            go_wp2_with fail
            go_ret2
            exact ⟨L5.out, .inr ⟨HE.out, D, A5, N5, c5, HSrt.out, rfl, HN5.out, O5.out⟩⟩
end Go.Proofs.YtdjmcehoaneekaaDoor.Ix
