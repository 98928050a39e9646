/-
  Plain: a list by rising names, the first of each kept: what is sorted and stable, and what is struck out of that.
  What is sorted by its names: the comparisons; a few elements sorted.
  slices.CompactFunc, of neighbours of one name.
  slices.CompactFunc, walked.
-/
import Derived.Sort.LotA
import Derived.Test.YtbglfnbdhdbjjaaGreatDoorC14
import Derived.Test.YtbglfnbdhdbjjaaGreatDoorC20
import Derived.Test.YtbglfnbdhdbjjaaGreatDoorC17
import Derived.Test.YtbglfnbdhdbjjaaGreatDoorC18

namespace Go.Proofs.YtbglfnbdhdbjjaaGreatDoor
open Go.Sort

instance : Inhabited Hld := ⟨noHld⟩
/-- The first of each name is the same. -/
def SameF (l m : List Hld) : Prop := ∀ s, findL m s = findL l s
theorem SameF.refl (l : List Hld) : SameF l l := fun _ => rfl
theorem SameF.trans {a b c : List Hld} (h : SameF a b) (k : SameF b c) : SameF a c := fun s => (k s).trans (h s)
/-- Two rows side by side that share no name change their places. -/
theorem sameF_blocks {p u v q : List Hld} (h : ∀ x ∈ u, ∀ y ∈ v, x.id ≠ y.id) : SameF (p ++ (u ++ v) ++ q) (p ++ (v ++ u) ++ q) := fun s => by
  rw [findL_append, findL_append, findL_append, findL_append, findL_append, findL_append]
  congr 2
  cases hu : findL u s with
  | none => rw [Option.or_none, Option.none_or]
  | some x =>
    cases hv : findL v s with
    | none => rfl
    | some y => exact absurd ((findL_id hu).trans (findL_id hv).symm) (h x (findL_mem hu) y (findL_mem hv))
def ltH (x y : Hld) : Bool := decide (x.id < y.id)
theorem ltH_swo : SWO ltH := ⟨fun x => by simp [ltH], fun x y z h k => by
  unfold ltH at h k ⊢
  exact decide_eq_true (lt_tr (of_decide_eq_true h) (of_decide_eq_true k)), fun x y z h k => by
  unfold ltH at h k ⊢
  refine decide_eq_false fun hz => ?_
  have h1 := of_decide_eq_false h; have k1 := of_decide_eq_false k
  rcases lt_cases y.id x.id with e | e | e
  · rcases lt_cases z.id y.id with e2 | e2 | e2
    · exact lt_irr _ (lt_tr hz (lt_tr e2 e))
    · rw [e2] at hz; exact lt_irr _ (lt_tr hz e)
    · exact k1 e2
  · rw [← e] at hz; exact k1 hz
  · exact h1 e⟩
theorem swp_list (d : Array Hld) (j : Nat) (hj : j + 1 < d.size) : ∃ p q, d.toList = p ++ ([d[j]!] ++ [d[j + 1]!]) ++ q ∧ (swp d (j + 1) j).toList = p ++ ([d[j + 1]!] ++ [d[j]!]) ++ q := by
  have h1 : d[j]! = d[j] := getElem!_pos d j (by omega)
  have h2 : d[j + 1]! = d[j + 1] := getElem!_pos d (j + 1) hj
  refine ⟨d.toList.take j, d.toList.drop (j + 2), ?_, ?_⟩
  · rw [h1, h2]
    apply List.ext_getElem?
    intro i
    have hl : (d.toList.take j).length = j := by simp; omega
    rw [List.append_assoc]
    rcases Nat.lt_or_ge i j with hi | hi
    · rw [List.getElem?_append_left (by rw [hl]; exact hi), List.getElem?_take, if_pos hi]
    · rw [List.getElem?_append_right (by rw [hl]; exact hi), hl]
      obtain ⟨r, rfl⟩ := Nat.exists_eq_add_of_le hi
      rw [Nat.add_sub_cancel_left]
      match r with
      | 0 => simp [Array.getElem?_toList, Array.getElem?_eq_getElem (show j < d.size by omega)]
      | 1 => simp [Array.getElem?_toList, Array.getElem?_eq_getElem hj]
      | r + 2 => simp [List.getElem?_drop, show j + 2 + r = j + (r + 2) by omega]
  · rw [h1, h2]
    apply List.ext_getElem?
    intro i
    have hl : (d.toList.take j).length = j := by simp; omega
    have hs : (swp d (j + 1) j).toList = (d.toList.set (j + 1) d[j]).set j d[j + 1] := by
      unfold swp; rw [h1, h2]; simp
    rw [hs, List.append_assoc]
    rcases Nat.lt_or_ge i j with hi | hi
    · rw [List.getElem?_append_left (by rw [hl]; exact hi), List.getElem?_take, if_pos hi, List.getElem?_set_ne (by omega), List.getElem?_set_ne (by omega)]
    · rw [List.getElem?_append_right (by rw [hl]; exact hi), hl]
      obtain ⟨r, rfl⟩ := Nat.exists_eq_add_of_le hi
      rw [Nat.add_sub_cancel_left]
      match r with
      | 0 =>
        show ((d.toList.set (j + 1) d[j]).set j d[j + 1])[j]? = _
        rw [List.getElem?_set_self (by simp; omega)]; rfl
      | 1 =>
        rw [List.getElem?_set_ne (by omega), List.getElem?_set_self (by simp; omega)]; rfl
      | r + 2 =>
        rw [List.getElem?_set_ne (by omega), List.getElem?_set_ne (by omega)]
        simp [List.getElem?_drop, show j + 2 + r = j + (r + 2) by omega]
theorem swp_same (d : Array Hld) (j : Nat) (hj : j + 1 < d.size) (h : ltH d[j + 1]! d[j]! = true) : SameF d.toList (swp d (j + 1) j).toList := by
  obtain ⟨p, q, e1, e2⟩ := swp_list d j hj
  rw [e1, e2]
  refine sameF_blocks fun x hx y hy e => ?_
  rw [List.mem_singleton.1 hx, List.mem_singleton.1 hy] at e
  have := of_decide_eq_true (show decide (d[j + 1]!.id < d[j]!.id) = true from h)
  rw [e] at this; exact lt_irr _ this
theorem swp_sizeH (d : Array Hld) (i j : Nat) : (swp d i j).size = d.size := by simp [swp]
theorem insInner_same (a : Nat) : ∀ (j : Nat) (d : Array Hld), j < d.size → SameF d.toList (insInner ltH a j d).toList ∧ (insInner ltH a j d).size = d.size
  | 0, d, _ => by unfold insInner; exact ⟨SameF.refl _, rfl⟩
  | j + 1, d, hj => by
    unfold insInner
    split
    · rename_i hc
      rw [Bool.and_eq_true] at hc
      obtain ⟨h1, h2⟩ := insInner_same a j (swp d (j + 1) j) (by rw [swp_sizeH]; omega)
      exact ⟨(swp_same d j hj hc.2).trans h1, h2.trans (swp_sizeH _ _ _)⟩
    · exact ⟨SameF.refl _, rfl⟩
theorem insOuter_same (a b : Nat) : ∀ (n i : Nat) (d : Array Hld), b - i = n → b ≤ d.size → SameF d.toList (insOuter ltH a b i d).toList
  | 0, i, d, h, hb => by rw [insOuter, if_neg (by omega)]; exact SameF.refl _
  | n + 1, i, d, h, hb => by
    rw [insOuter, if_pos (by omega)]
    obtain ⟨h1, h2⟩ := insInner_same a i d (by omega)
    exact h1.trans (insOuter_same a b n (i + 1) _ (by omega) (by rw [h2]; exact hb))
theorem insertion_same (d : Array Hld) (a b : Nat) (hb : b ≤ d.size) : SameF d.toList (insertionSort ltH d a b).toList := insOuter_same a b _ _ d rfl hb

/-- Sorted and stable. -/
structure Stab (l m : List Hld) : Prop where
  perm : m.Perm l
  same : SameF l m
  sort : m.Pairwise fun x y => ¬ y.id < x.id
theorem insertion_stab (l : List Hld) : Stab l (insertionSort ltH l.toArray 0 l.length).toList := by
  have h := insertionSort_holds ltH_swo l.toArray 0 l.length (Nat.zero_le _) (by simp)
  obtain ⟨⟨h1, h2, h3⟩, h4⟩ := h
  refine ⟨?_, ?_, ?_⟩
  · have e1 : ((insertionSort ltH l.toArray 0 l.length).extract 0 l.length) = insertionSort ltH l.toArray 0 l.length := by
      refine Array.extract_eq_self_of_le ?_
      rw [h1]; simp
    rw [e1] at h3
    simpa using h3
  · have := insertion_same l.toArray 0 l.length (by simp)
    simpa using this
  · rw [List.pairwise_iff_getElem]
    intro i j hi hj hij
    have hs : (insertionSort ltH l.toArray 0 l.length).size = l.length := by rw [h1]; simp
    have := h4 i j (Nat.zero_le _) hij (by simpa [hs] using hj)
    rw [getElem!_pos _ i (by simpa using hi), getElem!_pos _ j (by simpa using hj)] at this
    have := of_decide_eq_false (show decide _ = false from this)
    simpa using this

/-- Of neighbours of one name the first alone. -/
def runs : Bs → List Hld → List Hld
  | _, [] => []
  | p, y :: l => if y.id = p then runs y.id l else y :: runs y.id l
def dedup : List Hld → List Hld
  | [] => []
  | x :: l => x :: runs x.id l
theorem mem_runs {z : Hld} : ∀ {l : List Hld} {p : Bs}, z ∈ runs p l → z ∈ l
  | [], _, h => h
  | y :: l, p, h => by
    unfold runs at h
    by_cases e : y.id = p
    · rw [if_pos e] at h; exact List.mem_cons_of_mem _ (mem_runs h)
    · rw [if_neg e] at h
      rcases List.mem_cons.1 h with rfl | h
      · exact List.mem_cons_self ..
      · exact List.mem_cons_of_mem _ (mem_runs h)
theorem runs_rise : ∀ {l : List Hld} {p : Bs}, (∀ x ∈ l, ¬ x.id < p) → l.Pairwise (fun x y => ¬ y.id < x.id) → (∀ x ∈ runs p l, p < x.id) ∧ (runs p l).Pairwise fun x y => x.id < y.id
  | [], _, _, _ => ⟨fun _ h => (by cases h), List.Pairwise.nil⟩
  | y :: l, p, hp, hs => by
    obtain ⟨h1, h2⟩ := List.pairwise_cons.1 hs
    obtain ⟨i1, i2⟩ := runs_rise (l := l) (p := y.id) h1 h2
    unfold runs
    by_cases e : y.id = p
    · rw [if_pos e, ← e]; exact ⟨i1, i2⟩
    · rw [if_neg e]
      have hlt : p < y.id := by
        rcases lt_cases p y.id with h | h | h
        · exact h
        · exact absurd h.symm e
        · exact absurd h (hp y (by simp))
      exact ⟨fun x hx => (List.mem_cons.1 hx).elim (fun e => by rw [e]; exact hlt) (fun hx => lt_tr hlt (i1 x hx)), List.pairwise_cons.2 ⟨i1, i2⟩⟩
theorem runs_find : ∀ {l : List Hld} {p : Bs} (s : Bs), s ≠ p → (∀ x ∈ l, ¬ x.id < p) → l.Pairwise (fun x y => ¬ y.id < x.id) → findL (runs p l) s = findL l s
  | [], _, _, _, _, _ => rfl
  | y :: l, p, s, hne, hp, hs => by
    obtain ⟨h1, h2⟩ := List.pairwise_cons.1 hs
    unfold runs
    by_cases e : y.id = p
    · rw [if_pos e, findL_cons, if_neg (fun e2 => hne (e2.symm.trans e)), e]
      exact runs_find s hne (fun x hx => hp x (List.mem_cons_of_mem _ hx)) h2
    · rw [if_neg e, findL_cons, findL_cons]
      by_cases e2 : y.id = s
      · rw [if_pos e2, if_pos e2]
      · rw [if_neg e2, if_neg e2]; exact runs_find s (fun e3 => e2 e3.symm) h1 h2
theorem dedup_find {l : List Hld} (hs : l.Pairwise fun x y => ¬ y.id < x.id) (s : Bs) : findL (dedup l) s = findL l s := by
  cases l with
  | nil => rfl
  | cons x l =>
    obtain ⟨h1, h2⟩ := List.pairwise_cons.1 hs
    unfold dedup
    rw [findL_cons, findL_cons]
    by_cases e : x.id = s
    · rw [if_pos e, if_pos e]
    · rw [if_neg e, if_neg e]; exact runs_find s (fun e3 => e e3.symm) h1 h2
theorem dedup_rise {l : List Hld} (hs : l.Pairwise fun x y => ¬ y.id < x.id) : (dedup l).Pairwise fun x y => x.id < y.id := by
  cases l with
  | nil => exact List.Pairwise.nil
  | cons x l =>
    obtain ⟨h1, h2⟩ := List.pairwise_cons.1 hs
    exact List.pairwise_cons.2 (runs_rise h1 h2)
theorem rise_find {r : List Hld} (h : r.Pairwise fun x y => x.id < y.id) (z : Hld) : z ∈ r ↔ findL r z.id = some z := by
  constructor
  · intro hz
    induction r with
    | nil => cases hz
    | cons x r ih =>
      obtain ⟨h1, h2⟩ := List.pairwise_cons.1 h
      rw [findL_cons]
      rcases List.mem_cons.1 hz with rfl | hz
      · rw [if_pos rfl]
      · rw [if_neg (fun e => by have := h1 z hz; rw [e] at this; exact lt_irr _ this)]
        exact ih h2 hz
  · exact fun h => findL_mem h
theorem Stab.isSet {l m : List Hld} (h : Stab l m) : IsSet l (dedup m) :=
  ⟨dedup_rise h.sort, fun z => by rw [rise_find (dedup_rise h.sort) z, dedup_find h.sort, h.same]⟩
end Go.Proofs.YtbglfnbdhdbjjaaGreatDoor


namespace Go.Proofs.YtbglfnbdhdbjjaaGreatDoor
open Go Go.RowKit Go.Maps Go.Shelf Go.Sort

def cmpH (x y : Hld) : Int := Lib.compareBytes x.id y.id
theorem cmp_lt : ∀ a b : Bs, Lib.compareBytes a b < 0 ↔ a < b
  | [], [] => by simp [Lib.compareBytes]
  | [], b :: m => by simp [Lib.compareBytes]
  | a :: l, [] => by simp [Lib.compareBytes]
  | a :: l, b :: m => by
    unfold Lib.compareBytes
    rw [List.cons_lt_cons_iff]
    by_cases h : a < b
    · rw [if_pos h]; simp [h]
    · rw [if_neg h]
      by_cases h2 : b < a
      · rw [if_pos h2]
        have : ¬ a = b := fun e => by rw [e] at h2; exact absurd h2 (by simp)
        simp [h, this]
      · rw [if_neg h2, cmp_lt l m]
        have : a = b := by
          have h1 : ¬ a.toNat < b.toNat := h
          have h3 : ¬ b.toNat < a.toNat := h2
          exact UInt8.toNat_inj.1 (by omega)
        simp [this]
theorem lt_cmp : ltOf cmpH = ltH := by
  funext x y
  unfold ltOf ltH cmpH
  rw [decide_eq_decide]; exact cmp_lt _ _

set_option maxHeartbeats 2000000 in
set_option maxRecDepth 100000 in
theorem cmp_any (x y : Hld) (W : World) : Calls Tryz.prog 60 #[.agg (heldC x).toArray, .agg (heldC y).toArray] W fun e w' => e = .returned (.int .i64 (cmpH x y)) ∧ ∃ q os', w' = grow (W.drewN q) os' := by
  obtain ⟨xi, xk, xd⟩ := x
  obtain ⟨yi, yk, yd⟩ := y
  unfold heldC SV cmpH
  simp only
  have HC := fun w => Lib.hid (Any.strings_Compare Tryz.cmpA ⟨xi.toArray⟩ ⟨yi.toArray⟩ w)
  go_enter Tryz.func60, Tryz.ntmps60
  go_wp2_with fail
  refine (HC _).out.mono ?_
  rintro e w2 ⟨rfl, rfl⟩
  go_wp2_with fail
  go_ret
  refine ⟨by simp, 0, #[.cells #[.string ⟨xi.toArray⟩, .int .i64 xk, .string ⟨xd.toArray⟩] 51, .cells #[.string ⟨yi.toArray⟩, .int .i64 yk, .string ⟨yd.toArray⟩] 51], ?_⟩
  rw [alloc_eq_grow, alloc_eq_grow, grow_grow]; rfl
set_option maxHeartbeats 2000000 in
set_option maxRecDepth 100000 in
theorem same_any (x y : Hld) (b : Bool) (hb : (x.id == y.id) = b) (W : World) : Calls Tryz.prog 63 #[.agg (heldC x).toArray, .agg (heldC y).toArray] W (RetBelow (.bool b) W) := by
  obtain ⟨xi, xk, xd⟩ := x
  obtain ⟨yi, yk, yd⟩ := y
  unfold heldC SV
  simp only at hb ⊢
  cases b with
  | true =>
    have e : xi = yi := by simpa using hb
    subst e
    clear hb
    go_enter Tryz.func63, Tryz.ntmps63
    go_wp2_with fail
    go_ret
    exact ⟨by simp, (below_new W _).alloc (by simp) _⟩
  | false =>
    have e : ¬ xi = yi := by simpa using hb
    go_enter Tryz.func63, Tryz.ntmps63
    go_wp2_with fail
    go_ret
    exact ⟨by simp, (below_new W _).alloc (by simp) _⟩

/-! ### Rows of them -/
theorem own_of_cells {w : World} {B g cap : Nat} {cur : Array Value} {l : List Hld} (hB : B ≤ g) (hg : w.heap[g]? = some (.cells cur 51 (0, 0))) (h1 : l.length ≤ cap) (h2 : cap ≤ maxLen) (h3 : cur.size = cap * 3)
    (hc : ∀ j, j < l.length → ∀ i, i < 3 → cur[j * 3 + i]? = (heldC (l.getD j noHld))[i]?) : NewH B w (.slice (some ⟨g, 0, none⟩) l.length cap) l := by
  refine ⟨flat_length heldC_len l, .inr ⟨g, cap, cur, rfl, hB, hg, h1, h2, h3, ?_⟩⟩
  apply List.ext_getElem?
  intro t
  by_cases ht : t < l.length * 3
  · rw [List.getElem?_take_of_lt ht, Array.getElem?_toList]
    have hq : t / 3 < l.length := by omega
    have hr : t % 3 < 3 := by omega
    have e : t / 3 * 3 + t % 3 = t := by omega
    have := hc (t / 3) hq (t % 3) hr
    rw [e] at this
    have h4 := flat_get heldC_len l (t / 3) _ (List.getElem?_eq_getElem hq) (t % 3) hr
    rw [e] at h4
    rw [this, h4, List.getD_eq_getElem?_getD, List.getElem?_eq_getElem hq]; rfl
  · rw [List.getElem?_take_eq_none (by omega), List.getElem?_eq_none (by rw [flat_length heldC_len]; omega)]
theorem cells_of_own {w : World} {B g c n : Nat} {l : List Hld} (h : NewH B w (.slice (some ⟨g, 0, none⟩) n c) l) : ∃ cur, n = l.length ∧ B ≤ g ∧ w.heap[g]? = some (.cells cur 51 (0, 0)) ∧ l.length ≤ c ∧ c ≤ maxLen ∧ cur.size = c * 3 ∧ ∀ j, j < l.length → ∀ i, i < 3 → cur[j * 3 + i]? = (heldC (l.getD j noHld))[i]? := by
  have hr := h.rd
  rcases h.2 with ⟨h0, _⟩ | ⟨g', cap, cur, e, hbg, hg, hnc, hcm, hcs, _⟩
  · cases h0
  · cases e
    refine ⟨cur, rfl, hbg, hg, hnc, hcm, hcs, fun j hj i hi => ?_⟩
    rcases hr with ⟨⟨A, c', e⟩, rfl⟩ | ⟨g2, o2, c2, e, _, _, hcell⟩
    · cases hj
    · cases e
      have := hcell j hj _ (List.getElem?_eq_getElem hj) i hi
      rw [cell_of_row w g _ cur _ _ hg, Nat.zero_add] at this
      rw [this, List.getD_eq_getElem?_getD, List.getElem?_eq_getElem hj]; rfl
theorem holdsK_of {w : World} {g : Nat} {cur : Array Value} {l : List Hld} (hg : w.heap[g]? = some (.cells cur 51 (0, 0))) (hc : ∀ j, j < l.length → ∀ i, i < 3 → cur[j * 3 + i]? = (heldC (l.getD j noHld))[i]?) :
    HoldsK heldC 3 w g 0 l.toArray := by
  intro t ht
  rw [size_flatK] at ht
  have hs : l.toArray.size = l.length := by simp
  rw [hs] at ht
  refine ⟨?_, frozen_of hg⟩
  have hq : t / 3 < l.length := by omega
  have hr : t % 3 < 3 := by omega
  have e : t / 3 * 3 + t % 3 = t := by omega
  have := hc (t / 3) hq (t % 3) hr
  rw [e] at this
  rw [get_flatK heldC 3 l.toArray t (by rw [hs]; exact ht), Nat.zero_add, cell_of_row w g t cur _ _ hg, this]
  have e2 : l.toArray[t / 3]! = l.getD (t / 3) noHld := by
    rw [getElem!_pos _ _ (by simpa using hq), List.getD_eq_getElem?_getD, List.getElem?_eq_getElem hq]; simp
  rw [e2]
  have hl := heldC_len (l.getD (t / 3) noHld)
  rw [List.getElem?_eq_getElem (by omega), getElem!_pos _ _ (by omega)]; rfl
theorem heap_sortedK {w : World} {g n : Nat} {os : Array Obj} {cur : Array Value} {e : TypeId} {fr : Nat × Nat} (d : Array Hld) (hb : w.heap[g]? = some (.cells cur e fr)) :
    (sortWorldK heldC 3 w g 0 n d os).heap[g]? = some (.cells (putCells id 0 (flatK heldC 3 d) cur) e fr) := by
  have hg : g < w.heap.size := (Array.getElem?_eq_some_iff.1 hb).1
  unfold sortWorldK putRowK
  rw [heap_grow_old _ _ (by simpa using hg)]
  simp [putRow, mapBlock, Sort.ahead, Array.getElem?_modify, hb, onCells]
theorem but_sortedK {w : World} {g n : Nat} {os : Array Obj} (d : Array Hld) : But (fun k => some g = some k) w (sortWorldK heldC 3 w g 0 n d os) := by
  unfold sortWorldK putRowK
  refine ⟨rfl, rfl, rfl, by simp, fun k hk hne => ?_⟩
  rw [heap_grow_old _ _ (by simpa using hk)]
  have : g ≠ k := fun e => hne (by rw [e])
  simp [putRow, mapBlock, Sort.ahead, Array.getElem?_modify, this]
theorem own_sortedK {w : World} {B g c n : Nat} {l : List Hld} (h : NewH B w (.slice (some ⟨g, 0, none⟩) l.length c) l) (d : Array Hld) (hd : d.size = l.length) (os : Array Obj) :
    NewH B (sortWorldK heldC 3 w g 0 n d os) (.slice (some ⟨g, 0, none⟩) l.length c) d.toList := by
  obtain ⟨cur, _, hB, hg, h1, h2, h3, hc⟩ := cells_of_own h
  have := own_of_cells (l := d.toList) hB (heap_sortedK (n := n) (os := os) d hg) (by simp [hd]; exact h1) h2 (by simp [putCells, h3]) (fun j hj i hi => ?_)
  · simpa [hd] using this
  · have hj' : j < d.size := by simpa using hj
    have h5 : j * 3 + i < cur.size := by omega
    have h6 : j * 3 + i < d.size * 3 := by omega
    have e1 : (j * 3 + i) / 3 = j := by omega
    have e2 : (j * 3 + i) % 3 = i := by omega
    rw [putCells, Array.getElem?_mapIdx, Array.getElem?_eq_getElem h5]
    simp only [Option.map_some, Nat.zero_le, Nat.zero_add, size_flatK, h6, and_self, if_true, Nat.sub_zero, id_eq]
    rw [get_flatK heldC 3 d _ h6, e1, e2, getElem!_pos d j hj', List.getD_eq_getElem?_getD, List.getElem?_eq_getElem hj]
    have hl := heldC_len (d.toList[j])
    simp only [Option.getD_some]
    rw [List.getElem?_eq_getElem (by omega), getElem!_pos _ _ (by rw [show d[j] = d.toList[j] by simp]; omega)]
    simp
def SortPost (B : Nat) (l : List Hld) (v : Value) (w : World) (e : Ending) (w' : World) : Prop :=
  e = .returned (.tuple #[]) ∧ ∃ m, Stab l m ∧ NewH B w' v m ∧ But (fun k => v.ownBlock = some k) w w'
theorem heldOne (x : Hld) : ∀ v ∈ heldC x, v.oneCell' = true := by
  intro v hv
  simp only [heldC, List.mem_cons, List.not_mem_nil, or_false] at hv
  rcases hv with rfl | rfl | rfl <;> rfl
theorem ins_any {w : World} {g c : Nat} {cur : Array Value} {l : List Hld} (hg : w.heap[g]? = some (.cells cur 51 (0, 0))) (hc : ∀ j, j < l.length → ∀ i, i < 3 → cur[j * 3 + i]? = (heldC (l.getD j noHld))[i]?) (a b : Nat) (hab : a ≤ b) (hb : b ≤ l.length) (hl : l.length ≤ 1000000) :
    Calls Tryz.prog 109 #[.slice (some ⟨g, 0, none⟩) l.length c, .int .i64 a, .int .i64 b, .func (.func 60) #[] #[]] w fun e w' =>
      e = .returned (.tuple #[]) ∧ ∃ n os, w' = sortWorldK heldC 3 w g 0 n (insertionSort ltH l.toArray a b) os := by
  have h := AnyQ.insertionSortCmpFunc Tryz.insA 3 (fun w => by kernel_rfl) (fun w => by kernel_rfl) heldC heldC_len heldOne cmpH 60 #[] g 0 c a b l.toArray w (fun args w => by kernel_rfl)
    (fun m os dk _ x y => cmp_any x y _) (holdsK_of hg hc) (lt_heap hg) hab (by simpa using hb) (by simp; omega)
  rw [lt_cmp, show l.toArray.size = l.length by simp] at h
  exact h
end Go.Proofs.YtbglfnbdhdbjjaaGreatDoor


namespace Go.Proofs.YtbglfnbdhdbjjaaGreatDoor
open Go Go.RowKit Go.Maps Go.Sort

theorem runs_snoc (y : Hld) : ∀ (l : List Hld) (p : Bs), runs p (l ++ [y]) = runs p l ++ if y.id = ((l.getLast?.map Hld.id).getD p) then [] else [y]
  | [], p => by
    show (if y.id = p then runs y.id [] else y :: runs y.id []) = _
    by_cases e : y.id = p
    · rw [if_pos e]; simp [runs, e]
    · rw [if_neg e]; simp [runs, e]
  | x :: l, p => by
    show (if x.id = p then runs x.id (l ++ [y]) else x :: runs x.id (l ++ [y])) = (if x.id = p then runs x.id l else x :: runs x.id l) ++ _
    have hl : ((x :: l).getLast?.map Hld.id).getD p = (l.getLast?.map Hld.id).getD x.id := by
      cases l with
      | nil => rfl
      | cons z l =>
        rw [List.getLast?_cons_cons]
        cases hq : (z :: l).getLast? with
        | none => simp at hq
        | some u => rfl
    rw [hl, runs_snoc y l x.id]
    by_cases e : x.id = p
    · rw [if_pos e, if_pos e]
    · rw [if_neg e, if_neg e]; rfl
theorem dedup_snoc {l : List Hld} {i : Nat} (h0 : 1 ≤ i) (hi : i < l.length) : dedup (l.take (i + 1)) = dedup (l.take i) ++ if (l.getD i noHld).id = (l.getD (i - 1) noHld).id then [] else [l.getD i noHld] := by
  rw [take_getD l noHld i hi]
  have hlen : (l.take i).length = i := by rw [List.length_take]; omega
  have hlast : (l.take i).getLast? = some (l.getD (i - 1) noHld) := by
    rw [List.getLast?_eq_getElem?, hlen, List.getElem?_take, if_pos (by omega), List.getD_eq_getElem?_getD, List.getElem?_eq_getElem (by omega)]; rfl
  cases ht : l.take i with
  | nil => rw [ht] at hlen; simp at hlen; omega
  | cons x m =>
    show x :: runs x.id (m ++ [l.getD i noHld]) = (x :: runs x.id m) ++ _
    rw [runs_snoc]
    have h2 : ((m.getLast?.map Hld.id).getD x.id) = (l.getD (i - 1) noHld).id := by
      rw [ht] at hlast
      cases m with
      | nil => rw [← Option.some.inj (show some x = some _ from hlast)]; rfl
      | cons z m =>
        rw [List.getLast?_cons_cons] at hlast
        rw [hlast]; rfl
    rw [h2]; rfl
theorem dedup_len (l : List Hld) : (dedup l).length ≤ l.length := by
  have hr : ∀ (l : List Hld) (p : Bs), (runs p l).length ≤ l.length := fun l => by
    induction l with
    | nil => intro p; exact Nat.le_refl _
    | cons x l ih =>
      intro p
      unfold runs
      by_cases e : x.id = p
      · rw [if_pos e]; have := ih x.id; simp only [List.length_cons]; omega
      · rw [if_neg e]; have := ih x.id; simp only [List.length_cons]; omega
  cases l with
  | nil => exact Nat.le_refl _
  | cons x l => have := hr l x.id; simp only [dedup, List.length_cons]; omega
theorem dedup_few {l : List Hld} (h : l.length < 2) : dedup l = l := by
  match l, h with
  | [], _ => rfl
  | [x], _ => rfl
theorem setMany_lt : ∀ (vs : List Value) (F : Array Value) (s i : Nat), i < s → (setMany F s vs)[i]? = F[i]?
  | [], _, _, _, _ => rfl
  | v :: r, F, s, i, h => by rw [setMany, setMany_lt r _ (s + 1) i (by omega), Array.getElem?_setIfInBounds_ne (by omega)]
theorem blk_setCells {b : Nat} {t : TypeId} {fr : Nat × Nat} : ∀ (vs : List Value) (W : World) (o : Nat) (cs : Array Value), W.heap[b]? = some (.cells cs t fr) → (W.setCells b o vs).heap[b]? = some (.cells (setMany cs o vs) t fr)
  | [], _, _, _, h => h
  | v :: r, _, o, _, h => blk_setCells r _ (o + 1) _ (blk_setCell h v)
theorem but_setCells {b : Nat} {S : Nat → Prop} (hS : S b) : ∀ (vs : List Value) (W : World) (o : Nat), But S W (W.setCells b o vs)
  | [], W, _ => But.refl _ W
  | v :: r, W, o => (But.setCell (But.refl S W) (p := ⟨b, o, none⟩) hS v).trans (but_setCells hS r _ (o + 1))
theorem l_held (W : World) (b o : Nat) (x : Hld) (h0 : W.cell? ⟨b, o, none⟩ = some (SV x.id)) (h1 : W.cell? ⟨b, o + 1, none⟩ = some (.int .i64 x.kind)) (h2 : W.cell? ⟨b, o + 2, none⟩ = some (SV x.data)) :
    (Instr.loadAt 51 (.pointer (some ⟨b, o, none⟩))).run Tryz.prog W = .ok (.agg (heldC x).toArray) W := by
  obtain ⟨xi, xk, xd⟩ := x
  unfold heldC
  unfold SV at h0 h2 ⊢
  simp only at h0 h1 h2 ⊢
  go_simp
theorem zeroHeld (W : World) : (zeroValue 51).run Tryz.prog W = .ok (.agg #[.string ⟨#[]⟩, .int .i64 0, .string ⟨#[]⟩]) W := by kernel_rfl
theorem run_clearH {W : World} {g k n c ty : Nat} {cur : Array Value} (hg : W.heap[g]? = some (.cells cur 51 (0, 0))) (hn : 0 < n) (hk : k * 3 + n * 3 ≤ cur.size) :
    ∃ vs, (Builtin.clear_ #[22] ty #[.slice (some ⟨g, k * 3, none⟩) n c]).run Tryz.prog W = .ok (.tuple #[]) (W.setCells g (k * 3) vs) := by
  obtain ⟨m, rfl⟩ : ∃ m, n = m + 1 := ⟨n - 1, by omega⟩
  have hz := zeroHeld W
  refine ⟨(Builtin.zeroCells (Value.agg #[.string ⟨#[]⟩, .int .i64 0, .string ⟨#[]⟩]).cells (m + 1)).toList, ?_⟩
  have hlen : (Builtin.zeroCells (Value.agg #[.string ⟨#[]⟩, .int .i64 0, .string ⟨#[]⟩]).cells (m + 1)).toList.length = (m + 1) * 3 := by
    rw [Array.length_toList, size_zeroCells]; rfl
  have hst := run_storeCells_cells (P := Tryz.prog) g (k * 3) (Builtin.zeroCells (Value.agg #[.string ⟨#[]⟩, .int .i64 0, .string ⟨#[]⟩]).cells (m + 1)).toList 0 W
    (fun j hj => by rw [hlen] at hj; rw [cell_of_row W g _ cur _ _ hg, Array.getElem?_eq_getElem (by omega)]; rfl) (fun j _ => frozen_of hg)
    (fun v hv => by
      have : ∀ (z : Array Value) (n : Nat), 0 < z.size → (∀ v ∈ z.toList, v.oneCell' = true) → ∀ v ∈ (Builtin.zeroCells z n).toList, v.oneCell' = true := fun z n h0 hz v hv => by
        unfold Builtin.zeroCells at hv
        simp at hv
        obtain ⟨q, _, hv⟩ := hv
        have hq : q % z.size < z.size := Nat.mod_lt _ h0
        rw [getElem!_pos z _ hq] at hv
        exact hz v (by rw [← hv]; simp)
      refine this _ _ (by decide) (fun v hv => ?_) v hv
      have hv2 : v ∈ [Value.string ⟨#[]⟩, Value.int .i64 0, Value.string ⟨#[]⟩] := hv
      simp only [List.mem_cons, List.not_mem_nil, or_false] at hv2
      rcases hv2 with rfl | rfl | rfl <;> rfl)
  simp only [Nat.add_zero] at hst
  simp [Builtin.clear_, run_underlying Tryz.underlying22, hz, hst]
end Go.Proofs.YtbglfnbdhdbjjaaGreatDoor


namespace Go.Proofs.YtbglfnbdhdbjjaaGreatDoor
open Go Go.RowKit Go.Maps Go.Sort

theorem elemHeld : Tryz.prog.underlying 22 = some (.slice (Tryz.prog.elem 22)) := by kernel_rfl
theorem sizeHeld (W : World) : (sizeOf (Tryz.prog.elem 22)).run Tryz.prog W = .ok 3 W := by kernel_rfl
theorem sl_held (W : World) (g o n c k : Nat) (hk : k ≤ n) (hkc : k < c) : (Instr.sliceAt 22 (.slice (some ⟨g, o, none⟩) n c) (some (.int .i64 (k : Int))) none none).run Tryz.prog W = .ok (.slice (some ⟨g, o + k * 3, none⟩) (n - k) (c - k)) W := by
  rw [run_sliceAt_slice W 22 _ _ _ _ elemHeld, run_slice_l W 22 _ _ _ elemHeld .i64 _ (by omega) (by omega), sizeHeld]
  have : ¬ c = k := by omega
  simp [Result.andThen, sliced, Addr.add, this]
theorem sh_held (W : World) (g o n c k : Nat) (hk : k ≤ c) : (Instr.sliceAt 22 (.slice (some ⟨g, o, none⟩) n c) none (some (.int .i64 (k : Int))) none).run Tryz.prog W = .ok (.slice (some ⟨g, o, none⟩) k c) W := by
  rw [run_sliceAt_slice W 22 _ _ _ _ elemHeld, run_slice_h W 22 _ _ _ elemHeld .i64 _ (by omega) (by omega), sizeHeld]
  simp [Result.andThen, sliced, Addr.add]
theorem wpList_slice {ops : Array Oper} {rest : List Oper} {o : Oper} {a : Act} {w : World} {Q : Exit → Act → World → Prop} (hgd : o.guard = none) (t : TypeId) (s : Operand) (lo hi : Option Operand)
    (ho : o.op = .slice t s lo hi none) (v r : Value) (lv hv : Option Value) (hs : a.eval s = v) (hl : lo.map a.eval = lv) (hh : hi.map a.eval = hv)
    (hr : (Instr.sliceAt t v lv hv none).run Tryz.prog w = .ok r w) (kk : wpList Tryz.prog ops Q rest (a.put o.dst r) w) : wpList Tryz.prog ops Q (o :: rest) a w := by
  refine wpList_plain hgd fun K hK => ?_
  unfold Oper.wp
  simp [execOp, ho, hs, hl, hh, hr, Result.andThen]
  exact hK _ _ kk
theorem wpList_clearH {ops : Array Oper} {rest : List Oper} {o : Oper} {a : Act} {w : World} {Q : Exit → Act → World → Prop} (hgd : o.guard = none) (s : Operand)
    (ho : o.op = .call { callee := .builtin .clear, args := #[s], argTypes := #[22] }) (g k n c : Nat) (cur : Array Value) (hs : a.eval s = .slice (some ⟨g, k * 3, none⟩) n c)
    (hg : w.heap[g]? = some (.cells cur 51 (0, 0))) (hn : 0 < n) (hk : k * 3 + n * 3 ≤ cur.size)
    (kk : ∀ vs, wpList Tryz.prog ops Q rest (a.put o.dst (.tuple #[])) (w.setCells g (k * 3) vs)) : wpList Tryz.prog ops Q (o :: rest) a w := by
  refine wpList_plain hgd fun K hK => ?_
  obtain ⟨vs, h⟩ := run_clearH (ty := o.type) (c := c) hg hn hk
  unfold Oper.wp
  simp [execOp, ho, resolve, invoke, builtin, hs, h, Result.andThen]
  exact hK _ _ (kk vs)

/-- In the inner loop. -/
structure CJ (l : List Hld) (B g c : Nat) (w wr : World) (k0 k j : Nat) : Prop where
  len : (dedup (l.take (k0 + j))).length = k
  low : k + 1 ≤ k0 + j
  own : NewH B wr (.slice (some ⟨g, 0, none⟩) l.length c) (dedup (l.take (k0 + j)) ++ l.drop k)
  but : But (fun q => q = g) w wr
theorem CJ.cells {l : List Hld} {B g c : Nat} {w wr : World} {k0 k j : Nat} (h : CJ l B g c w wr k0 k j) (i : Nat) (hi : i < l.length) (hk : k ≤ i) :
    wr.cell? ⟨g, i * 3, none⟩ = some (SV (l.getD i noHld).id) ∧ wr.cell? ⟨g, i * 3 + 1, none⟩ = some (.int .i64 (l.getD i noHld).kind) ∧ wr.cell? ⟨g, i * 3 + 2, none⟩ = some (SV (l.getD i noHld).data) := by
  have hl := h.len
  have h1 := HldsR.cells h.own.rd i (by rw [List.length_append, List.length_drop, hl]; have := h.low; omega)
  have e : (dedup (l.take (k0 + j)) ++ l.drop k).getD i noHld = l.getD i noHld := by
    rw [List.getD_eq_getElem?_getD, List.getElem?_append_right (by omega), hl, List.getElem?_drop, show k + (i - k) = i by omega, ← List.getD_eq_getElem?_getD]
  rw [e, Nat.zero_add] at h1
  exact h1
theorem CJ.below {l : List Hld} {B g c : Nat} {w wr w2 : World} {k0 k j : Nat} (h : CJ l B g c w wr k0 k j) (hb : Below wr.heap.size wr w2) : CJ l B g c w w2 k0 k j :=
  ⟨h.len, h.low, OwK.below h.own hb (Nat.le_refl _), h.but.trans (But.of_new hb)⟩
theorem CJ.skip {l : List Hld} {B g c : Nat} {w wr : World} {k0 k j : Nat} (h : CJ l B g c w wr k0 k j) (h1 : 1 ≤ j) (hj : k0 + j < l.length) (he : (l.getD (k0 + j) noHld).id = (l.getD (k0 + j - 1) noHld).id) : CJ l B g c w wr k0 k (j + 1) := by
  have e := dedup_snoc (l := l) (i := k0 + j) (by omega) hj
  rw [if_pos he, List.append_nil] at e
  refine ⟨by rw [show k0 + (j + 1) = k0 + j + 1 by omega, e]; exact h.len, by have := h.low; omega, ?_, h.but⟩
  rw [show k0 + (j + 1) = k0 + j + 1 by omega, e]; exact h.own
theorem CJ.keep {l : List Hld} {B g c : Nat} {w wr : World} {k0 k j : Nat} (h : CJ l B g c w wr k0 k j) (h1 : 1 ≤ j) (hj : k0 + j < l.length) (he : ¬ (l.getD (k0 + j) noHld).id = (l.getD (k0 + j - 1) noHld).id) :
    CJ l B g c w (wr.setCells g (k * 3) (heldC (l.getD (k0 + j) noHld))) k0 (k + 1) (j + 1) := by
  have e := dedup_snoc (l := l) (i := k0 + j) (by omega) hj
  rw [if_neg he] at e
  have hlow := h.low
  obtain ⟨cur, hn, hB, hg, r1, r2, r3, hc⟩ := cells_of_own h.own
  have hlen : (dedup (l.take (k0 + j)) ++ [l.getD (k0 + j) noHld] ++ l.drop (k + 1)).length = l.length := by
    rw [List.length_append, List.length_append, h.len, List.length_drop, List.length_singleton]; omega
  refine ⟨by rw [show k0 + (j + 1) = k0 + j + 1 by omega, e, List.length_append, h.len]; rfl, by omega, ?_, h.but.trans (but_setCells (S := fun q => q = g) rfl _ _ _)⟩
  rw [show k0 + (j + 1) = k0 + j + 1 by omega, e]
  have := own_of_cells (l := dedup (l.take (k0 + j)) ++ [l.getD (k0 + j) noHld] ++ l.drop (k + 1)) (cap := c) hB (blk_setCells (heldC (l.getD (k0 + j) noHld)) _ (k * 3) cur hg) (by rw [hlen]; rw [← hn] at r1; exact r1) r2 (by rw [size_setMany]; exact r3) (fun t ht i hi => ?_)
  · rw [hlen] at this; exact this
  · rw [hlen] at ht
    have hct := hc t (by rw [← hn]; exact ht) i hi
    generalize hv : l.getD (k0 + j) noHld = y at *
    have hs : setMany cur (k * 3) (heldC y) = ((cur.setIfInBounds (k * 3) (SV y.id)).setIfInBounds (k * 3 + 1) (.int .i64 y.kind)).setIfInBounds (k * 3 + 2) (SV y.data) := rfl
    have hsz : k * 3 + 2 < cur.size := by rw [← hn] at r1; omega
    rw [hs]
    rcases Nat.lt_trichotomy t k with h2 | h2 | h2
    · rw [Array.getElem?_setIfInBounds_ne (by omega), Array.getElem?_setIfInBounds_ne (by omega), Array.getElem?_setIfInBounds_ne (by omega), hct]
      congr 2
      rw [List.getD_eq_getElem?_getD, List.getD_eq_getElem?_getD, List.getElem?_append_left (by rw [h.len]; exact h2), List.append_assoc, List.getElem?_append_left (by rw [h.len]; exact h2)]
    · subst h2
      have e3 : (dedup (l.take (k0 + j)) ++ [y] ++ l.drop (t + 1)).getD t noHld = y := by
        rw [List.append_assoc, List.getD_eq_getElem?_getD, List.getElem?_append_right (by rw [h.len]; exact Nat.le_refl _), h.len, Nat.sub_self]; rfl
      rw [e3]
      match i, hi with
      | 0, _ =>
        rw [Array.getElem?_setIfInBounds_ne (by omega), Array.getElem?_setIfInBounds_ne (by omega)]
        show (cur.setIfInBounds (t * 3) (SV y.id))[t * 3]? = _
        rw [Array.getElem?_setIfInBounds_self_of_lt (by omega)]; rfl
      | 1, _ => rw [Array.getElem?_setIfInBounds_ne (by omega), Array.getElem?_setIfInBounds_self_of_lt (by simp; omega)]; rfl
      | 2, _ => rw [Array.getElem?_setIfInBounds_self_of_lt (by simp; omega)]; rfl
    · rw [Array.getElem?_setIfInBounds_ne (by omega), Array.getElem?_setIfInBounds_ne (by omega), Array.getElem?_setIfInBounds_ne (by omega), hct]
      congr 2
      rw [List.getD_eq_getElem?_getD, List.getD_eq_getElem?_getD, List.getElem?_append_right (by rw [h.len]; omega), h.len, List.getElem?_append_right (by rw [List.length_append, h.len]; simp; omega), List.length_append, h.len, List.getElem?_drop, List.getElem?_drop]
      congr 2
      simp; omega
theorem CJ.done {l : List Hld} {B g c : Nat} {w wr : World} {k0 k j : Nat} (h : CJ l B g c w wr k0 k j) (hj : k0 + j = l.length) :
    k < l.length ∧ l.length ≤ c ∧ ∃ cur, wr.heap[g]? = some (.cells cur 51 (0, 0)) ∧ k * 3 + (l.length - k) * 3 ≤ cur.size ∧ ∀ vs, NewH B (wr.setCells g (k * 3) vs) (.slice (some ⟨g, 0, none⟩) k c) (dedup l) ∧ But (fun q => q = g) w (wr.setCells g (k * 3) vs) := by
  have hlow := h.low
  obtain ⟨cur, hn, hB, hg, r1, r2, r3, hc⟩ := cells_of_own h.own
  have hl := h.len
  have e : dedup (l.take (k0 + j)) = dedup l := by rw [hj, List.take_length]
  rw [← hn] at r1
  refine ⟨by omega, r1, cur, hg, by omega, fun vs => ⟨?_, h.but.trans (but_setCells (S := fun q => q = g) rfl _ _ _)⟩⟩
  rw [e] at hl hc
  have := own_of_cells (l := dedup l) (cap := c) hB (blk_setCells vs _ (k * 3) cur hg) (by omega) r2 (by rw [size_setMany]; exact r3) (fun t ht i hi => ?_)
  · rw [hl] at this; exact this
  · rw [setMany_lt vs cur (k * 3) (t * 3 + i) (by omega), hc t (by rw [List.length_append]; omega) i hi]
    congr 2
    rw [List.getD_eq_getElem?_getD, List.getD_eq_getElem?_getD, List.getElem?_append_left ht]

def CompPost (B g : Nat) (l : List Hld) (w : World) (e : Ending) (w' : World) : Prop := ∃ u, e = .returned u ∧ NewH B w' u (dedup l) ∧ But (fun q => q = g) w w'
set_option maxHeartbeats 8000000 in
set_option maxRecDepth 100000 in
theorem Compact_own {w : World} {B g c : Nat} {l : List Hld} (h : NewH B w (.slice (some ⟨g, 0, none⟩) l.length c) l) (hl : l.length ≤ 1000000) :
    Calls Tryz.prog 62 #[.slice (some ⟨g, 0, none⟩) l.length c, .func (.func 63) #[] #[]] w (CompPost B g l w) := by
  obtain ⟨cur, hn9, hB, hg, hlc, hcm, h98, h99⟩ := cells_of_own h
  clear hn9 h98 h99
  have H := Lib.hid h; have HC := Lib.hid hlc
  clear h hB hg hcm
  by_cases h2 : l.length < 2
  · have h2I : (l.length : Int) < 2 := by omega
    have HD := Lib.hid (dedup_few h2)
    clear h2
    go_enter Tryz.func62, Tryz.ntmps62
    go_wp2_with fail
    go_ret
    exact ⟨_, rfl, by rw [HD.out]; exact H.out, But.refl _ _⟩
  have h2I : ¬ (l.length : Int) < 2 := by omega
  have H2 := Lib.hid h2
  have hd1 : dedup (l.take 1) = l.take 1 := dedup_few (by rw [List.length_take]; omega)
  have HD1 := Lib.hid hd1
  clear h2 hd1
  go_enter Tryz.func62, Tryz.ntmps62
  go_wp2_with fail
  go_loopw [5] (fun vi wr => Hid (Below w.heap.size w wr) ∧ ∃ k : Nat, k ≤ l.length ∧ vi = .int .i64 k ∧ Hid (1 ≤ k) ∧ Hid (dedup (l.take k) = l.take k)) (fun vi _ => l.length - (intOf vi).toNat)
  case atStart => exact ⟨Lib.hid (Below.refl _ _), 1, by have := H2.out; omega, rfl, Lib.hid (Nat.le_refl _), HD1⟩
  case round =>
    obtain ⟨hB, k, hk, rfl, h1, hD⟩ := hrel
    by_cases hlt : k < l.length
    · obtain ⟨j, hj⟩ : ∃ j, j = k - 1 := ⟨_, rfl⟩
      have hjk : k = j + 1 := by have := h1.out; omega
      have hown : NewH B wr _ l := OwK.below H.out hB.out (Nat.le_refl _)
      have hy := HldsR.cells hown.rd k hlt
      have hx := HldsR.cells hown.rd j (by omega)
      have hst := dedup_snoc (l := l) (i := k) h1.out hlt
      rw [← hj] at hst
      have hsub : IntKind.i64.wrap ((k : Int) - 1) = (j : Int) := by rw [show ((k : Int) - 1) = (j : Int) by omega]; exact IntWalk.i64_in _ (by omega)
      obtain ⟨y, hye⟩ : ∃ y, y = l.getD k noHld := ⟨_, rfl⟩
      obtain ⟨x, hxe⟩ : ∃ x, x = l.getD j noHld := ⟨_, rfl⟩
      rw [← hye] at hy hst
      rw [← hxe] at hx hst
      have HY := Lib.hid hy; have HX := Lib.hid hx; have HSub := Lib.hid hsub; have HSt := Lib.hid hst; have HJ := Lib.hid hj; have HJK := Lib.hid hjk; have HLt := Lib.hid hlt; have HOwn := Lib.hid hown
      have HYe := Lib.hid hye; have HXe := Lib.hid hxe
      have hat1 := fun W => at_held W g 0 l.length c k hlt
      have hat2 := fun W => at_held W g 0 l.length c j (by omega)
      have HA1 := Lib.hid hat1; have HA2 := Lib.hid hat2
      clear hy hx hsub hst hj hjk hown hye hxe hat1 hat2
      go_upto_region 6 with fail
      by_cases he : y.id = x.id
      · have HE : Hid ((y.id == x.id) = true) := Lib.hid (by simpa using he)
        have HEq := Lib.hid he
        clear he
        refine AnyK.start wr.heap.size wr (by kernel_rfl) ?_
        have LD := Lib.hid (show Below wr.heap.size wr wr.drew from (Below.refl _ _).drew)
        generalize wr.drew = wd at LD ⊢
        refine AnyK.take 0 (.func (.func 63) #[] #[]) (LD.out) rfl (by kernel_rfl) (by kernel_rfl) (by kernel_rfl) (fun _ _ _ h => h) (by kernel_rfl) (fun W hW => by kernel_rfl) ?_
        refine AnyK.take 1 (.slice (some ⟨g, 0, none⟩) l.length c) (LD.out) rfl (by kernel_rfl) (by kernel_rfl) (by kernel_rfl) (fun _ _ _ h => h) (by kernel_rfl) (fun W hW => by kernel_rfl) ?_
        refine AnyK.take 2 (.int .i64 (k : Int)) (LD.out) rfl (by kernel_rfl) (by kernel_rfl) (by kernel_rfl) (fun _ _ _ h => h) (by kernel_rfl) (fun W hW => by kernel_rfl) ?_
        refine AnyK.take 3 (.pointer (some ⟨g, 0 + k * 3, none⟩)) (LD.out) rfl (by kernel_rfl) (by kernel_rfl) (by kernel_rfl) (fun _ _ _ h => h) (by kernel_rfl) (fun W hW => y_index (sv := .slice (some ⟨g, 0, none⟩) l.length c) (iv := .int .i64 (k : Int)) rfl (by kernel_rfl) (by kernel_rfl) (HA1.out W)) ?_
        refine AnyK.take 4 (.agg (heldC y).toArray) (LD.out) rfl (by kernel_rfl) (by kernel_rfl) (by kernel_rfl) (fun _ _ _ h => h) (by kernel_rfl) (fun W hW => y_load (sv := .pointer (some ⟨g, 0 + k * 3, none⟩)) rfl (by kernel_rfl) (l_held W _ _ _ (cell_to HY.out.1 hW) (cell_to HY.out.2.1 hW) (cell_to HY.out.2.2 hW))) ?_
        refine AnyK.take 5 (.slice (some ⟨g, 0, none⟩) l.length c) (LD.out) rfl (by kernel_rfl) (by kernel_rfl) (by kernel_rfl) (fun _ _ _ h => h) (by kernel_rfl) (fun W hW => by kernel_rfl) ?_
        refine AnyK.take 6 (.int .i64 (k : Int)) (LD.out) rfl (by kernel_rfl) (by kernel_rfl) (by kernel_rfl) (fun _ _ _ h => h) (by kernel_rfl) (fun W hW => by kernel_rfl) ?_
        refine AnyK.take 7 (.int .i64 (j : Int)) (LD.out) rfl (by kernel_rfl) (by kernel_rfl) (by kernel_rfl) (fun _ _ _ h => h) (by kernel_rfl) (fun W hW => y_bin (x := .int .i64 (k : Int)) (y := .int .i64 1) rfl (by kernel_rfl) (by kernel_rfl) rfl (sub_i64 W _ _ _ HSub.out)) ?_
        refine AnyK.take 8 (.pointer (some ⟨g, 0 + j * 3, none⟩)) (LD.out) rfl (by kernel_rfl) (by kernel_rfl) (by kernel_rfl) (fun _ _ _ h => h) (by kernel_rfl) (fun W hW => y_index (sv := .slice (some ⟨g, 0, none⟩) l.length c) (iv := .int .i64 (j : Int)) rfl (by kernel_rfl) (by kernel_rfl) (HA2.out W)) ?_
        refine AnyK.take 9 (.agg (heldC x).toArray) (LD.out) rfl (by kernel_rfl) (by kernel_rfl) (by kernel_rfl) (fun _ _ _ h => h) (by kernel_rfl) (fun W hW => y_load (sv := .pointer (some ⟨g, 0 + j * 3, none⟩)) rfl (by kernel_rfl) (l_held W _ _ _ (cell_to HX.out.1 hW) (cell_to HX.out.2.1 hW) (cell_to HX.out.2.2 hW))) ?_
        refine AnyK.call 10 63 #[.agg (heldC y).toArray, .agg (heldC x).toArray] (by kernel_rfl) rfl (by kernel_rfl) (by kernel_rfl) ((same_any _ _ _ HE.out wd).mono ?_)
        rintro e w2 ⟨rfl, l9⟩
        have L2 := LD.out.trans (l9.mono LD.out.size)
        refine ⟨_, rfl, L2, ?_⟩
        refine AnyK.done _ (by kernel_rfl) ?_
        go_simp
        have HL2 := Lib.hid L2
        clear l9 LD L2
        have HBx := Lib.hid (hB.out.trans (HL2.out.mono hB.out.size))
        have HS0 : Hid (CJ l B g c w w2 k k 1) := Lib.hid (by
          have e1 := HSt.out
          rw [if_pos HEq.out, List.append_nil, hD.out] at e1
          have hl1 : (l.take k).length = k := by rw [List.length_take]; have := HLt.out; omega
          refine ⟨by rw [e1]; exact hl1, Nat.le_refl _, ?_, But.mono (But.of_new HBx.out) (fun q hq (he : False) => he.elim)⟩
          rw [e1, List.take_append_drop]
          exact OwK.below HOwn.out HL2.out (Nat.le_refl _))
        have HSl := fun W => sl_held W g 0 l.length c k (by have := HLt.out; omega) (by have := HLt.out; have := HC.out; omega)
        have HSl := Lib.hid HSl
        rw [Nat.zero_add] at HSl
        obtain ⟨k0, hk0⟩ : ∃ k0, k0 = k := ⟨_, rfl⟩
        obtain ⟨n2, hn2⟩ : ∃ n2, n2 = l.length - k0 := ⟨_, rfl⟩
        rw [← hk0] at HSl HS0 HLt
        rw [← hn2] at HSl
        have HN2 := Lib.hid hn2
        rw [← hk0]
        have hn2b : n2 ≤ 1000000 := by omega
        clear hn2 HYe HXe HSt HSub HA1 HA2 HY HX HE HEq HJ HJK hD h1 hk0 HBx
        go_wp2_with (refine wpList_slice rfl _ _ _ _ rfl _ _ _ _ rfl rfl rfl (HSl.out _) ?_)
        go_loopw [5, 7] (fun vk vj wr => ∃ k j : Nat, vk = .int .i64 k ∧ vj = .int .i64 j ∧ j ≤ n2 ∧ k ≤ 1000000 ∧ Hid (1 ≤ j) ∧ Hid (CJ l B g c w wr k0 k j)) (fun _ vj _ => n2 - (intOf vj).toNat)
        case atStart => exact ⟨k0, 1, rfl, rfl, by have := HN2.out; have := HLt.out; omega, by have := HLt.out; omega, Lib.hid (Nat.le_refl _), HS0⟩
        case round =>
          obtain ⟨k, j, rfl, rfl, hjn, hkb, h1j, hJ⟩ := hrel
          by_cases hjl : j < n2
          · obtain ⟨i, hi⟩ : ∃ i, i = j - 1 := ⟨_, rfl⟩
            have hij : j = i + 1 := by have := h1j.out; omega
            have hkl : k0 + j < l.length := by have := HN2.out; omega
            have hlow := hJ.out.low
            have hy := hJ.out.cells (k0 + j) hkl (by omega)
            have hx := hJ.out.cells (k0 + i) (by omega) (by omega)
            have hz := hJ.out.cells k (by omega) (Nat.le_refl _)
            have hsk := hJ.out.skip h1j.out hkl
            have hkp := fun w3 (hb : Below wr.heap.size wr w3) => (hJ.out.below hb).keep h1j.out hkl
            rw [show k0 + j - 1 = k0 + i by omega] at hsk hkp
            have hsub : IntKind.i64.wrap ((j : Int) - 1) = (i : Int) := by rw [show ((j : Int) - 1) = (i : Int) by omega]; exact IntWalk.i64_in _ (by omega)
            have hat1 := fun W => at_held W g (k0 * 3) n2 (c - k0) j hjl
            have hat2 := fun W => at_held W g (k0 * 3) n2 (c - k0) i (by omega)
            obtain ⟨cur2, hn9, hB9, hg2, hr9⟩ := cells_of_own hJ.out.own
            clear hn9 hB9 hr9
            obtain ⟨y, hye⟩ : ∃ y, y = l.getD (k0 + j) noHld := ⟨_, rfl⟩
            obtain ⟨x, hxe⟩ : ∃ x, x = l.getD (k0 + i) noHld := ⟨_, rfl⟩
            obtain ⟨z, hze⟩ : ∃ z, z = l.getD k noHld := ⟨_, rfl⟩
            rw [← hye] at hy hsk hkp
            rw [← hxe] at hx hsk hkp
            rw [← hze] at hz
            rw [Nat.add_mul] at hy hx
            have HY := Lib.hid hy; have HX := Lib.hid hx; have HZ := Lib.hid hz; have HSk := Lib.hid hsk; have HKp := Lib.hid hkp; have HSub := Lib.hid hsub; have HA1 := Lib.hid hat1; have HA2 := Lib.hid hat2
            have HI := Lib.hid hi; have HIJ := Lib.hid hij; have HG2 := Lib.hid hg2; have HKl := Lib.hid hkl
            clear hy hx hz hsk hkp hsub hat1 hat2 hi hij hg2 hlow hye hxe hze
            go_upto_region 11 with fail
            by_cases he : y.id = x.id
            · have HE : Hid ((y.id == x.id) = true) := Lib.hid (by simpa using he)
              have HS2 := Lib.hid (HSk.out he)
              clear he
              refine AnyK.start wr.heap.size wr (by kernel_rfl) ?_
              have LD := Lib.hid (show Below wr.heap.size wr wr.drew from (Below.refl _ _).drew)
              generalize wr.drew = wd at LD ⊢
              refine AnyK.take 0 (.func (.func 63) #[] #[]) (LD.out) rfl (by kernel_rfl) (by kernel_rfl) (by kernel_rfl) (fun _ _ _ h => h) (by kernel_rfl) (fun W hW => by kernel_rfl) ?_
              refine AnyK.take 1 (.slice (some ⟨g, k0 * 3, none⟩) n2 (c - k0)) (LD.out) rfl (by kernel_rfl) (by kernel_rfl) (by kernel_rfl) (fun _ _ _ h => h) (by kernel_rfl) (fun W hW => by kernel_rfl) ?_
              refine AnyK.take 2 (.int .i64 (j : Int)) (LD.out) rfl (by kernel_rfl) (by kernel_rfl) (by kernel_rfl) (fun _ _ _ h => h) (by kernel_rfl) (fun W hW => by kernel_rfl) ?_
              refine AnyK.take 3 (.pointer (some ⟨g, k0 * 3 + j * 3, none⟩)) (LD.out) rfl (by kernel_rfl) (by kernel_rfl) (by kernel_rfl) (fun _ _ _ h => h) (by kernel_rfl) (fun W hW => y_index (sv := .slice (some ⟨g, k0 * 3, none⟩) n2 (c - k0)) (iv := .int .i64 (j : Int)) rfl (by kernel_rfl) (by kernel_rfl) (HA1.out W)) ?_
              refine AnyK.take 4 (.agg (heldC y).toArray) (LD.out) rfl (by kernel_rfl) (by kernel_rfl) (by kernel_rfl) (fun _ _ _ h => h) (by kernel_rfl) (fun W hW => y_load (sv := .pointer (some ⟨g, k0 * 3 + j * 3, none⟩)) rfl (by kernel_rfl) (l_held W _ _ _ (cell_to HY.out.1 hW) (cell_to HY.out.2.1 hW) (cell_to HY.out.2.2 hW))) ?_
              refine AnyK.take 5 (.slice (some ⟨g, k0 * 3, none⟩) n2 (c - k0)) (LD.out) rfl (by kernel_rfl) (by kernel_rfl) (by kernel_rfl) (fun _ _ _ h => h) (by kernel_rfl) (fun W hW => by kernel_rfl) ?_
              refine AnyK.take 6 (.int .i64 (j : Int)) (LD.out) rfl (by kernel_rfl) (by kernel_rfl) (by kernel_rfl) (fun _ _ _ h => h) (by kernel_rfl) (fun W hW => by kernel_rfl) ?_
              refine AnyK.take 7 (.int .i64 (i : Int)) (LD.out) rfl (by kernel_rfl) (by kernel_rfl) (by kernel_rfl) (fun _ _ _ h => h) (by kernel_rfl) (fun W hW => y_bin (x := .int .i64 (j : Int)) (y := .int .i64 1) rfl (by kernel_rfl) (by kernel_rfl) rfl (sub_i64 W _ _ _ HSub.out)) ?_
              refine AnyK.take 8 (.pointer (some ⟨g, k0 * 3 + i * 3, none⟩)) (LD.out) rfl (by kernel_rfl) (by kernel_rfl) (by kernel_rfl) (fun _ _ _ h => h) (by kernel_rfl) (fun W hW => y_index (sv := .slice (some ⟨g, k0 * 3, none⟩) n2 (c - k0)) (iv := .int .i64 (i : Int)) rfl (by kernel_rfl) (by kernel_rfl) (HA2.out W)) ?_
              refine AnyK.take 9 (.agg (heldC x).toArray) (LD.out) rfl (by kernel_rfl) (by kernel_rfl) (by kernel_rfl) (fun _ _ _ h => h) (by kernel_rfl) (fun W hW => y_load (sv := .pointer (some ⟨g, k0 * 3 + i * 3, none⟩)) rfl (by kernel_rfl) (l_held W _ _ _ (cell_to HX.out.1 hW) (cell_to HX.out.2.1 hW) (cell_to HX.out.2.2 hW))) ?_
              refine AnyK.call 10 63 #[.agg (heldC y).toArray, .agg (heldC x).toArray] (by kernel_rfl) rfl (by kernel_rfl) (by kernel_rfl) ((same_any _ _ _ HE.out wd).mono ?_)
              rintro e w2 ⟨rfl, l9⟩
              have L2 := LD.out.trans (l9.mono LD.out.size)
              refine ⟨_, rfl, L2, ?_⟩
              refine AnyK.take 11 (.bool false) (L2) rfl (by kernel_rfl) (by kernel_rfl) (by kernel_rfl) (fun _ _ _ h => h) (by kernel_rfl) (fun W hW => by kernel_rfl) ?_
              refine AnyK.done _ (by kernel_rfl) ?_
              go_simp
              have HL2 := Lib.hid L2
              clear l9 LD L2
              have HS3 := Lib.hid (HS2.out.below HL2.out)
              go_wp2_with fail
              go_roundw
              case rel => exact ⟨k, j + 1, rfl, by go_num, hjl, hkb, Lib.hid (Nat.le_add_left _ _), HS3⟩
              case measure => simp [intOf]; omega
            · have HE : Hid ((y.id == x.id) = false) := Lib.hid (by simpa using he)
              have HNe := Lib.hid he
              clear he
              refine AnyK.start wr.heap.size wr (by kernel_rfl) ?_
              have LD := Lib.hid (show Below wr.heap.size wr wr.drew from (Below.refl _ _).drew)
              generalize wr.drew = wd at LD ⊢
              refine AnyK.take 0 (.func (.func 63) #[] #[]) (LD.out) rfl (by kernel_rfl) (by kernel_rfl) (by kernel_rfl) (fun _ _ _ h => h) (by kernel_rfl) (fun W hW => by kernel_rfl) ?_
              refine AnyK.take 1 (.slice (some ⟨g, k0 * 3, none⟩) n2 (c - k0)) (LD.out) rfl (by kernel_rfl) (by kernel_rfl) (by kernel_rfl) (fun _ _ _ h => h) (by kernel_rfl) (fun W hW => by kernel_rfl) ?_
              refine AnyK.take 2 (.int .i64 (j : Int)) (LD.out) rfl (by kernel_rfl) (by kernel_rfl) (by kernel_rfl) (fun _ _ _ h => h) (by kernel_rfl) (fun W hW => by kernel_rfl) ?_
              refine AnyK.take 3 (.pointer (some ⟨g, k0 * 3 + j * 3, none⟩)) (LD.out) rfl (by kernel_rfl) (by kernel_rfl) (by kernel_rfl) (fun _ _ _ h => h) (by kernel_rfl) (fun W hW => y_index (sv := .slice (some ⟨g, k0 * 3, none⟩) n2 (c - k0)) (iv := .int .i64 (j : Int)) rfl (by kernel_rfl) (by kernel_rfl) (HA1.out W)) ?_
              refine AnyK.take 4 (.agg (heldC y).toArray) (LD.out) rfl (by kernel_rfl) (by kernel_rfl) (by kernel_rfl) (fun _ _ _ h => h) (by kernel_rfl) (fun W hW => y_load (sv := .pointer (some ⟨g, k0 * 3 + j * 3, none⟩)) rfl (by kernel_rfl) (l_held W _ _ _ (cell_to HY.out.1 hW) (cell_to HY.out.2.1 hW) (cell_to HY.out.2.2 hW))) ?_
              refine AnyK.take 5 (.slice (some ⟨g, k0 * 3, none⟩) n2 (c - k0)) (LD.out) rfl (by kernel_rfl) (by kernel_rfl) (by kernel_rfl) (fun _ _ _ h => h) (by kernel_rfl) (fun W hW => by kernel_rfl) ?_
              refine AnyK.take 6 (.int .i64 (j : Int)) (LD.out) rfl (by kernel_rfl) (by kernel_rfl) (by kernel_rfl) (fun _ _ _ h => h) (by kernel_rfl) (fun W hW => by kernel_rfl) ?_
              refine AnyK.take 7 (.int .i64 (i : Int)) (LD.out) rfl (by kernel_rfl) (by kernel_rfl) (by kernel_rfl) (fun _ _ _ h => h) (by kernel_rfl) (fun W hW => y_bin (x := .int .i64 (j : Int)) (y := .int .i64 1) rfl (by kernel_rfl) (by kernel_rfl) rfl (sub_i64 W _ _ _ HSub.out)) ?_
              refine AnyK.take 8 (.pointer (some ⟨g, k0 * 3 + i * 3, none⟩)) (LD.out) rfl (by kernel_rfl) (by kernel_rfl) (by kernel_rfl) (fun _ _ _ h => h) (by kernel_rfl) (fun W hW => y_index (sv := .slice (some ⟨g, k0 * 3, none⟩) n2 (c - k0)) (iv := .int .i64 (i : Int)) rfl (by kernel_rfl) (by kernel_rfl) (HA2.out W)) ?_
              refine AnyK.take 9 (.agg (heldC x).toArray) (LD.out) rfl (by kernel_rfl) (by kernel_rfl) (by kernel_rfl) (fun _ _ _ h => h) (by kernel_rfl) (fun W hW => y_load (sv := .pointer (some ⟨g, k0 * 3 + i * 3, none⟩)) rfl (by kernel_rfl) (l_held W _ _ _ (cell_to HX.out.1 hW) (cell_to HX.out.2.1 hW) (cell_to HX.out.2.2 hW))) ?_
              refine AnyK.call 10 63 #[.agg (heldC y).toArray, .agg (heldC x).toArray] (by kernel_rfl) rfl (by kernel_rfl) (by kernel_rfl) ((same_any _ _ _ HE.out wd).mono ?_)
              rintro e w2 ⟨rfl, l9⟩
              have L2 := LD.out.trans (l9.mono LD.out.size)
              refine ⟨_, rfl, L2, ?_⟩
              refine AnyK.take 11 (.bool true) (L2) rfl (by kernel_rfl) (by kernel_rfl) (by kernel_rfl) (fun _ _ _ h => h) (by kernel_rfl) (fun W hW => by kernel_rfl) ?_
              refine AnyK.done _ (by kernel_rfl) ?_
              go_simp
              have HL2 := Lib.hid L2
              clear l9 LD L2
              have HS3 := Lib.hid (HKp.out w2 HL2.out HNe.out)
              have hat3 := fun W => at_held W g 0 l.length c k (by have := hJ.out.low; have := HKl.out; omega)
              have hb2 := HL2.out
              obtain ⟨yi, yk, yd⟩ := y
              have p0 := cell_to HY.out.1 HL2.out
              have p1 := cell_to HY.out.2.1 HL2.out
              have p2 := cell_to HY.out.2.2 HL2.out
              have q0 := cell_to HZ.out.1 HL2.out
              have q1 := cell_to HZ.out.2.1 HL2.out
              have q2 := cell_to HZ.out.2.2 HL2.out
              have hg3 := (HL2.out.block _ (lt_heap HG2.out)).trans HG2.out
              have f0 := frozen_of (i := k * 3) hg3
              have f1 := frozen_of (i := k * 3 + 1) hg3
              have f2 := frozen_of (i := k * 3 + 2) hg3
              unfold SV at p0 p2
              simp only at p0 p1 p2
              have hkb2 : k < 1000000 := by have := hJ.out.low; have := HKl.out; omega
              have hkl2 : k < l.length := by have := hJ.out.low; have := HKl.out; omega
              clear hat3 hb2 hg3
              go_wp2_with fail
              go_roundw
              case rel => exact ⟨k + 1, j + 1, by go_num, by go_num, hjl, hkb2, Lib.hid (Nat.le_add_left _ _), HS3⟩
              case measure => simp [intOf]; omega
          · obtain rfl : j = n2 := by omega
            have hkl : k0 + j = l.length := by have := HN2.out; have := HLt.out; omega
            obtain ⟨d1, d2, cur2, d3, d4, d5⟩ := hJ.out.done hkl
            have HSl2 := Lib.hid (fun W => sl_held W g 0 l.length c k (by omega) (by omega))
            have HSh := Lib.hid (fun W => sh_held W g 0 l.length c k (by omega))
            rw [Nat.zero_add] at HSl2
            have D3 := Lib.hid d3; have D4 := Lib.hid d4; have D5 := Lib.hid d5; have D1 := Lib.hid d1
            clear d1 d2 d3 d4 d5 hkl
            go_wp2_with (first | (refine wpList_slice rfl _ _ _ _ rfl _ _ _ _ rfl rfl rfl (HSl2.out _) ?_) | (refine wpList_slice rfl _ _ _ _ rfl _ _ _ _ rfl rfl rfl (HSh.out _) ?_) | (refine wpList_clearH rfl _ rfl g k (l.length - k) (c - k) cur2 rfl D3.out (Nat.sub_pos_of_lt D1.out) D4.out ?_; intro vs))
            go_ret
            exact ⟨_, rfl, (D5.out _).1, (D5.out _).2⟩
      · have HE : Hid ((y.id == x.id) = false) := Lib.hid (by simpa using he)
        have HD2 : Hid (dedup (l.take (k + 1)) = l.take (k + 1)) := Lib.hid (by
          have e1 := HSt.out
          rw [if_neg he, hD.out, HYe.out] at e1
          rw [e1, take_getD l noHld k HLt.out])
        clear he
        refine AnyK.start wr.heap.size wr (by kernel_rfl) ?_
        have LD := Lib.hid (show Below wr.heap.size wr wr.drew from (Below.refl _ _).drew)
        generalize wr.drew = wd at LD ⊢
        refine AnyK.take 0 (.func (.func 63) #[] #[]) (LD.out) rfl (by kernel_rfl) (by kernel_rfl) (by kernel_rfl) (fun _ _ _ h => h) (by kernel_rfl) (fun W hW => by kernel_rfl) ?_
        refine AnyK.take 1 (.slice (some ⟨g, 0, none⟩) l.length c) (LD.out) rfl (by kernel_rfl) (by kernel_rfl) (by kernel_rfl) (fun _ _ _ h => h) (by kernel_rfl) (fun W hW => by kernel_rfl) ?_
        refine AnyK.take 2 (.int .i64 (k : Int)) (LD.out) rfl (by kernel_rfl) (by kernel_rfl) (by kernel_rfl) (fun _ _ _ h => h) (by kernel_rfl) (fun W hW => by kernel_rfl) ?_
        refine AnyK.take 3 (.pointer (some ⟨g, 0 + k * 3, none⟩)) (LD.out) rfl (by kernel_rfl) (by kernel_rfl) (by kernel_rfl) (fun _ _ _ h => h) (by kernel_rfl) (fun W hW => y_index (sv := .slice (some ⟨g, 0, none⟩) l.length c) (iv := .int .i64 (k : Int)) rfl (by kernel_rfl) (by kernel_rfl) (HA1.out W)) ?_
        refine AnyK.take 4 (.agg (heldC y).toArray) (LD.out) rfl (by kernel_rfl) (by kernel_rfl) (by kernel_rfl) (fun _ _ _ h => h) (by kernel_rfl) (fun W hW => y_load (sv := .pointer (some ⟨g, 0 + k * 3, none⟩)) rfl (by kernel_rfl) (l_held W _ _ _ (cell_to HY.out.1 hW) (cell_to HY.out.2.1 hW) (cell_to HY.out.2.2 hW))) ?_
        refine AnyK.take 5 (.slice (some ⟨g, 0, none⟩) l.length c) (LD.out) rfl (by kernel_rfl) (by kernel_rfl) (by kernel_rfl) (fun _ _ _ h => h) (by kernel_rfl) (fun W hW => by kernel_rfl) ?_
        refine AnyK.take 6 (.int .i64 (k : Int)) (LD.out) rfl (by kernel_rfl) (by kernel_rfl) (by kernel_rfl) (fun _ _ _ h => h) (by kernel_rfl) (fun W hW => by kernel_rfl) ?_
        refine AnyK.take 7 (.int .i64 (j : Int)) (LD.out) rfl (by kernel_rfl) (by kernel_rfl) (by kernel_rfl) (fun _ _ _ h => h) (by kernel_rfl) (fun W hW => y_bin (x := .int .i64 (k : Int)) (y := .int .i64 1) rfl (by kernel_rfl) (by kernel_rfl) rfl (sub_i64 W _ _ _ HSub.out)) ?_
        refine AnyK.take 8 (.pointer (some ⟨g, 0 + j * 3, none⟩)) (LD.out) rfl (by kernel_rfl) (by kernel_rfl) (by kernel_rfl) (fun _ _ _ h => h) (by kernel_rfl) (fun W hW => y_index (sv := .slice (some ⟨g, 0, none⟩) l.length c) (iv := .int .i64 (j : Int)) rfl (by kernel_rfl) (by kernel_rfl) (HA2.out W)) ?_
        refine AnyK.take 9 (.agg (heldC x).toArray) (LD.out) rfl (by kernel_rfl) (by kernel_rfl) (by kernel_rfl) (fun _ _ _ h => h) (by kernel_rfl) (fun W hW => y_load (sv := .pointer (some ⟨g, 0 + j * 3, none⟩)) rfl (by kernel_rfl) (l_held W _ _ _ (cell_to HX.out.1 hW) (cell_to HX.out.2.1 hW) (cell_to HX.out.2.2 hW))) ?_
        refine AnyK.call 10 63 #[.agg (heldC y).toArray, .agg (heldC x).toArray] (by kernel_rfl) rfl (by kernel_rfl) (by kernel_rfl) ((same_any _ _ _ HE.out wd).mono ?_)
        rintro e w2 ⟨rfl, l9⟩
        have L2 := LD.out.trans (l9.mono LD.out.size)
        refine ⟨_, rfl, L2, ?_⟩
        refine AnyK.done _ (by kernel_rfl) ?_
        go_simp
        have HL2 := Lib.hid L2
        clear l9 LD L2
        have HBx := Lib.hid (hB.out.trans (HL2.out.mono hB.out.size))
        go_wp2_with fail
        go_roundw
        case rel => exact ⟨HBx, k + 1, hlt, by go_num, Lib.hid (Nat.le_add_left _ _), HD2⟩
        case measure => simp [intOf]; omega
    · obtain rfl : k = l.length := by omega
      have hd := hD.out
      rw [List.take_length] at hd
      have HD := Lib.hid hd
      clear hd
      go_wp2_with fail
      go_ret
      exact ⟨_, rfl, by rw [HD.out]; exact OwK.below H.out hB.out (Nat.le_refl _), But.of_new hB.out⟩
end Go.Proofs.YtbglfnbdhdbjjaaGreatDoor
