/-
  Refs sorted by their names; a map told as a list.
-/
import Derived.Test.YtfnepffccenebaaGreatDoorRFits
import Derived.Test.YtfnepffccenebaaGreatDoorRSort
import Derived.Shelf.Small.Bits
namespace Go.Proofs.YtfnepffccenebaaGreatDoor.Rf
open Go.Proofs.YtfnepffccenebaaGreatDoor
open Go Go.RowKit Go.Shelf Go.Sort Go.Maps

theorem cmp_lt : ∀ a b : Bs, Lib.compareBytes a b < 0 ↔ a < b
  | [], [] => by simp [Lib.compareBytes]
  | [], b :: m => by simp [Lib.compareBytes]
  | a :: l, [] => by simp [Lib.compareBytes]
  | a :: l, b :: m => by
    unfold Lib.compareBytes
    rw [List.cons_lt_cons_iff]
    by_cases h : a < b
    · rw [if_pos h]; simp [h]
    · rw [if_neg h]
      by_cases h2 : b < a
      · rw [if_pos h2]
        have : ¬ a = b := fun e => by rw [e] at h2; exact absurd h2 (by simp)
        simp [h, this]
      · rw [if_neg h2, cmp_lt l m]
        have : a = b := by
          have h1 : ¬ a.toNat < b.toNat := h
          have h3 : ¬ b.toNat < a.toNat := h2
          exact UInt8.toNat_inj.1 (by omega)
        simp [this]
def cmpN (x y : Ref) : Int := Lib.compareBytes x.name y.name
theorem ltN (x y : Ref) : ltOf cmpN x y = decide (x.name < y.name) := by
  unfold ltOf cmpN
  rw [decide_eq_decide]; exact cmp_lt _ _
theorem swoN : SWO (ltOf cmpN) where
  irrefl x := by rw [ltN]; exact decide_eq_false (lt_irr _)
  trans x y z h1 h2 := by rw [ltN] at *; exact decide_eq_true (lt_tr (of_decide_eq_true h1) (of_decide_eq_true h2))
  ntrans x y z h1 h2 := by
    rw [ltN] at *
    have a := of_decide_eq_false h1
    have b := of_decide_eq_false h2
    refine decide_eq_false fun h => ?_
    rcases lt_cases x.name y.name with h3 | h3 | h3
    · exact a h3
    · rw [h3] at h; exact b h
    · exact b (lt_tr h3 h)
set_option maxHeartbeats 2000000 in
set_option maxRecDepth 100000 in
theorem list1_p (x y : Ref) (W : World) : Calls Tryz.prog 62 #[.agg (refC x).toArray, .agg (refC y).toArray] W fun e w' => e = .returned (.int .i64 (cmpN x y)) ∧ ∃ q os', w' = grow (W.drewN q) os' := by
  obtain ⟨xn, xi⟩ := x
  obtain ⟨yn, yi⟩ := y
  unfold refC SV cmpN
  simp only
  have HC := fun w => Lib.hid (Any.strings_Compare Tryz.cmpA ⟨xn.toArray⟩ ⟨yn.toArray⟩ w)
  go_enter Tryz.func62, Tryz.ntmps62
  go_wp2_with fail
  refine (HC _).out.mono ?_
  rintro e w2 ⟨rfl, rfl⟩
  go_wp2_with fail
  go_ret
  refine ⟨by simp, 0, #[.cells #[.string ⟨xn.toArray⟩, .string ⟨xi.toArray⟩] 45, .cells #[.string ⟨yn.toArray⟩, .string ⟨yi.toArray⟩] 45], ?_⟩
  rw [alloc_eq_grow, alloc_eq_grow, grow_grow]; rfl
set_option maxHeartbeats 1000000 in
theorem ins_none (A : Option Addr) (c : Nat) (fv : Value) (w : World) : Calls Tryz.prog 95 #[.slice A 0 c, .int .i64 0, .int .i64 0, fv] w fun e w' => e = .returned (.tuple #[]) ∧ w' = w := by
  go_enter Tryz.func95, Tryz.ntmps95
  go_wp2
  refine wp_loop_rounds 1 ?_
  rw [rounds_succ]
  go_wp2
  go_end0
  exact ⟨rfl, rfl⟩
set_option maxRecDepth 100000 in
set_option maxHeartbeats 1000000 in
theorem pdq_none (A : Option Addr) (c : Nat) (lim : Int) (fv : Value) (w : World) : Calls Tryz.prog 73 #[.slice A 0 c, .int .i64 0, .int .i64 0, .int .i64 lim, fv] w fun e w' => e = .returned (.tuple #[]) ∧ w' = w := by
  have hi := fun W => ins_none A c fv W
  go_enter Tryz.func73, Tryz.ntmps73
  go_wp2
  refine wp_loop_rounds 1 ?_
  rw [rounds_succ]
  go_wp2_with (refine (hi _).mono ?_; rintro e w' ⟨rfl, rfl⟩)
  (try simp only [Exit.inBlock, Exit.then]); refine bodyPost_ret (results_none rfl _ _ _) rfl ?_
  exact ⟨rfl, rfl⟩
theorem frozen_of {W : World} {b i : Nat} {cs : Array Value} {t : TypeId} (h : W.heap[b]? = some (.cells cs t (0, 0))) : W.frozen? ⟨b, i, none⟩ = false := by
  simp [World.frozen?, h]
def noRef : Ref := ⟨[], []⟩
instance : Inhabited Ref := ⟨noRef⟩
theorem own_of_cells {w : World} {B g cap : Nat} {cur : Array Value} {l : List Ref} (hB : B ≤ g) (hg : w.heap[g]? = some (.cells cur 45 (0, 0))) (h1 : l.length ≤ cap) (h2 : cap ≤ maxLen) (h3 : cur.size = cap * 2)
    (hc : ∀ j, j < l.length → ∀ i, i < 2 → cur[j * 2 + i]? = (refC (l.getD j noRef))[i]?) : OwK 45 2 refC w B (.slice (some ⟨g, 0, none⟩) l.length cap) l := by
  refine ⟨flat_length refC_len l, .inr ⟨g, cap, cur, rfl, hB, hg, h1, h2, h3, ?_⟩⟩
  apply List.ext_getElem?
  intro t
  by_cases ht : t < l.length * 2
  · rw [List.getElem?_take_of_lt ht, Array.getElem?_toList]
    have hq : t / 2 < l.length := by omega
    have hr : t % 2 < 2 := by omega
    have e : t / 2 * 2 + t % 2 = t := by omega
    have := hc (t / 2) hq (t % 2) hr
    rw [e] at this
    have h4 := flat_get refC_len l (t / 2) _ (List.getElem?_eq_getElem hq) (t % 2) hr
    rw [e] at h4
    rw [this, h4, List.getD_eq_getElem?_getD, List.getElem?_eq_getElem hq]; rfl
  · rw [List.getElem?_take_eq_none (by omega), List.getElem?_eq_none (by rw [flat_length refC_len]; omega)]
theorem cells_of_own {w : World} {B g c n : Nat} {l : List Ref} (h : OwK 45 2 refC w B (.slice (some ⟨g, 0, none⟩) n c) l) : ∃ cur, n = l.length ∧ B ≤ g ∧ w.heap[g]? = some (.cells cur 45 (0, 0)) ∧ l.length ≤ c ∧ c ≤ maxLen ∧ cur.size = c * 2 ∧ ∀ j, j < l.length → ∀ i, i < 2 → cur[j * 2 + i]? = (refC (l.getD j noRef))[i]? := by
  have hr := OwK.rd refC_len h
  rcases h.2 with ⟨h0, _⟩ | ⟨g', cap, cur, e, hbg, hg, hnc, hcm, hcs, _⟩
  · cases h0
  · cases e
    refine ⟨cur, rfl, hbg, hg, hnc, hcm, hcs, fun j hj i hi => ?_⟩
    rcases hr with ⟨⟨A, c', e⟩, rfl⟩ | ⟨g2, o2, c2, e, _, _, hcell⟩
    · cases hj
    · cases e
      have := hcell j hj _ (List.getElem?_eq_getElem hj) i hi
      rw [cell_of_row w g _ cur _ _ hg, Nat.zero_add] at this
      rw [this, List.getD_eq_getElem?_getD, List.getElem?_eq_getElem hj]; rfl
theorem holdsK_of {w : World} {g : Nat} {cur : Array Value} {l : List Ref} (hg : w.heap[g]? = some (.cells cur 45 (0, 0))) (hc : ∀ j, j < l.length → ∀ i, i < 2 → cur[j * 2 + i]? = (refC (l.getD j noRef))[i]?) :
    HoldsK refC 2 w g 0 l.toArray := by
  intro t ht
  rw [size_flatK] at ht
  have hs : l.toArray.size = l.length := by simp
  rw [hs] at ht
  refine ⟨?_, frozen_of hg⟩
  have hq : t / 2 < l.length := by omega
  have hr : t % 2 < 2 := by omega
  have e : t / 2 * 2 + t % 2 = t := by omega
  have := hc (t / 2) hq (t % 2) hr
  rw [e] at this
  rw [get_flatK refC 2 l.toArray t (by rw [hs]; exact ht), Nat.zero_add, cell_of_row w g t cur _ _ hg, this]
  have e2 : l.toArray[t / 2]! = l.getD (t / 2) noRef := by
    rw [getElem!_pos _ _ (by simpa using hq), List.getD_eq_getElem?_getD, List.getElem?_eq_getElem hq]; simp
  rw [e2]
  have hl := refC_len (l.getD (t / 2) noRef)
  rw [List.getElem?_eq_getElem (by omega), getElem!_pos _ _ (by omega)]; rfl
theorem heap_sortedK {w : World} {g n : Nat} {os : Array Obj} {cur : Array Value} {e : TypeId} {fr : Nat × Nat} (d : Array Ref) (hb : w.heap[g]? = some (.cells cur e fr)) :
    (sortWorldK refC 2 w g 0 n d os).heap[g]? = some (.cells (putCells id 0 (flatK refC 2 d) cur) e fr) := by
  have hg : g < w.heap.size := (Array.getElem?_eq_some_iff.1 hb).1
  unfold sortWorldK putRowK
  rw [heap_grow_old _ _ (by simpa using hg)]
  simp [putRow, mapBlock, Sort.ahead, Array.getElem?_modify, hb, onCells]
theorem but_sortedK {w : World} {g n : Nat} {os : Array Obj} (d : Array Ref) : But (fun k => some g = some k) w (sortWorldK refC 2 w g 0 n d os) := by
  unfold sortWorldK putRowK
  refine ⟨rfl, rfl, rfl, by simp, fun k hk hne => ?_⟩
  rw [heap_grow_old _ _ (by simpa using hk)]
  have : g ≠ k := fun e => hne (by rw [e])
  simp [putRow, mapBlock, Sort.ahead, Array.getElem?_modify, this]
theorem own_sortedK {w : World} {B g c n : Nat} {l : List Ref} (h : OwK 45 2 refC w B (.slice (some ⟨g, 0, none⟩) l.length c) l) (d : Array Ref) (hd : d.size = l.length) (os : Array Obj) :
    OwK 45 2 refC (sortWorldK refC 2 w g 0 n d os) B (.slice (some ⟨g, 0, none⟩) l.length c) d.toList := by
  obtain ⟨cur, _, hB, hg, h1, h2, h3, hc⟩ := cells_of_own h
  have := own_of_cells (l := d.toList) hB (heap_sortedK (n := n) (os := os) d hg) (by simp [hd]; exact h1) h2 (by simp [putCells, h3]) (fun j hj i hi => ?_)
  · simpa [hd] using this
  · have hj' : j < d.size := by simpa using hj
    have h5 : j * 2 + i < cur.size := by omega
    have h6 : j * 2 + i < d.size * 2 := by omega
    have e1 : (j * 2 + i) / 2 = j := by omega
    have e2 : (j * 2 + i) % 2 = i := by omega
    rw [putCells, Array.getElem?_mapIdx, Array.getElem?_eq_getElem h5]
    simp only [Option.map_some, Nat.zero_le, Nat.zero_add, size_flatK, h6, and_self, if_true, Nat.sub_zero, id_eq]
    rw [get_flatK refC 2 d _ h6, e1, e2, getElem!_pos d j hj', List.getD_eq_getElem?_getD, List.getElem?_eq_getElem hj]
    have hl := refC_len (d.toList[j])
    simp only [Option.getD_some]
    rw [List.getElem?_eq_getElem (by omega), getElem!_pos _ _ (by rw [show d[j] = d.toList[j] by simp]; omega)]
    simp

def SrtPost (B : Nat) (l : List Ref) (v : Value) (w : World) (e : Ending) (w' : World) : Prop :=
  e = .returned (.tuple #[]) ∧ ∃ m, m.Perm l ∧ m.Pairwise (fun a b => ¬ b.name < a.name) ∧ OwR w' B v m ∧ Below B w w'
theorem sorted_pair {d : Array Ref} (h : SortedIn (ltOf cmpN) 0 d.size d) : d.toList.Pairwise fun a b => ¬ b.name < a.name := by
  rw [List.pairwise_iff_getElem]
  intro i j hi hj hij
  have := h i j (Nat.zero_le _) hij (by simpa using hj)
  rw [ltN, decide_eq_false_iff_not] at this
  have hi' : i < d.size := by simpa using hi
  have hj' : j < d.size := by simpa using hj
  rw [getElem!_pos d i hi', getElem!_pos d j hj'] at this
  simpa using this
theorem below_of_but {w w' : World} {B g : Nat} (h : But (fun k => some g = some k) w w') (hB : B ≤ g) (hw : B ≤ w.heap.size) : Below B w w' := h.below (fun k _ hk => by cases hk; exact hB) hw
set_option maxHeartbeats 1000000 in
theorem sortR_any {w : World} {B : Nat} {v : Value} {l : List Ref} (h : OwR w B v l) (hl : l.length ≤ 1000000) (hw : B ≤ w.heap.size) : Calls Tryz.prog 61 #[v, .func (.func 62) #[] #[]] w (SrtPost B l v w) := by
  have h0 := h
  rcases h.2 with ⟨rfl, hz⟩ | ⟨g, cap, cur, rfl, _⟩
  · obtain rfl : l = [] := List.eq_nil_of_length_eq_zero hz
    have H := Lib.hid h0
    have hp := fun lim W => pdq_none none 0 lim (.func (.func 62) #[] #[]) W
    have hb : ∀ W, Calls Tryz.prog 68 #[.int .u64 0] W fun e w' => e = .returned (.int .i64 (Lib.bitLen 0 : Nat)) ∧ w' = W := fun W => by
      have h := Any.bits_Len (SlLaysF0.n15.bits { Tryz.sortFA with }) 0 W (by omega) (by omega)
      exact h
    have HP := Lib.hid hp; have HB := Lib.hid hb
    clear hp hb h0 hz h hl
    go_enter Tryz.func61, Tryz.ntmps61
    go_wp2_with fail
    refine (HB.out _).mono ?_
    rintro e w' ⟨rfl, rfl⟩
    go_wp2_with fail
    refine (HP.out _ _).mono ?_
    rintro e w' ⟨rfl, rfl⟩
    go_wp2
    go_end0
    exact ⟨rfl, [], List.Perm.refl _, List.Pairwise.nil, H.out, Below.refl _ _⟩
  · obtain ⟨cur', _, hB, hg, h1, h2, h3, hc⟩ := cells_of_own h
    have eg : ∀ args w, (callFunc 62 args).run Tryz.prog w = .ok (.enter 62 args) w := fun args w => by kernel_rfl
    have hcon := AnyQ.slices_SortFunc Tryz.sortFA 2 (fun w => by kernel_rfl) (fun w => by kernel_rfl) refC refC_len refC_one cmpN swoN 62 #[] g 0 cap l.toArray w eg (fun m os dk _ x y => list1_p x y _) (holdsK_of hg hc) (lt_heap hg) (by simp; omega)
    rw [show l.toArray.size = l.length by simp] at hcon
    refine hcon.mono ?_
    rintro e w' ⟨rfl, d', n, os, hp, hs, rfl⟩
    have hsz : d'.size = l.length := by have := hp.1; simpa using this
    have hpm : d'.toList.Perm l := by
      have := hp.2.2
      rw [Array.extract_eq_self_of_le (by omega), Array.extract_eq_self_of_le (by simp)] at this
      simpa using this
    refine ⟨rfl, d'.toList, hpm, sorted_pair (by rw [hsz]; exact hs), own_sortedK h d' hsz os, below_of_but (but_sortedK d') hB hw⟩

/-! ### list -/
theorem perm_rise {l m : List Ref} (hl : l.Pairwise fun a b => a.name < b.name) (hm : m.Pairwise fun a b => ¬ b.name < a.name) (hn : m.Nodup) (h : ∀ y, y ∈ m ↔ y ∈ l) : m = l := by
  refine key_ext (·.name) ?_ hl h
  have h2 : m.Pairwise fun a b => a ≠ b := hn
  refine (List.Pairwise.and hm h2).imp_of_mem fun {a b} ha hb hab => ?_
  rcases lt_cases a.name b.name with h3 | h3 | h3
  · exact h3
  · exact absurd (rise_inj hl ((h a).1 ha) ((h b).1 hb) h3) hab.2
  · exact absurd h3 hab.1
/-- A list of one's own. -/
def ListP (l : List Ref) (w : World) (e : Ending) (w' : World) : Prop := ∃ v, e = .returned v ∧ OwR w' w.heap.size v l ∧ Below w.heap.size w w'
set_option maxRecDepth 100000 in
set_option maxHeartbeats 4000000 in
theorem list_p (l : List Ref) (b n : Nat) (w : World) (hl : l.Pairwise fun a b => a.name < b.name) (h100 : l.length ≤ 1000) (hM : MapL w b n l) :
    Calls Tryz.prog 34 #[.map (some b)] w (ListP l w) := by
  have HM := Lib.hid hM
  have Hl := Lib.hid hl
  have H1 := Lib.hid h100
  clear hM hl h100
  go_enter Tryz.func34, Tryz.ntmps34
  go_wp2_with (refine wpList_rangeL rfl _ rfl b n l rfl HM.out ?_)
  intro w1 cnt1 hgo1 hb1
  have Hgo1 := Lib.hid hgo1
  have Hb1 := Lib.hid hb1
  have Hr1 : Hid (w.heap.size < w1.heap.size) := Lib.hid hgo1.lt.2.1
  clear hgo1 hb1
  go_wp2_with fail
  go_loopw [3] (fun v wr => ∃ vis cnt, Hid (MapGo wr b w.heap.size n l vis cnt) ∧ Hid (Below w.heap.size w wr) ∧ Hid (OwR wr (w.heap.size + 1) v vis)) (fun _ wr => wr.rangeLeft b w.heap.size)
  case atStart => exact ⟨[], cnt1, Hgo1, Hb1, Lib.hid (OwK.nil _ _ _ _ _)⟩
  case round =>
    clear Hgo1 Hb1
    obtain ⟨vis, cnt, hgo, hB, hO⟩ := hrel
    obtain ⟨A, N, c, hv, hN⟩ := OwK.shape hO.out
    subst hv
    have Hb0 : Hid (b < w.heap.size) := Lib.hid HM.out.lt
    have hvl : vis.length ≤ l.length := by
      obtain ⟨_, _, _, _, _, h1, h2⟩ := hgo.out
      have h3 : (vis.map (·.name)).Nodup := by
        unfold List.Nodup
        rw [List.pairwise_map]
        refine List.Pairwise.imp_of_mem ?_ h1
        exact fun {a b} ha hb hab e => hab (rise_inj Hl.out (h2 a ha) (h2 b hb) e)
      have := len_le (m := l.map (·.name)) h3 fun x hx => by
        obtain ⟨y, hy, rfl⟩ := List.mem_map.1 hx
        exact List.mem_map.2 ⟨y, h2 y hy, rfl⟩
      simpa using this
    have Hvl := Lib.hid hvl
    clear hvl hN
    go_wp2_with (refine wpList_nextL rfl _ rfl b w.heap.size n cnt l vis rfl hgo.out Hl.out ?_ ?_)
    · intro hd
      have hvis : ∀ y, y ∈ vis ↔ y ∈ l := fun y => by
        obtain ⟨_, _, _, _, _, _, h2⟩ := hgo.out
        exact ⟨h2 y, hd y⟩
      have hnd : vis.Nodup := by obtain ⟨_, _, _, _, _, h1, _⟩ := hgo.out; exact h1
      have HV := Lib.hid hvis; have HN := Lib.hid hnd
      have HS := Lib.hid (sortR_any hO.out (by have := Hvl.out; have := H1.out; omega) (by have := hgo.out.lt; omega))
      clear hd hvis hnd hgo hO
      go_wp2_with fail
      refine HS.out.mono ?_
      rintro e w2 ⟨rfl, m, hm1, hm2, hm3, hm4⟩
      have hml : m = l := perm_rise Hl.out hm2 (hm1.nodup_iff.2 HN.out) fun y => (hm1.mem_iff).trans (HV.out y)
      have HO3 : Hid (OwR w2 w.heap.size (.slice A N c) l) := Lib.hid ((by rw [← hml]; exact hm3 : OwR w2 (w.heap.size + 1) (.slice A N c) l).mono (Nat.le_succ _))
      have HB3 := Lib.hid (hB.out.trans (hm4.mono (Nat.le_succ _)))
      clear hm1 hm2 hm3 hm4 hml
      go_wp2_with fail
      go_ret
      exact ⟨_, rfl, HO3.out, HB3.out⟩
    · intro y w2 cnt2 hy hyv hgo2 hlt hg2 hs2 hen
      have HB2 : Hid (Below w.heap.size w w2) := Lib.hid (hB.out.grown hg2 hB.out.size (fun k hk => by cases hk; exact Nat.le_refl _))
      have Hgo2 := Lib.hid hgo2
      have Hm : Hid (w2.rangeLeft b w.heap.size < wr.rangeLeft b w.heap.size) := Lib.hid (by rw [hgo2.left, hgo.out.left]; exact hlt)
      have HO2 : Hid (OwR w2 (w.heap.size + 1) _ vis) := Lib.hid (OwK.but hO.out (But.of_grown hg2) (fun g hg e => by
        have := (own_block hO.out hg).1
        cases e; omega))
      obtain ⟨nm, id⟩ := y
      have HB3 := Lib.hid (HB2.out.alloc HB2.out.size (.cells #[.string ⟨nm.toArray⟩, .string ⟨id.toArray⟩] 45))
      have b3 := below_al w2 (.cells #[.string ⟨nm.toArray⟩, .string ⟨id.toArray⟩] 45)
      have HO3 := Lib.hid (HO2.out.below b3 (Nat.le_refl _))
      have Hgo3 := Lib.hid (Hgo2.out.below b3)
      have Hr : Hid (w.heap.size + 1 ≤ (w2.alloc (.cells #[.string ⟨nm.toArray⟩, .string ⟨id.toArray⟩] 45)).heap.size) := Lib.hid (by have := Hgo2.out.lt.2.1; simp; omega)
      have Hl6 : Hid (vis.length < 1000000) := Lib.hid (by have := Hvl.out; have := H1.out; omega)
      clear hy hyv hgo2 hlt hg2 hs2 hgo hB hO b3
      go_upto_region 5 with fail
      have e0 : (w2.alloc (.cells #[.string ⟨nm.toArray⟩, .string ⟨id.toArray⟩] 45)).cell? ⟨w2.heap.size, 0, none⟩ = some (.string ⟨nm.toArray⟩) := by simp
      have e1 : (w2.alloc (.cells #[.string ⟨nm.toArray⟩, .string ⟨id.toArray⟩] 45)).cell? ⟨w2.heap.size, 1, none⟩ = some (.string ⟨id.toArray⟩) := by simp
      obtain ⟨w3, hw3⟩ : ∃ w3, w3 = w2.alloc (.cells #[.string ⟨nm.toArray⟩, .string ⟨id.toArray⟩] 45) := ⟨_, rfl⟩
      rw [← hw3] at HB3 HO3 Hgo3 Hr e0 e1 ⊢
      clear hw3 HB2 HO2 hen
      go_wp2_with (refine wpList_push elRef (o := ⟨some 15, _, _, _, _, _⟩) rfl _ _ rfl (w.heap.size + 1) _ vis ⟨nm, id⟩ _ rfl rfl rfl HO3.out Hl6.out (by decide) Hr.out ?_)
      intro v' w5 hO5 hB5 hg5
      have HO5 := Lib.hid hO5
      have HB5 := Lib.hid (HB3.out.trans (hB5.mono (Nat.le_succ _)))
      have hgo5 : MapGo w5 b w.heap.size n l (vis ++ [⟨nm, id⟩]) cnt2 := by
        have hne : ∀ k, (Value.slice A N c).ownBlock = some k → w.heap.size + 1 ≤ k := fun k hk => (own_block HO3.out hk).1
        refine (Hgo3.out.below (below_al _ _)).kept hg5 (fun e => ?_) (fun e => ?_)
        · have := hne b e.symm; have := Hb0.out; omega
        · have := hne w.heap.size e.symm; omega
      have Hgo5 := Lib.hid hgo5
      have Hm5 : Hid (w5.rangeLeft b w.heap.size < wr.rangeLeft b w.heap.size) := Lib.hid (by rw [hgo5.left, ← Hgo2.out.left]; exact Hm.out)
      clear hO5 hB5 hg5 hgo5
      go_wp2_with fail
      go_roundw
      case rel => exact ⟨vis ++ [⟨nm, id⟩], cnt2, Hgo5, HB5, HO5⟩
      case measure => exact Hm5.out
end Go.Proofs.YtfnepffccenebaaGreatDoor.Rf
