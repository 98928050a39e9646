/-
  Tips: all objects that refs stand for, rising, each once.
-/
import Derived.Test.YtfnepffccenebaaGreatDoorRApp
import Derived.Test.YtfnepffccenebaaGreatDoorRSort
import Derived.Test.YtfnepffccenebaaGreatDoorRFind
import Derived.Sort.OwnSorted
namespace Go.Proofs.YtfnepffccenebaaGreatDoor.Rf
open Go.Proofs.YtfnepffccenebaaGreatDoor
open Go Go.RowKit Go.Sort

theorem compact_rises {zs : List Bs} (h : zs.Pairwise fun a b => a ≤ b) : Rising (Lib.compact zs) ∧ ∀ x, x ∈ Lib.compact zs ↔ x ∈ zs := by
  have hle : ∀ i j, i < j → j < zs.length → zs.toArray[i]! ≤ zs.toArray[j]! := fun i j hij hj => by
    rw [getElem!_pos _ i (by simp; omega), getElem!_pos _ j (by simpa using hj)]
    exact List.pairwise_iff_getElem.1 h i j (by omega) hj hij
  have key : ∀ m, m ≤ zs.length → Rising (Lib.compactUpTo zs.toArray m) ∧ ∀ x, x ∈ Lib.compactUpTo zs.toArray m ↔ ∃ j, j < m ∧ zs.toArray[j]! = x := by
    intro m
    induction m with
    | zero => intro _; exact ⟨List.Pairwise.nil, fun x => by simp [Lib.compactUpTo]⟩
    | succ m ih =>
      intro hm
      obtain ⟨h1, h2⟩ := ih (by omega)
      rw [Lib.compactUpTo_succ]
      cases hk : Lib.keeps zs.toArray m with
      | true =>
        rw [if_pos rfl]
        unfold Lib.keeps at hk
        have hk := of_decide_eq_true hk
        refine ⟨List.pairwise_append.2 ⟨h1, List.pairwise_singleton _ _, fun a ha b hb => ?_⟩, fun x => ?_⟩
        · rw [List.mem_singleton.1 hb]
          obtain ⟨j, hj, rfl⟩ := (h2 a).1 ha
          rcases hk with hk | hk
          · omega
          · refine lt_of_le_ne (hle j m hj (by omega)) fun e => hk ?_
            rcases Nat.lt_or_ge j (m - 1) with hlt | hge
            · have a1 := hle j (m - 1) hlt (by omega)
              have a2 := hle (m - 1) m (by omega) (by omega)
              rw [e] at a1
              exact List.le_antisymm a1 a2
            · have e2 : j = m - 1 := by omega
              rw [← e2]; exact e.symm
        · rw [List.mem_append, List.mem_singleton, h2]
          constructor
          · rintro (⟨j, hj, e⟩ | e)
            · exact ⟨j, by omega, e⟩
            · exact ⟨m, by omega, e.symm⟩
          · rintro ⟨j, hj, e⟩
            rcases Nat.lt_or_ge j m with hlt | hge
            · exact .inl ⟨j, hlt, e⟩
            · have e2 : j = m := by omega
              rw [e2] at e; exact .inr e.symm
      | false =>
        rw [if_neg (by simp), List.append_nil]
        unfold Lib.keeps at hk
        have hk := of_decide_eq_false hk
        have h0 : m ≠ 0 := fun e => hk (.inl e)
        have he : zs.toArray[m]! = zs.toArray[m - 1]! := Classical.byContradiction fun hn => hk (.inr hn)
        refine ⟨h1, fun x => ?_⟩
        rw [h2]
        constructor
        · rintro ⟨j, hj, e⟩; exact ⟨j, by omega, e⟩
        · rintro ⟨j, hj, e⟩
          rcases Nat.lt_or_ge j m with hlt | hge
          · exact ⟨j, hlt, e⟩
          · have e2 : j = m := by omega
            rw [e2, he] at e; exact ⟨m - 1, by omega, e⟩
  obtain ⟨h1, h2⟩ := key zs.length (Nat.le_refl _)
  refine ⟨h1, fun x => (h2 x).trans ⟨?_, fun hx => ?_⟩⟩
  · rintro ⟨j, hj, rfl⟩
    rw [getElem!_pos _ j (by simpa using hj)]; simp
  · obtain ⟨j, hj, rfl⟩ := List.mem_iff_getElem.1 hx
    exact ⟨j, hj, by rw [getElem!_pos _ j (by simpa using hj)]; simp⟩
theorem sorted_le (l : List Bs) : (l.mergeSort fun x y => decide (x ≤ y)).Pairwise fun a b => a ≤ b := by
  have h := List.pairwise_mergeSort (le := fun x y : Bs => decide (x ≤ y)) (fun a b c h1 h2 => by simp only [decide_eq_true_eq] at *; exact List.le_trans h1 h2) (fun a b => by simp only [Bool.or_eq_true, decide_eq_true_eq]; exact List.le_total a b) l
  exact h.imp fun hh => of_decide_eq_true hh
theorem tips_of (l : List Ref) : Tips l (Lib.compact ((l.map (·.id)).mergeSort fun x y => decide (x ≤ y))) := by
  obtain ⟨h1, h2⟩ := compact_rises (sorted_le (l.map (·.id)))
  refine ⟨h1, fun x => ?_⟩
  rw [h2, (List.mergeSort_perm _ _).mem_iff, List.mem_map]
theorem strs_flat (zs : List Bs) : zs.flatMap strC = zs.map encStr := by
  induction zs with
  | nil => rfl
  | cons z zs ih => rw [List.flatMap_cons, ih]; rfl
theorem rd_putRow {w : World} {g n cap : Nat} {cur : Array Value} {e : TypeId} {fr : Nat × Nat} (hg : w.heap[g]? = some (.cells cur e fr)) (t r : List Bs) (hs : t.length ≤ cur.size) (hc : t.length ≤ cap) :
    StrsR (putRow encStr (Sort.ahead w n) g 0 (t ++ r).toArray) (.slice (some ⟨g, 0, none⟩) t.length cap) t := by
  have hlt : g < w.heap.size := (Array.getElem?_eq_some_iff.1 hg).1
  refine .inr ⟨g, 0, cap, rfl, hc, by simpa [putRow, mapBlock, Sort.ahead] using hlt, fun j hj x hx i hi => ?_⟩
  have hi0 : i = 0 := by omega
  subst hi0
  have e1 : 0 + j * 1 + 0 = j := by omega
  rw [e1]
  have hh : (putRow encStr (Sort.ahead w n) g 0 (t ++ r).toArray).heap[g]? = some (.cells (putCells encStr 0 (t ++ r).toArray cur) e fr) := by
    simp [putRow, mapBlock, Sort.ahead, Array.getElem?_modify, hg, onCells]
  have hj2 : j < cur.size := by omega
  have hj3 : j < (t ++ r).toArray.size := by simp; omega
  have hcell : (putCells encStr 0 (t ++ r).toArray cur)[j]? = some (encStr x) := by
    have hx2 : (t ++ r)[j]? = some x := by rw [List.getElem?_append_left hj]; exact hx
    rw [putCells, Array.getElem?_mapIdx, Array.getElem?_eq_getElem hj2]
    simp only [Option.map_some, Nat.zero_le, Nat.zero_add, hj3, and_self, if_true, Nat.sub_zero]
    rw [getElem!_pos _ j hj3]
    have : (t ++ r).toArray[j] = x := by
      have h5 := Array.getElem?_eq_getElem hj3
      rw [show ((t ++ r).toArray)[j]? = (t ++ r)[j]? by simp] at h5
      rw [hx2] at h5; exact (Option.some.inj h5).symm
    rw [this]
  show (match (putRow encStr (Sort.ahead w n) g 0 (t ++ r).toArray).heap[g]? with | some (.cells c _ _) => c[j]? | _ => none) = some (SV x)
  rw [hh]; exact hcell
theorem grownBy_putRow' {w : World} {g n : Nat} (d : Array (List UInt8)) : w.grownBy (putRow encStr (Sort.ahead w n) g 0 d) (some g) := by
  refine ⟨rfl, rfl, rfl, by simp [putRow, mapBlock, Sort.ahead], fun k hk hne => ?_⟩
  have : g ≠ k := fun e => hne (by rw [e])
  simp [putRow, mapBlock, Sort.ahead, Array.getElem?_modify, this]
/-- Sorted, and told once each. -/
theorem sort_S {w : World} {B : Nat} {v : Value} {zs : List Bs} (h : OwS w B v zs) (hl : zs.length ≤ 1000000) (hw : B ≤ w.heap.size) : Calls Tryz.prog 47 #[v] w fun e w' => e = .returned (.tuple #[]) ∧ OwS w' B v (zs.mergeSort fun x y => decide (x ≤ y)) ∧ Below B w w' := by
  have hlen : (zs.mergeSort fun x y => decide (x ≤ y)).length = zs.length := List.length_mergeSort zs
  have h0 := h
  rcases h.2 with ⟨rfl, hz⟩ | ⟨g, cap, cur, rfl, hbg, hg, h1, h2, h3, h4⟩
  · obtain rfl : zs = [] := List.eq_nil_of_length_eq_zero hz
    refine (AnyM.slices_Sort_string_none Tryz.sortA none 0 w).mono ?_
    rintro e w' ⟨rfl, rfl⟩
    exact ⟨rfl, by simpa using h0, Below.refl _ _⟩
  · rw [strs_flat] at h4
    have hH : Holds encStr w g 0 zs.toArray := holds_of_block hg (by simpa using h4)
    refine (AnyM.slices_Sort_string Tryz.sortA g 0 cap zs w hH (lt_heap hg) (by omega)).mono ?_
    rintro e w' ⟨rfl, n, os, rfl⟩
    refine ⟨rfl, ?_, ?_⟩
    · have := ownsRow_sorted (n := n) (os := os) hlen hbg hg h1 h2 h3
      unfold OwS OwK
      rw [strs_flat, hlen]; exact this
    · exact (Below.refl _ w).mono hw |>.grown (grownBy_sorted _) hw (fun j hj => by cases hj; exact hbg)
theorem compact_S {w : World} {B : Nat} {v : Value} {zs : List Bs} (h : OwS w B v zs) (hl : zs.length ≤ 1000000) (hw : B ≤ w.heap.size) : Calls Tryz.prog 48 #[v] w fun e w' => ∃ v', e = .returned v' ∧ StrsR w' v' (Lib.compact zs) ∧ Below B w w' := by
  have hle : (Lib.compact zs).length ≤ zs.length := by
    unfold Lib.compact Lib.compactUpTo
    rw [List.length_map]
    exact Nat.le_trans (List.length_filter_le _ _) (by simp)
  rcases h.2 with ⟨rfl, hz⟩ | ⟨g, cap, cur, rfl, hbg, hg, h1, h2, h3, h4⟩
  · obtain rfl : zs = [] := List.eq_nil_of_length_eq_zero hz
    refine (Any.slices_Compact_string_empty Tryz.compA none 0 w).mono ?_
    rintro e w' ⟨rfl, rfl⟩
    exact ⟨_, rfl, .inl ⟨⟨none, 0, rfl⟩, rfl⟩, Below.refl _ _⟩
  · rw [strs_flat] at h4
    have hH : Holds encStr w g 0 zs.toArray := holds_of_block hg (by simpa using h4)
    refine (Any.slices_Compact_string Tryz.compA g 0 cap zs w hH (by omega) h1).mono ?_
    rintro e w' ⟨rfl, n, rfl⟩
    exact ⟨_, rfl, rd_putRow hg _ _ (by omega) (by omega), (Below.refl _ w).mono hw |>.grown (grownBy_putRow' _) hw (fun j hj => by cases hj; exact hbg)⟩
def TipsP (l : List Ref) (w : World) (e : Ending) (w' : World) : Prop := ∃ v t, e = .returned v ∧ StrsR w' v t ∧ Tips l t ∧ Below w.heap.size w w'
set_option maxRecDepth 100000 in
set_option maxHeartbeats 4000000 in
theorem Tips_p (l : List Ref) (v : Value) (w : World) (hv : RefsR w v l) (hl : l.length ≤ 100000) : Calls Tryz.prog 22 #[v] w (TipsP l w) := by
  obtain ⟨A, c, rfl⟩ := hv.shape
  obtain ⟨N, hN⟩ : ∃ N, N = l.length := ⟨_, rfl⟩
  rw [← hN] at hv hl ⊢
  have HV := Lib.hid hv
  have HN := Lib.hid hN
  clear hv hN
  go_enter Tryz.func22, Tryz.ntmps22
  go_wp2_with fail
  go_loopw [3, 8] (fun v3 i wr => ∃ k : Nat, k ≤ N ∧ i = .int .i64 k ∧ Hid (OwS wr w.heap.size v3 ((l.take k).map (·.id))) ∧ Hid (Below w.heap.size w wr)) (fun _ i _ => N - (intOf i).toNat)
  case atStart => exact ⟨0, Nat.zero_le _, rfl, Lib.hid (OwK.nil _ _ _ _ _), Lib.hid (Below.refl _ _)⟩
  case round =>
    obtain ⟨k, hk, rfl, hO, hB⟩ := hrel
    obtain ⟨A3, n3, c3, hv3, hn3⟩ := OwK.shape hO.out
    subst hv3
    by_cases hlt : k < N
    case neg =>
      have hkN : k = N := by omega
      have HO : Hid (OwS wr w.heap.size (.slice A3 n3 c3) (l.map (·.id))) := Lib.hid (by have h := hO.out; rw [hkN, HN.out, List.take_length] at h; exact h)
      have HS := Lib.hid (sort_S HO.out (by simp; have := HN.out; omega) hB.out.size)
      have Hl : Hid (((l.map (·.id)).mergeSort fun x y => decide (x ≤ y)).length ≤ 1000000) := Lib.hid (by rw [List.length_mergeSort]; simp; have := HN.out; omega)
      clear hkN hO hn3
      go_wp2_with fail
      refine HS.out.mono ?_
      rintro e w2 ⟨rfl, ho2, hb2⟩
      have HB2 := Lib.hid (hB.out.trans hb2)
      have HC := Lib.hid (compact_S ho2 Hl.out HB2.out.size)
      clear ho2 hb2
      go_wp2_with fail
      refine HC.out.mono ?_
      rintro e w3 ⟨v', rfl, h1, h2⟩
      have H1 := Lib.hid h1; have H2 := Lib.hid (HB2.out.trans h2)
      clear h1 h2
      go_wp2_with fail
      go_ret
      exact ⟨_, _, rfl, H1.out, tips_of l, H2.out⟩
    obtain ⟨g, o, c', e, _, hg⟩ := HV.out.pos (by have := HN.out; omega)
    obtain rfl : A = some ⟨g, o, none⟩ := by rw [← HN.out] at e; cases e; rfl
    clear e
    obtain ⟨x, hx⟩ : ∃ x, l[k]? = some x := ⟨_, List.getElem?_eq_getElem (by have := HN.out; omega)⟩
    obtain ⟨c0, c1⟩ := RefsR.cells (RdK.below HV.out hB.out (Nat.le_refl _)) hx
    have HP : Hid ((l.take (k + 1)).map (·.id) = (l.take k).map (·.id) ++ [x.id]) := Lib.hid (by rw [List.take_add_one, hx, Option.toList_some, List.map_append]; rfl)
    obtain ⟨nm, id⟩ := x
    unfold SV at c0 c1
    simp only at c0 c1 HP
    have HB3 := Lib.hid (hB.out.alloc hB.out.size (.cells #[.string ⟨nm.toArray⟩, .string ⟨id.toArray⟩] 45))
    have HO3 := Lib.hid (hO.out.below (below_al wr (.cells #[.string ⟨nm.toArray⟩, .string ⟨id.toArray⟩] 45)) (Nat.le_refl _))
    have Hl6 : Hid (((l.take k).map (·.id)).length < 1000000) := Lib.hid (by simp; omega)
    clear hx hg hO hB hn3
    go_upto_region 5 with fail
    have e1 : (wr.alloc (.cells #[.string ⟨nm.toArray⟩, .string ⟨id.toArray⟩] 45)).cell? ⟨wr.heap.size, 1, none⟩ = some (.string ⟨id.toArray⟩) := by simp
    obtain ⟨w3, hw3⟩ : ∃ w3, w3 = wr.alloc (.cells #[.string ⟨nm.toArray⟩, .string ⟨id.toArray⟩] 45) := ⟨_, rfl⟩
    rw [← hw3] at HB3 HO3 e1 ⊢
    clear hw3 c0 c1
    go_wp2_with (refine wpList_push elStr (o := ⟨some 16, _, _, _, _, _⟩) rfl _ _ rfl w.heap.size (.slice A3 n3 c3) ((l.take k).map (·.id)) id #[.string ⟨id.toArray⟩] rfl rfl rfl HO3.out Hl6.out (by decide) HB3.out.size ?_)
    intro v' w5 hO5 hB5 _
    have HO5 : Hid (OwS w5 w.heap.size v' ((l.take (k + 1)).map (·.id))) := Lib.hid (by rw [HP.out, List.map_take]; exact hO5)
    have HB5 := Lib.hid (HB3.out.trans hB5)
    clear hO5 hB5
    go_wp2_with fail
    go_roundw
    case rel => exact ⟨k + 1, by omega, by go_num, HO5, HB5⟩
    case measure => simp [intOf]; omega
end Go.Proofs.YtfnepffccenebaaGreatDoor.Rf
