/-
  slices.Sorted(maps.Keys(m)) at a map of files: its paths, rising.
-/
import Derived.Test.YtccloieikkdcoaaGreatDoorLay
import Derived.Test.YtccloieikkdcoaaGreatDoorSmall
import Derived.Sort.KeysCollected
namespace Go.Proofs.YtccloieikkdcoaaGreatDoor
open Go Go.RowKit Go.Maps Go.Sort Go.Shelf

theorem le_of_before : ∀ {a b : By}, bytesBefore a b = true → a ≤ b
  | [], _, _ => List.nil_le _
  | _ :: _, [], h => by cases h
  | x :: a, y :: b, h => by
    simp only [bytesBefore, Bool.or_eq_true, Bool.and_eq_true, decide_eq_true_eq, beq_iff_eq] at h
    rcases h with h | ⟨rfl, h⟩
    · exact List.le_of_lt (List.Lex.rel h)
    · have := le_of_before h
      rw [List.cons_le_cons_iff]
      exact .inr ⟨rfl, this⟩

theorem paths_sorted {t : Tb} (h : Rises t) {ss : List (List UInt8)} (hp : ss.Perm (t.map (·.1))) : ss.mergeSort (fun x y => decide (x ≤ y)) = t.map (·.1) := by
  have e := mergeSort_of_perm hp
  refine e.trans ?_
  refine List.mergeSort_of_pairwise ?_
  rw [List.pairwise_map]
  exact h.imp fun {x y} hb => by simpa [leB] using le_of_before hb

theorem strKeys_of {Q : Value → By → Prop} : ∀ {es : List (Lit × DataW Value)} {t : Tb}, EntsOk Q es t → strKeys (.map es) = t.map (·.1)
  | [], [], _ => rfl
  | x :: es, q :: t, ⟨h1, _, h4⟩ => by
    have ih := strKeys_of h4
    show strOf x.1 :: es.map (fun p => strOf p.1) = q.1 :: t.map (·.1)
    rw [h1]
    exact congrArg (q.1 :: ·) ih
  | [], _ :: _, h => h.elim
  | _ :: _, [], h => h.elim

theorem keys_any (mb : Option Nat) (W : World) : Calls Tryz.prog 64 #[.map mb] W fun e w' => e = .returned (.func (.func 78) #[] #[.pointer (some ⟨W.heap.size, 0, none⟩)]) ∧ w' = W.alloc (.cells #[.map mb] 60) :=
  (callsIn_wide (n := 5)).1 (AnyZ.keys_in Tryz.keysA Fence.wide 5 trivial rfl mb W)

theorem sortsA (m : Nat) : AnyZ.SortsIn Tryz.prog Tryz.sortedA_ren Fence.wide m :=
  ⟨fun blk off cap ss W hH hblk hsz => callsIn_wide.2 (AnyM.slices_Sort_string Tryz.sortA blk off cap ss W hH hblk hsz),
   fun p cap W => callsIn_wide.2 (AnyM.slices_Sort_string_none Tryz.sortA p cap W)⟩

def SortedPost (t : Tb) (w : World) (e : Ending) (w' : World) : Prop := ∃ v, e = .returned v ∧ w'.ownsRow w.heap.size 9 1 v t.length (t.map fun q => S q.1) ∧ Below w.heap.size w w'

theorem sorted_any {w : World} {base m : Nat} {t : Tb} (h : TabIn w base m t) (hl : t.length ≤ 1000000) :
    Calls Tryz.prog 63 #[.func (.func 78) #[] #[.pointer (some ⟨w.heap.size, 0, none⟩)]] (w.alloc (.cells #[.map (some m)] 60)) (SortedPost t (w.alloc (.cells #[.map (some m)] 60))) := by
  obtain ⟨hb, hr, es, hown, he⟩ := h
  have hbl := hown.lt
  have hsz : Maps.size (DataW.map es) = t.length := he.length
  have hseq : SeqGives Fence.wide 2 Tryz.prog 78 #[.pointer (some ⟨w.heap.size, 0, none⟩)] encStr (fun ss => ss.Perm (strKeys (DataW.map es))) (Maps.size (DataW.map es)) (w.alloc (.cells #[.map (some m)] 60)) :=
    AnyZ.keys_gives (ρ := Tryz.keysA_ren) { Tryz.keysA with } Fence.wide _ trivial rfl (by omega) w.heap.size m t.length (DataW.map es) _ (by simp) (by simp) (by
      obtain ⟨es', clock, hb, Ft, hs, hD⟩ := hown
      exact ⟨es', clock, (Below.heap_alloc _ _ m hbl).trans hb, Ft, hs, hD⟩)
  have cS := AnyZ.sorted_in Tryz.sortedA Fence.wide 5 trivial trivial trivial trivial rfl (by omega) (sortsA _) (enters_of Tryz.func77 (by kernel_rfl) rfl) 78 #[.pointer (some ⟨w.heap.size, 0, none⟩)] trivial (enters_of Tryz.func78 (by kernel_rfl) rfl) _ _ (by rw [hsz]; unfold maxLen; omega) (by rw [hsz]; omega) _ hseq
  change CallsIn _ _ Tryz.prog 63 _ _ _ at cS
  refine ((callsIn_wide (n := 5)).1 cS).mono fun e w' hd => ?_
  obtain ⟨v, ss, rfl, hS, hrow, _, hB⟩ := hd
  rw [strKeys_of he] at hS
  have hlen : ss.length = t.length := by rw [hS.length_eq]; simp
  rw [paths_sorted hr hS, hlen, List.map_map] at hrow
  exact ⟨v, rfl, hrow, hB⟩
end Go.Proofs.YtccloieikkdcoaaGreatDoor
