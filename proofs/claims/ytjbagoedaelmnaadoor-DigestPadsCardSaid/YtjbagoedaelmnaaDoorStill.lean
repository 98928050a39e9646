/-
  DigestStill, walked.
-/
import Derived.Test.YtjbagoedaelmnaaDoorHead
import Derived.Deep.RegionHeld3
import Derived.Deep.MidRow
namespace Go.Proofs.YtjbagoedaelmnaaDoor
open Go Go.RowKit

theorem Rb.shape {w : World} {v : Value} {l : List UInt8} (h : Rb w v l) : ∃ A c, v = .slice A l.length c := by
  rcases h with ⟨⟨A, rfl⟩, rfl⟩ | ⟨g, o, c, rfl, _⟩
  · exact ⟨A, 0, rfl⟩
  · exact ⟨_, _, rfl⟩

/-- The slice's bytes as a string. -/
theorem Rb.conv {w : World} {v : Value} {l : List UInt8} (h : Rb w v l) : (convert 22 9 v).run Tryd.prog w = .ok (.string ⟨l.toArray⟩) w := by
  rcases h with ⟨⟨A, rfl⟩, rfl⟩ | ⟨g, o, c, rfl, _, _, hc⟩
  · cases A with
    | none =>
      rw [run_convert_bytes_string w _ _ _ none 0 0 Tryd.underlying22 Tryd.underlying5 Tryd.underlying9]
      simp [Conv.bytesToString]; rfl
    | some a => exact run_convert_bytes_back w _ _ _ a 0 [] Tryd.underlying22 Tryd.underlying5 Tryd.underlying9 fun j hj => absurd hj (Nat.not_lt_zero _)
  · refine run_convert_bytes_back w _ _ _ ⟨g, o, none⟩ c l Tryd.underlying22 Tryd.underlying5 Tryd.underlying9 fun j hj => ?_
    rw [add_none, hc j hj, List.getD_eq_getElem?_getD, List.getElem?_eq_getElem hj]; rfl

set_option maxRecDepth 100000 in
set_option maxHeartbeats 2000000 in
theorem Still_law (w : World) (hp : Pr w) (v : Value) (l : List UInt8) (hl : l.length ≤ maxLen) (hr : Rb w v l) :
    Calls Tryd.prog 7 #[v] w fun e w' => e = .returned (.bool true) ∧ Below w.heap.size w w' := by
  unfold maxLen at hl
  obtain ⟨A, c, hv⟩ := hr.shape
  have HH := Lib.hid (head_any w hp)
  have hplt := hp.lt
  by_cases h2 : 20000 < l.length
  · clear hp hr
    subst hv
    go_enter Tryd.func7, Tryd.ntmps7
    go_wp2_with fail
    refine HH.out.mono ?_
    rintro e w1 ⟨rfl, l1⟩
    go_wp2
    go_ret
    exact ⟨rfl, l1⟩
  · have hS : ∀ W : World, Below w.heap.size w W → Calls Tryd.prog 10 #[v] W fun e w' => e = .returned (.agg (sumC l).toArray) ∧ Below W.heap.size W w' := fun W hW => Sum_cells W v l (hp.below hW hplt) (by omega) (hr.below hW (Nat.le_refl _))
    have hN : ∀ W : World, Below w.heap.size w W → Calls Tryd.prog 12 #[v] W fun e w' => e = .returned (SV (nameL l)) ∧ Below W.heap.size W w' := fun W hW => Name_any W v l (hp.below hW hplt) (by omega) (hr.below hW (Nat.le_refl _))
    have hC : ∀ W : World, Below w.heap.size w W → (convert 22 9 v).run Tryd.prog W = .ok (.string ⟨l.toArray⟩) W := fun W hW => (hr.below hW (Nat.le_refl _)).conv
    obtain ⟨S, hSS⟩ : ∃ S, S = sumC l := ⟨_, rfl⟩
    have hEq : ∀ W : World, (binOp .eql 24 (.agg S.toArray) (.agg S.toArray)).run Tryd.prog W = .ok (.bool true) W := fun W => by rw [hSS, eql_sums l l W]; simp
    have hlen : S.length = 32 := by rw [hSS, sumC_length]
    have hone : ∀ v ∈ S, v.oneCell' = true := by rw [hSS]; exact sumC_one l
    have Hlen := Lib.hid hlen; have Hone := Lib.hid hone; have HEq := Lib.hid hEq
    obtain ⟨nm, hnm⟩ : ∃ nm, nm = nameL l := ⟨_, rfl⟩
    rw [← hSS] at hS
    rw [← hnm] at hN
    unfold SV at hN
    subst hv
    have HS := Lib.hid hS; have HN := Lib.hid hN; have HC := Lib.hid hC
    clear hS hN hC hSS hnm hp hr hEq hlen hone
    go_enter Tryd.func7, Tryd.ntmps7
    go_wp2_with fail
    refine HH.out.mono ?_
    rintro e w1 ⟨rfl, l1⟩
    have c1 := HC.out w1 l1
    go_wp2_with fail
    refine (HS.out w1 l1).mono ?_
    rintro e w2 ⟨rfl, l2⟩
    have lw2 : Below w.heap.size w w2 := l1.trans (l2.mono l1.size)
    have lw3 : Below w.heap.size w (w2.alloc (Obj.cells S.toArray 24)) := lw2.alloc lw2.size _
    have b3 : Blk (w2.alloc (Obj.cells S.toArray 24)) w2.heap.size 24 S.toArray := Blk.new w2 _ _
    have hz32 : ∀ W, (zeroValue 24).run Tryd.prog W = .ok (.agg (u8s 32 fun _ => 0)) W := (zero_of_info (n := 32) (by kernel_rfl)).1
    clear c1
    go_wp2_with (refine wpList_store_row rfl 24 _ _ rfl w2.heap.size S.toArray rfl rfl 24 (u8s 32 fun _ => 0) (by exact Blk.new w2 _ _) (by rw [List.size_toArray, Hlen.out]; kernel_rfl) (by rw [u8s_size, List.size_toArray, Hlen.out]) (all_oneCell_toArray Hone.out) ?_; rw [World.setRow_alloc_new])
    have B3 := Lib.hid b3; have L3 := Lib.hid lw3
    clear b3 lw3 lw2 l2
    refine (HN.out _ L3.out).mono ?_
    rintro e w4 ⟨rfl, l4⟩
    have l3 := L3.out
    have b4 : Blk w4 w2.heap.size 24 S.toArray := B3.out.below l4 B3.out.lt
    have lw4 : Below w.heap.size w w4 := l3.trans (l4.mono l3.size)
    have hB : ∀ W, Below w4.heap.size w4 W → W.rangeAt w2.heap.size 0 S := fun W hW j u hj => by
      rw [Nat.zero_add, (b4.below hW b4.lt).cell j]; simpa using hj
    have hB0 : (w4.drew).rangeAt w2.heap.size 0 S := hB _ (Below.refl _ _).drew
    have hu := Tryd.underlying24
    have hi : (Tryd.prog.info? 24).map (·.size) = some S.length := by rw [Hlen.out]; kernel_rfl
    have hEq := HEq.out
    have hC4 : ∀ W, Below w4.heap.size w4 W → (convert 22 9 (.slice A l.length c)).run Tryd.prog W = .ok (.string ⟨l.toArray⟩) W := fun W hW => HC.out W (lw4.trans (hW.mono lw4.size))
    have hS4 : ∀ W, Below w4.heap.size w4 W → Calls Tryd.prog 10 #[.slice A l.length c] W fun e w' => e = .returned (.agg S.toArray) ∧ Below w4.heap.size w4 w' := fun W hW => (HS.out W (lw4.trans (hW.mono lw4.size))).mono fun _ _ h => ⟨h.1, hW.trans (h.2.mono hW.size)⟩
    have hN4 : ∀ W, Below w4.heap.size w4 W → Calls Tryd.prog 12 #[.slice A l.length c] W fun e w' => e = .returned (.string ⟨nm.toArray⟩) ∧ Below w4.heap.size w4 w' := fun W hW => (HN.out W (lw4.trans (hW.mono lw4.size))).mono fun _ _ h => ⟨h.1, hW.trans (h.2.mono hW.size)⟩
    have HS4 := Lib.hid hS4; have HN4 := Lib.hid hN4; have HB := Lib.hid hB
    have Hlw4 := Lib.hid lw4
    clear hS4 hN4 hB b4 l4 l3 L3 B3 lw4
    go_wp2_with fail
    go_region_held3 (fun W => W.rangeAt w2.heap.size 0 S ∧ Below w4.heap.size w4 W)
      (first | assumption | exact ⟨hB0, (Below.refl _ _).drew⟩ | exact ⟨by assumption, by assumption⟩ | go_keep)
      (first
        | (go_at_call 10; refine (HS4.out _ (by first | exact (Below.refl _ _).drew | assumption | exact And.right (by assumption))).mono ?_; rintro e w5 ⟨rfl, l5⟩; have r5 := HB.out _ l5)
        | (go_at_call 12; refine (HN4.out _ (by first | exact (Below.refl _ _).drew | assumption | exact And.right (by assumption))).mono ?_; rintro e w6 ⟨rfl, l6⟩; have r6 := HB.out _ l6))
    go_wp2
    go_ret
    exact ⟨rfl, Hlw4.out.trans (l6.mono Hlw4.out.size)⟩
end Go.Proofs.YtjbagoedaelmnaaDoor
