/-
  The index: rows compared by their sums; nothing sorted.
-/
import Derived.Test.YtdjmcehoaneekaaDoorICmp
import Derived.Shelf.Small.Bits
namespace Go.Proofs.YtdjmcehoaneekaaDoor.Ix
open Go.Proofs.YtdjmcehoaneekaaDoor
open Go Go.RowKit Go.Sort

def cmpR (x y : Rw) : Int := Lib.compareBytes (nrm x.sum) (nrm y.sum)
set_option maxRecDepth 100000 in
set_option maxHeartbeats 1000000 in
theorem closure_any (x y : Rw) (w : World) : Calls Tryd.prog 40 #[.agg (rowA x), .agg (rowA y)] w fun e w' => e = .returned (.int .i64 (cmpR x y)) ∧ ∃ q os', w' = grow (w.drewN q) os' := by
  obtain ⟨F, hF⟩ : ∃ F, F = rowA x := ⟨_, rfl⟩
  obtain ⟨G, hG⟩ : ∃ G, G = rowA y := ⟨_, rfl⟩
  obtain ⟨S, hS⟩ : ∃ S, S = sumA x.sum := ⟨_, rfl⟩
  obtain ⟨T, hT⟩ : ∃ T, T = sumA y.sum := ⟨_, rfl⟩
  obtain ⟨r, hr⟩ : ∃ r, r = cmpR x y := ⟨_, rfl⟩
  rw [← hF, ← hG, ← hr]
  have hc : ∀ W : World, Calls Tryd.prog 41 #[.agg S, .agg T] W fun e w' => e = .returned (.int .i64 r) ∧ ∃ q os', w' = grow (W.drewN q) os' := fun W => by
    rw [hS, hT, hr]; exact compare_any x.sum y.sum W
  have hAF : ∀ (W : World) (g : Nat), Blk W g 48 F → At W g 0 S := fun W g hb => by rw [hF] at hb; rw [hS]; exact Blk.rowSum hb
  have hAG : ∀ (W : World) (g : Nat), Blk W g 48 G → At W g 0 T := fun W g hb => by rw [hG] at hb; rw [hT]; exact Blk.rowSum hb
  have hAS : Agg Tryd.prog 45 S.size := by rw [hS, sumA_size]; exact aggSum
  have hAT : Agg Tryd.prog 45 T.size := by rw [hT, sumA_size]; exact aggSum
  have HC := Lib.hid hc; have HAF := Lib.hid hAF; have HAG := Lib.hid hAG; have HS := Lib.hid hAS; have HT := Lib.hid hAT
  clear hF hG hS hT hr hc hAF hAG hAS hAT
  go_enter Tryd.func40, Tryd.ntmps40
  go_upto_region 1 with fail
  have bF : Blk ((w.alloc (Obj.cells F 48)).alloc (Obj.cells G 48)) w.heap.size 48 F := (Blk.new w _ _).alloc _
  have bG : Blk ((w.alloc (Obj.cells F 48)).alloc (Obj.cells G 48)) (w.heap.size + 1) 48 G := by
    have := Blk.new (w.alloc (Obj.cells F 48)) 48 G
    simpa using this
  have hg : (w.alloc (Obj.cells F 48)).alloc (Obj.cells G 48) = grow w #[Obj.cells F 48, Obj.cells G 48] := by rw [alloc_eq_grow, alloc_eq_grow, grow_grow]; rfl
  obtain ⟨w2, hw2⟩ : ∃ w2, w2 = (w.alloc (Obj.cells F 48)).alloc (Obj.cells G 48) := ⟨_, rfl⟩
  rw [← hw2] at bF bG hg ⊢
  have AF := Lib.hid (HAF.out _ _ bF); have AG := Lib.hid (HAG.out _ _ bG); have HG := Lib.hid hg
  clear hw2 bF bG hg
  go_wp2_with (first
    | (refine wpList_load_at (o := ⟨some 6, _, _, _, _, _⟩) rfl 45 _ rfl w.heap.size 0 rfl S HS.out AF.out ?_)
    | (refine wpList_load_at (o := ⟨some 8, _, _, _, _, _⟩) rfl 45 _ rfl (w.heap.size + 1) 0 rfl T HT.out AG.out ?_))
  refine (HC.out w2).mono ?_
  rintro e w3 ⟨rfl, q, os', rfl⟩
  go_wp2
  go_ret
  refine ⟨rfl, q, #[Obj.cells F 48, Obj.cells G 48] ++ os', ?_⟩
  rw [HG.out, show (grow w #[Obj.cells F 48, Obj.cells G 48]).drewN q = grow (w.drewN q) #[Obj.cells F 48, Obj.cells G 48] from rfl, grow_grow]

set_option maxHeartbeats 1000000 in
theorem ins_none (A : Option Addr) (c : Nat) (fv : Value) (w : World) : Calls Tryd.prog 61 #[.slice A 0 c, .int .i64 0, .int .i64 0, fv] w fun e w' => e = .returned (.tuple #[]) ∧ w' = w := by
  go_enter Tryd.func61, Tryd.ntmps61
  go_wp2
  refine wp_loop_rounds 1 ?_
  rw [rounds_succ]
  go_wp2
  go_end0
  exact ⟨rfl, rfl⟩
set_option maxRecDepth 100000 in
set_option maxHeartbeats 1000000 in
theorem pdq_none (A : Option Addr) (c : Nat) (lim : Int) (fv : Value) (w : World) : Calls Tryd.prog 49 #[.slice A 0 c, .int .i64 0, .int .i64 0, .int .i64 lim, fv] w fun e w' => e = .returned (.tuple #[]) ∧ w' = w := by
  have hi := fun W => ins_none A c fv W
  go_enter Tryd.func49, Tryd.ntmps49
  go_wp2
  refine wp_loop_rounds 1 ?_
  rw [rounds_succ]
  go_wp2_with (refine (hi _).mono ?_; rintro e w' ⟨rfl, rfl⟩)
  (try simp only [Exit.inBlock, Exit.then]); refine bodyPost_ret (results_none rfl _ _ _) rfl ?_
  exact ⟨rfl, rfl⟩
end Go.Proofs.YtdjmcehoaneekaaDoor.Ix
