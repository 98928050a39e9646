/-
  GetChange; changeWants.
-/
import Derived.Test.YtdkkeaaepebafaaGreatDoorChgR
import Derived.Test.YtdkkeaaepebafaaGreatDoorTreeW
namespace Go.Proofs.YtdkkeaaepebafaaGreatDoor
open Go Go.RowKit Go.Shelf

/-- What GetChange answers. -/
def GcPost (o : Option Chg) (w : World) (e : Ending) (w' : World) : Prop :=
  Below w.heap.size w w' ∧ ∃ c vp, StrsR w' vp c.parents ∧ e = .returned (.tuple #[ChgV c vp, .bool o.isSome]) ∧ c = o.getD noChg
theorem own_set4 {b1 b2 : Nat} {w : World} {v : Value} {l : List (List UInt8)} (h : OwK 9 1 strC w b1 v l) (hb : b2 < b1) (a b c d : Value) :
    OwK 9 1 strC ((((w.setCell ⟨b2, 0, none⟩ a).setCell ⟨b2, 1, none⟩ b).setCell ⟨b2, 2, none⟩ c).setCell ⟨b2, 3, none⟩ d) b1 v l :=
  own_set (own_set (own_set (own_set h hb 0 _) hb 1 _) hb 2 _) hb 3 _

set_option maxRecDepth 100000 in
set_option maxHeartbeats 2000000 in
theorem GetChange_any (s : List UInt8) (hs : s.length ≤ 100000) (w : World) (he : Eb w) : Calls Tryz.prog 29 #[.string ⟨s.toArray⟩] w (GcPost (getC s) w) := by
  have B0 := below_new w (.cells #[.string ⟨#[]⟩, .slice none 0 0, .string ⟨#[]⟩, .string ⟨#[]⟩] 40)
  have HR := Lib.hid (readChange_any s hs _ (he.below B0))
  have hz : (w.alloc (.cells #[.string ⟨#[]⟩, .slice none 0 0, .string ⟨#[]⟩, .string ⟨#[]⟩] 40)).heap.size = w.heap.size + 1 := by simp
  have HB0 := Lib.hid B0; have HE := Lib.hid he; have HZ := Lib.hid hz
  have hk : ∀ W, Below (w.alloc (.cells #[.string ⟨#[]⟩, .slice none 0 0, .string ⟨#[]⟩, .string ⟨#[]⟩] 40)).heap.size (w.alloc (.cells #[.string ⟨#[]⟩, .slice none 0 0, .string ⟨#[]⟩, .string ⟨#[]⟩] 40)) W → W.heap[w.heap.size]? = some (.cells #[.string ⟨#[]⟩, .slice none 0 0, .string ⟨#[]⟩, .string ⟨#[]⟩] 40 (0, 0)) := fun W hW => (hW.block _ (by rw [HZ.out]; omega)).trans (heap_alloc_new _ _)
  have HK := Lib.hid hk
  clear he hs B0 hz hk
  go_enter Tryz.func29, Tryz.ntmps29
  go_wp2_with fail
  refine HR.out.mono ?_
  rintro e w1 ⟨l1, c, vp, ho, hl, h⟩
  obtain ⟨A, ca, rfl⟩ := (ho.rd strC_len).shape
  have hfin : ∃ ev c2 vp2, e = .returned (.tuple #[ChgV c (.slice A c.parents.length ca), ev]) ∧ OwK 9 1 strC w1 (w.heap.size + 1) vp2 (Chg.parents c2) ∧ c2 = (getC s).getD noChg ∧ Calls Tryz.prog 50 #[ChgV c (.slice A c.parents.length ca), ev] w1 (RetBelow (.tuple #[ChgV c2 vp2, .bool (getC s).isSome]) w1) := by
    rcases h with ⟨h1, rfl⟩ | ⟨h1, p, rfl⟩
    · exact ⟨_, c, _, rfl, by rw [HZ.out] at ho; exact ho, by rw [h1]; rfl, by rw [h1]; exact toldC_nil _ _ _ _ _ _ w1⟩
    · exact ⟨_, noChg, .slice none 0 0, rfl, OwK.nil _ _ _ _ _, by rw [h1]; rfl, by rw [h1]; exact toldC_fault _ _ _ _ _ _ p w1 (HE.out.below (HB0.out.trans (l1.mono HB0.out.size))).er.et⟩
  obtain ⟨ev, c2, vp2, rfl, ho2, hc2, htold⟩ := hfin
  have HTo := Lib.hid htold; have HO2 := Lib.hid ho2; have HC2 := Lib.hid hc2; have HL1 := Lib.hid l1
  obtain ⟨tr, ps, wh, tx⟩ := c
  obtain ⟨tr2, ps2, wh2, tx2⟩ := c2
  obtain ⟨A2, ca2, rfl⟩ := (ho2.rd strC_len).shape
  unfold ChgV at HTo ⊢
  simp only at HTo HO2 ⊢
  clear h htold ho ho2 hc2 hl l1
  go_wp2_with fail
  refine HTo.out.mono ?_
  rintro e w2 ⟨rfl, l2⟩
  have hb2 := HL1.out.trans (l2.mono HL1.out.size)
  have hr := HK.out w2 hb2
  have y0 : w2.cell? ⟨w.heap.size, 0, none⟩ = some (.string ⟨#[]⟩) := cell_of_blk' hr rfl
  have y1 : w2.cell? ⟨w.heap.size, 1, none⟩ = some (.slice none 0 0) := cell_of_blk' hr rfl
  have y2 : w2.cell? ⟨w.heap.size, 2, none⟩ = some (.string ⟨#[]⟩) := cell_of_blk' hr rfl
  have y3 : w2.cell? ⟨w.heap.size, 3, none⟩ = some (.string ⟨#[]⟩) := cell_of_blk' hr rfl
  have z0 : w2.frozen? ⟨w.heap.size, 0, none⟩ = false := frozen_of_blk' hr
  have z1 : w2.frozen? ⟨w.heap.size, 1, none⟩ = false := frozen_of_blk' hr
  have z2 : w2.frozen? ⟨w.heap.size, 2, none⟩ = false := frozen_of_blk' hr
  have z3 : w2.frozen? ⟨w.heap.size, 3, none⟩ = false := frozen_of_blk' hr
  obtain ⟨f0, f1, f2, f3⟩ := cells4 w2 w.heap.size (.string ⟨tr2.toArray⟩) (.slice A2 ps2.length ca2) (.string ⟨wh2.toArray⟩) (.string ⟨tx2.toArray⟩) y0 y1 y2 y3
  have HB2 := Lib.hid (HB0.out.trans (hb2.mono HB0.out.size))
  have HO3 := Lib.hid (HO2.out.below l2 (Nat.le_refl _))
  clear hr hb2 l2
  go_wp2_with fail
  refine bodyPost_ret (v := .tuple #[ChgV ⟨tr2, ps2, wh2, tx2⟩ (.slice A2 ps2.length ca2), .bool (getC s).isSome]) (by simp [results, Tryz.results29, go_sem, f0, f1, f2, f3, ChgV]) rfl ?_
  exact ⟨below_set4 HB2.out (Nat.le_refl _) _ _ _ _, ⟨tr2, ps2, wh2, tx2⟩, _, (own_set4 HO3.out (Nat.lt_succ_self _) _ _ _ _).rd strC_len, rfl, HC2.out⟩
end Go.Proofs.YtdkkeaaepebafaaGreatDoor
