/-
  changeWants.
-/
import Derived.Test.YtdkkeaaepebafaaGreatDoorChgG
namespace Go.Proofs.YtdkkeaaepebafaaGreatDoor
open Go Go.RowKit Go.Shelf

def CwRel (c : Chg) (w1 : World) (k : Nat) (v : Value) (wr : World) : Prop :=
  OwK 58 2 wantV wr w1.heap.size v ((c.tree, 2) :: (c.parents.take k).map fun p => (p, (3 : Int))) ∧ Below w1.heap.size w1 wr
theorem CwRel.step {c : Chg} {w1 w2 w3 : World} {k : Nat} {v' : Value} {x : List UInt8} {ns : List (List UInt8 × Int)} (hns : ns = (c.tree, 2) :: (c.parents.take k).map fun p => (p, (3 : Int))) (hk : k < c.parents.length) (hx : x = c.parents.getD k [])
    (ho : OwK 58 2 wantV w3 w1.heap.size v' (ns ++ [(x, 3)])) (h1 : Below w1.heap.size w1 w2) (h2 : Below w1.heap.size w2 w3) : CwRel c w1 (k + 1) v' w3 := by
  refine ⟨?_, h1.trans h2⟩
  rw [take_getD c.parents [] k hk, List.map_append, ← List.cons_append, ← hns, ← hx]
  exact ho
theorem own_lit (w : World) (x : List UInt8 × Int) (b : Nat) (hb : b ≤ w.heap.size) : OwK 58 2 wantV (w.alloc (.cells #[SV x.1, .int .i64 x.2] 58)) b (.slice (some ⟨w.heap.size, 0, none⟩) 1 1) [x] := by
  refine ⟨by simp [wantV], .inr ⟨w.heap.size, 1, #[SV x.1, .int .i64 x.2], rfl, hb, heap_alloc_new _ _, Nat.le_refl _, ?_, ?_, ?_⟩⟩
  · decide
  · rfl
  · simp [wantV]
theorem wantC_eq (c : Chg) : ((c.tree, (2 : Int)) :: (c.parents.take c.parents.length).map fun p => (p, (3 : Int))) = wantC c := by rw [List.take_length]; rfl

set_option maxRecDepth 100000 in
set_option maxHeartbeats 4000000 in
theorem changeWants_any (s : List UInt8) (hs : s.length ≤ 100000) (w : World) (he : Eb w) :
    Calls Tryz.prog 85 #[.string ⟨s.toArray⟩] w (WtPost ((getC s).map wantC) w) := by
  have HT := Lib.hid (readChange_any s hs w he)
  clear he hs
  go_enter Tryz.func85, Tryz.ntmps85
  go_wp2_with fail
  refine HT.out.mono ?_
  rintro e w1 ⟨l1, c, vp, ho, hl, h⟩
  obtain ⟨A, ca, rfl⟩ := (ho.rd strC_len).shape
  have hfin : ∃ ev, e = .returned (.tuple #[ChgV c (.slice A c.parents.length ca), ev]) ∧ ∀ v w2, WantsR w2 v (wantC c) → Below w.heap.size w w2 → WtPost ((getC s).map wantC) w (.returned (.tuple #[v, ev])) w2 := by
    rcases h with ⟨h1, rfl⟩ | ⟨h1, p, rfl⟩
    · exact ⟨_, rfl, fun v w2 h2 h3 => ⟨.inl ⟨v, _, by rw [h1]; rfl, rfl, h2, by simp [wantC]; omega⟩, h3⟩⟩
    · refine ⟨_, rfl, fun v w2 h2 h3 => ⟨.inr ⟨by rw [h1]; rfl, ?_⟩, h3⟩⟩
      obtain ⟨A2, c2, rfl⟩ := h2.shape
      exact ⟨_, _, _, p, rfl⟩
  obtain ⟨ev, rfl, hout⟩ := hfin
  have HO := Lib.hid hout; have HR := Lib.hid (ho.rd strC_len); have L1 := Lib.hid l1; have HL := Lib.hid hl
  have hst := own_lit (w1.alloc (.cells #[.string ⟨c.tree.toArray⟩, .slice A c.parents.length ca, .string ⟨c.who.toArray⟩, .string ⟨c.text.toArray⟩] 40)) (c.tree, 2) w1.heap.size (by simp)
  have hbs := ((below_new w1 (.cells #[.string ⟨c.tree.toArray⟩, .slice A c.parents.length ca, .string ⟨c.who.toArray⟩, .string ⟨c.text.toArray⟩] 40))).alloc (by simp) (.cells #[SV c.tree, .int .i64 2] 58)
  have H0 : Hid (CwRel c w1 0 _ _) := Lib.hid ⟨hst, hbs⟩
  have HQ := Lib.hid (wantC_eq c)
  have HCr := Lib.hid (fun k => @CwRel.step c w1 · · k)
  clear h ho hl l1 hout hst hbs
  obtain ⟨tr, ps, wh, tx⟩ := c
  unfold ChgV
  simp only at HR HL H0 HO HQ ⊢
  unfold SV at H0
  clear HCr
  go_wp2_with fail
  go_loopw [6, 21] (fun vl vi wr => ∃ k : Nat, k ≤ ps.length ∧ vi = .int .i64 k ∧ Hid (CwRel ⟨tr, ps, wh, tx⟩ w1 k vl wr)) (fun _ vi _ => ps.length - (intOf vi).toNat)
  case atStart => exact ⟨0, Nat.zero_le _, rfl, Lib.hid (by have := H0.out; simpa using this)⟩
  case round =>
    obtain ⟨k, hk, rfl, hrel⟩ := hrel
    have hL := HL.out
    by_cases hlt : k < ps.length
    · obtain ⟨g, o, c', e, _, hg⟩ := HR.out.pos (by omega)
      cases e
      have c0 := StrsR.cell (HR.out.below hrel.out.2 (Nat.le_refl _)) k hlt
      obtain ⟨x, hx⟩ : ∃ x, x = ps.getD k [] := ⟨_, rfl⟩
      rw [← hx] at c0
      unfold SV at c0
      have HX := Lib.hid hx
      obtain ⟨ns, hns⟩ : ∃ ns, ns = ((tr, (2 : Int)) :: (ps.take k).map fun p => (p, (3 : Int))) := ⟨_, rfl⟩
      have hown := hrel.out.1
      simp only at hown
      rw [← hns] at hown
      have HN := Lib.hid hns; have HOw := Lib.hid hown; have HB := Lib.hid hrel.out.2
      have hnl : ns.length ≤ 9 := by rw [hns, List.length_cons, List.length_map, List.length_take]; omega
      have HNL := Lib.hid hnl
      have eL : IntKind.i64.wrap ((k : Int) + 1) = ((k + 1 : Nat) : Int) := by rw [IntWalk.i64_in _ (by omega)]; omega
      clear hx hns hown hnl hrel
      go_wp2_with (at_builtin; refine wpList_one wantK rfl _ _ rfl w1.heap.size u6 ns (x, 3) _ rfl rfl (by simp [go_sem]) HOw.out ?c1 (by decide) ?c2 ?_)
      case c1 => have := HNL.out; omega
      case c2 => exact HB.out.size
      intro v' w2 ho2 hb2
      have HR2 := Lib.hid (@CwRel.step ⟨tr, ps, wh, tx⟩ w1 _ _ k v' x ns HN.out hlt HX.out ho2 HB.out hb2)
      clear ho2 hb2
      go_wp2_with fail
      go_roundw
      case rel => exact ⟨k + 1, by omega, by go_num, HR2⟩
      case measure => simp [intOf]; omega
    · obtain rfl : k = ps.length := by omega
      have h0 := hrel.out
      have h1 := h0.1.rd wantV_len
      rw [HQ.out] at h1
      have HF := Lib.hid (HO.out _ wr h1 (L1.out.trans (h0.2.mono L1.out.size)))
      clear h0 h1
      go_wp2_with fail
      go_ret2
      exact HF.out
end Go.Proofs.YtdkkeaaepebafaaGreatDoor
