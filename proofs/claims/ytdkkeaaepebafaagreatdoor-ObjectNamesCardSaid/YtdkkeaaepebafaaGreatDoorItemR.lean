/-
  readItem, walked.
-/
import Derived.Test.YtdkkeaaepebafaaGreatDoorItem
namespace Go.Proofs.YtdkkeaaepebafaaGreatDoor
open Go Go.RowKit Go.Shelf

theorem alloc_heap (w : World) (o : Obj) : (w.alloc o).heap = w.heap.push o := rfl
/-- What readItem answers. -/
def ItmPost (o : Option (Itm × List UInt8)) (w : World) (e : Ending) (w' : World) : Prop :=
  (match o with
  | some (x, r) => e = .returned (.tuple #[ItV x, SV r, .nilIface])
  | none => ∃ p, e = .returned (.tuple #[.agg #[.int .i64 0, .string ⟨#[]⟩, .string ⟨#[]⟩], .string ⟨#[]⟩, .iface 92 (.pointer (some p))])) ∧ Below w.heap.size w w'

theorem cells3' (W : World) (n : Nat) (a b c : Value) {a' b' c' : Value} (h0 : W.cell? ⟨n, 0, none⟩ = some a') (h1 : W.cell? ⟨n, 1, none⟩ = some b') (h2 : W.cell? ⟨n, 2, none⟩ = some c') :
    (W.setCell ⟨n, 0, none⟩ a).cell? ⟨n, 0, none⟩ = some a ∧ ((W.setCell ⟨n, 0, none⟩ a).setCell ⟨n, 1, none⟩ b).cell? ⟨n, 1, none⟩ = some b ∧ (((W.setCell ⟨n, 0, none⟩ a).setCell ⟨n, 1, none⟩ b).setCell ⟨n, 2, none⟩ c).cell? ⟨n, 2, none⟩ = some c := by
  refine ⟨?_, ?_, ?_⟩
  · simp [go_sem, h0]
  · simp [go_sem, h1]
  · simp [go_sem, h2]
theorem cells3 (W : World) (n : Nat) (p : Addr) (x a b c : Value) {a' b' c' : Value} (hp : p.block ≠ n) (h0 : W.cell? ⟨n, 0, none⟩ = some a') (h1 : W.cell? ⟨n, 1, none⟩ = some b') (h2 : W.cell? ⟨n, 2, none⟩ = some c') :
    ((W.setCell p x).setCell ⟨n, 0, none⟩ a).cell? ⟨n, 0, none⟩ = some a ∧ (((W.setCell p x).setCell ⟨n, 0, none⟩ a).setCell ⟨n, 1, none⟩ b).cell? ⟨n, 1, none⟩ = some b ∧ ((((W.setCell p x).setCell ⟨n, 0, none⟩ a).setCell ⟨n, 1, none⟩ b).setCell ⟨n, 2, none⟩ c).cell? ⟨n, 2, none⟩ = some c := by
  have hc : ∀ i, (W.setCell p x).cell? ⟨n, i, none⟩ = W.cell? ⟨n, i, none⟩ := fun i => World.cell?_setCell_far _ _ _ _ hp
  exact cells3' _ n a b c ((hc 0).trans h0) ((hc 1).trans h1) ((hc 2).trans h2)

set_option maxRecDepth 100000 in
set_option maxHeartbeats 4000000 in
theorem readItem_any (s : List UInt8) (hs : s.length ≤ 1000000) (w : World) (he : Er w) : Calls Tryz.prog 70 #[.string ⟨s.toArray⟩] w (ItmPost (getI s) w) := by
  have HST := Lib.hid (itm_step w he s)
  have HS := Lib.hid hs
  clear he hs
  go_enter Tryz.func70, Tryz.ntmps70
  go_wp2_with fail
  refine (some_mk _ _ _).mono ?_
  rintro e w1 ⟨rfl, rfl⟩
  go_wp2_with fail
  refine (past_mk _ _).mono ?_
  rintro e w1 ⟨rfl, rfl⟩
  go_wp2_with fail
  refine (until_mk _ _ _).mono ?_
  rintro e w1 ⟨rfl, rfl⟩
  go_wp2_with fail
  refine (some_mk _ _ _).mono ?_
  rintro e w1 ⟨rfl, rfl⟩
  go_wp2_with fail
  refine (read_gen 4 4 (w.heap.size + 10) (by decide) itmG (itmL w.heap.size) (itmP w s) (itmF w s) ?c1 ?c2 HST.out s _ ?c3).mono ?_
  case c1 =>
    rintro i r W hi ⟨_, md, nm, di, E, _⟩
    refine cell_of E.b10 ?_
    match i, hi with
    | 0, _ => rfl
    | 1, _ => rfl
    | 2, _ => rfl
    | 3, _ => rfl
  case c2 =>
    intro i hi
    match i, hi with
    | 0, _ => exact enters_of Tryz.func120 (by kernel_rfl) rfl
    | 1, _ => exact enters_of Tryz.func102 (by kernel_rfl) rfl
    | 2, _ => exact enters_of Tryz.func121 (by kernel_rfl) rfl
    | 3, _ => exact enters_of Tryz.func120 (by kernel_rfl) rfl
  case c3 =>
    refine ⟨HS.out, [], [], [], ⟨?_, ?_, ?_, ?_, ?_, ?_, ?_, ?_, ?_, ?_, ?_, ?_⟩, rfl⟩
    · refine Below.alloc (Below.alloc (Below.alloc (Below.alloc (Below.alloc (Below.alloc (Below.alloc (Below.alloc (Below.alloc (Below.alloc (Below.alloc (Below.refl _ _) ?_ _) ?_ _) ?_ _) ?_ _) ?_ _) ?_ _) ?_ _) ?_ _) ?_ _) ?_ _) ?_ _ <;> first | omega | (simp only [World.size_alloc]; omega)
    all_goals (simp only [alloc_heap, Array.getElem?_push, Array.size_push, Nat.add_assoc, Nat.reduceAdd]; simp [SV])
  rintro e W (⟨r, rfl, _, md, nm, di, E, R⟩ | ⟨r, p, rfl, hg, hb, h0⟩)
  · obtain ⟨c, q, t, e0, e1, hc, hl, rfl, rfl⟩ := R
    subst e1
    have hg : getI s = some (⟨(c.toNat : Int) - 48, nm, t.take 64⟩, t.drop 64) := by
      rw [e0, getI, if_pos rfl, hc]
      show (if 64 ≤ t.length then _ else _) = _
      rw [if_pos hl]
    have B := Lib.hid E.below
    have x0 : W.cell? ⟨w.heap.size + 1, 0, none⟩ = some (.int .i64 0) := cell_of E.it rfl
    have x1 : W.cell? ⟨w.heap.size + 1, 1, none⟩ = some (SV nm) := cell_of E.it rfl
    have x2 : W.cell? ⟨w.heap.size + 1, 2, none⟩ = some (SV (t.take 64)) := cell_of E.it rfl
    have z1 : ∀ i, W.frozen? ⟨w.heap.size + 1, i, none⟩ = false := fun i => frozen_of E.it
    have y0 : W.cell? ⟨w.heap.size, 0, none⟩ = some (.int .i64 0) := cell_of E.r0 rfl
    have y1 : W.cell? ⟨w.heap.size, 1, none⟩ = some (.string ⟨#[]⟩) := cell_of E.r0 rfl
    have y2 : W.cell? ⟨w.heap.size, 2, none⟩ = some (.string ⟨#[]⟩) := cell_of E.r0 rfl
    have z0 : ∀ i, W.frozen? ⟨w.heap.size, i, none⟩ = false := fun i => frozen_of E.r0
    have m0 : W.cell? ⟨w.heap.size + 2, 0, none⟩ = some (.string ⟨#[c]⟩) := cell_of E.mo rfl
    have hcl : (c.toNat : Int) < 256 := by have := c.toNat_lt; omega
    have hcl0 : 0 ≤ (c.toNat : Int) := by omega
    have ge : ∀ h, (⟨#[c]⟩ : ByteArray)[0]'h = c := fun _ => rfl
    have z00 := z0 0; have z01 := z0 1; have z02 := z0 2; have z10 := z1 0
    generalize t.take 64 = di at x2 hg ⊢
    generalize t.drop 64 = r at hg ⊢
    have HG := Lib.hid hg
    unfold SV at x1 x2 m0 ⊢
    clear E hg hc e0 hl z0 z1
    have f0 := cells3 W w.heap.size ⟨w.heap.size + 1, 0, none⟩ (.int .i64 ((c.toNat : Int) - 48)) (.int .i64 ((c.toNat : Int) - 48)) (.string ⟨nm.toArray⟩) (.string ⟨di.toArray⟩) (by simp) y0 y1 y2
    obtain ⟨f0, f1, f2⟩ := f0
    go_wp2_with fail
    refine bodyPost_ret (v := .tuple #[.agg #[.int .i64 ((c.toNat : Int) - 48), .string ⟨nm.toArray⟩, .string ⟨di.toArray⟩], .string ⟨r.toArray⟩, .nilIface]) (by simp [results, Tryz.results70, go_sem, f0, f1, f2]) rfl ?_
    rw [HG.out]
    exact ⟨rfl, (((B.out.setCell (Nat.le_add_right _ 1) _).setCell (Nat.le_refl _) _).setCell (Nat.le_refl _) _).setCell (Nat.le_refl _) _⟩
  · obtain ⟨pb, po, ps⟩ := p
    have HG := Lib.hid hg
    have B := Lib.hid hb
    have y0 : W.cell? ⟨w.heap.size, 0, none⟩ = some (.int .i64 0) := cell_of h0 rfl
    have y1 : W.cell? ⟨w.heap.size, 1, none⟩ = some (.string ⟨#[]⟩) := cell_of h0 rfl
    have y2 : W.cell? ⟨w.heap.size, 2, none⟩ = some (.string ⟨#[]⟩) := cell_of h0 rfl
    have z0 : ∀ i, W.frozen? ⟨w.heap.size, i, none⟩ = false := fun i => frozen_of h0
    have z00 := z0 0; have z01 := z0 1; have z02 := z0 2
    clear hg hb h0 z0
    have f0 := cells3' W w.heap.size (.int .i64 0) (.string ⟨#[]⟩) (.string ⟨#[]⟩) y0 y1 y2
    obtain ⟨f0, f1, f2⟩ := f0
    go_wp2_with fail
    refine bodyPost_ret (v := .tuple #[.agg #[.int .i64 0, .string ⟨#[]⟩, .string ⟨#[]⟩], .string ⟨#[]⟩, .iface 92 (.pointer (some ⟨pb, po, ps⟩))]) (by simp [results, Tryz.results70, go_sem, f0, f1, f2]) rfl ?_
    rw [HG.out]
    exact ⟨⟨_, rfl⟩, ((B.out.setCell (Nat.le_refl _) _).setCell (Nat.le_refl _) _).setCell (Nat.le_refl _) _⟩
end Go.Proofs.YtdkkeaaepebafaaGreatDoor
