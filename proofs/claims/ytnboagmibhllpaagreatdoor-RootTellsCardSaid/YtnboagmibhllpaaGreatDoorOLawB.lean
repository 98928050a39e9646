/-
  Bytes of one's own, cut and laid anew.
-/
import Derived.Test.YtnboagmibhllpaaGreatDoorOLawP
import Derived.Test.YtnboagmibhllpaaGreatDoorC20
namespace Go.Proofs.YtnboagmibhllpaaGreatDoor.Ro
open Go.Proofs.YtnboagmibhllpaaGreatDoor
open Go Go.RowKit

theorem rb_takeO {w : World} {A : Option Addr} {n c : Nat} {l : Bs} (h : Rb w (.slice A n c) l) (hn : n = l.length) {k : Nat} (hk : k ≤ n) : Rb w (.slice A k c) (l.take k) := by
  have hl : (l.take k).length = k := by rw [List.length_take]; omega
  rcases h with ⟨⟨A', e⟩, rfl⟩ | ⟨g, o, c', e, hc, hg, hcell⟩
  · cases e
    obtain rfl : k = 0 := by simp at hn; omega
    exact .inl ⟨⟨_, rfl⟩, by simp⟩
  · cases e
    refine .inr ⟨g, o, c, by rw [hl], by omega, hg, fun j hj => ?_⟩
    rw [hl] at hj
    rw [hcell j (by omega), List.getD_eq_getElem?_getD, List.getD_eq_getElem?_getD, List.getElem?_take, if_pos hj]
theorem rb_capO {w : World} {a : Option Addr} {N c : Nat} {l : Bs} (h : Rb w (.slice a N c) l) (hN : N = l.length) : N ≤ c := by
  rcases h with ⟨⟨A, e⟩, rfl⟩ | ⟨g, o, c', e, hc, _⟩
  · cases e; simp
  · cases e; omega
theorem ow_setO {w : World} {B g : Nat} {N c : Nat} {l : Bs} (h : Ow w B (.slice (some ⟨g, 0, none⟩) N c) l) (k : Nat) (y : UInt8) : Ow (w.setCell ⟨g, k, none⟩ (bv y)) B (.slice (some ⟨g, 0, none⟩) N c) (l.set k y) := by
  obtain ⟨h1, h2⟩ := h
  rcases h2 with ⟨e, _⟩ | ⟨g', cap, cur, e, hb, hg, hn, hm, hs, ht⟩
  · cases e
  · cases e
    refine ⟨by simp, .inr ⟨g, c, cur.setIfInBounds k (bv y), by rw [List.length_set], hb, blk_set hg _, by rw [List.length_set]; exact hn, hm, by simpa using hs, ?_⟩⟩
    rw [List.length_set, Array.toList_setIfInBounds, List.take_set, ht, List.map_set]
theorem ow_shapeO {w : World} {B : Nat} {v : Value} {l : Bs} (h : Ow w B v l) (hl : 0 < l.length) : ∃ g c, v = .slice (some ⟨g, 0, none⟩) l.length c ∧ B ≤ g ∧ g < w.heap.size ∧ (∀ k, k < l.length → w.cell? ⟨g, k, none⟩ = some (.int .u8 ((l.getD k 0).toNat : Int))) ∧ ∀ k, w.frozen? ⟨g, k, none⟩ = false := by
  have hrb := h.rb
  obtain ⟨h1, h2⟩ := h
  rcases h2 with ⟨rfl, h2⟩ | ⟨g, cap, cur, rfl, hb, hg, hn, hm, hs, ht⟩
  · omega
  · rcases hrb with ⟨_, e⟩ | ⟨g', o, c, e, _, hlt, hc⟩
    · rw [e] at hl; simp at hl
    · cases e
      exact ⟨g, cap, rfl, hb, hlt, fun k hk => by have := hc k hk; rwa [Nat.zero_add] at this, fun k => by simp [World.frozen?, hg]⟩
theorem at_u8O (W : World) (g o n c k : Nat) (hk : k < n) : (Instr.indexAt 26 (.slice (some ⟨g, o, none⟩) n c) (.int .i64 (k : Int))).run Tryz.prog W = .ok (.pointer (some ⟨g, o + k, none⟩)) W := by
  have h1 : (k : Int) < (n : Int) := by omega
  simp [go_sem, h1]
theorem l_U8 (W : World) (b o : Nat) (n : Int) (h : W.cell? ⟨b, o, none⟩ = some (.int .u8 n)) : (Instr.loadAt 5 (.pointer (some ⟨b, o, none⟩))).run Tryz.prog W = .ok (.int .u8 n) W := by simp [go_sem, h]
theorem eqlU8 (W : World) (x y : UInt8) (b : Bool) (h : decide (x = y) = b) : (binOp .eql 5 (.int .u8 (x.toNat : Int)) (.int .u8 (y.toNat : Int))).run Tryz.prog W = .ok (.bool b) W := by
  cases b with
  | true =>
    have := of_decide_eq_true h
    subst this
    simp [go_sem]
  | false =>
    have hn := of_decide_eq_false h
    have : ¬ (x.toNat : Int) = (y.toNat : Int) := fun e => hn (UInt8.toNat_inj.1 (by omega))
    simp [go_sem, this]
theorem eqlB (W : World) (x y b : Bool) (h : (x == y) = b) : (binOp .eql 4 (.bool x) (.bool y)).run Tryz.prog W = .ok (.bool b) W := by
  subst h; cases x <;> cases y <;> simp [go_sem]
theorem eqlSt (W : World) (x y : Bs) (b : Bool) (h : decide (x = y) = b) : (binOp .eql 9 (.string ⟨x.toArray⟩) (.string ⟨y.toArray⟩)).run Tryz.prog W = .ok (.bool b) W := by
  show (Op.stringOp .eql _ _).run _ _ = _
  cases b with
  | true =>
    have h1 : x = y := of_decide_eq_true h
    simp [go_sem, Op.stringOp, h1]
  | false =>
    have h1 : ¬ x = y := of_decide_eq_false h
    simp [go_sem, Op.stringOp, h1]
theorem l_RtO (W : World) (b : Nat) (x0 x1 x2 : Value) (h0 : W.cell? ⟨b, 0, none⟩ = some x0) (h1 : W.cell? ⟨b, 1, none⟩ = some x1) (h2 : W.cell? ⟨b, 2, none⟩ = some x2) :
    (Instr.loadAt 25 (.pointer (some ⟨b, 0, none⟩))).run Tryz.prog W = .ok (.agg #[x0, x1, x2]) W := by
  simp [go_sem, h0, h1, h2]
theorem u8_10 (x : UInt8) : ((x.toNat : Int) == 10) = (x == 10) := by
  rw [Bool.eq_iff_iff, beq_iff_eq, beq_iff_eq]
  constructor
  · intro h; exact UInt8.toNat_inj.1 (by show x.toNat = 10; omega)
  · intro h; rw [h]; rfl
theorem count_take {l : Bs} {k : Nat} (hk : k < l.length) : (l.take (k + 1)).count 10 = (l.take k).count 10 + (if l.getD k 0 == 10 then 1 else 0) := by
  rw [List.take_add_one, List.getElem?_eq_getElem hk, Option.toList_some, List.count_append, List.getD_eq_getElem?_getD, List.getElem?_eq_getElem hk, List.count_singleton]; rfl
end Go.Proofs.YtnboagmibhllpaaGreatDoor.Ro
