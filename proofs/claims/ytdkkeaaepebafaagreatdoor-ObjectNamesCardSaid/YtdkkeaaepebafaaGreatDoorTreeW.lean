/-
  treeWants: what a tree names.
-/
import Derived.Test.YtdkkeaaepebafaaGreatDoorTreeR
namespace Go.Proofs.YtdkkeaaepebafaaGreatDoor
open Go Go.RowKit Go.Shelf

/-- What is named, or an error. -/
def WtPost (o : Option (List (List UInt8 × Int))) (w : World) (e : Ending) (w' : World) : Prop :=
  ((∃ v l, o = some l ∧ e = .returned (.tuple #[v, .nilIface]) ∧ WantsR w' v l ∧ l.length ≤ 256) ∨ (o = none ∧ ∃ A n c p, e = .returned (.tuple #[.slice A n c, .iface 92 (.pointer (some p))]))) ∧ Below w.heap.size w w'
def TwRel (l : List Itm) (w1 : World) (k : Nat) (v : Value) (wr : World) : Prop :=
  OwK 58 2 wantV wr w1.heap.size v ((l.take k).map wantI) ∧ Below w1.heap.size w1 wr
theorem TwRel.step {l : List Itm} {w1 w2 w3 : World} {k : Nat} {v' : Value} {x : Itm} {ns : List (List UInt8 × Int)} {y : List UInt8 × Int} (hns : ns = (l.take k).map wantI) (hk : k < l.length) (hx : x = l.getD k noItm) (hy : y = wantI x) 
    (ho : OwK 58 2 wantV w3 w1.heap.size v' (ns ++ [y])) (h1 : Below w1.heap.size w1 w2) (h2 : Below w1.heap.size w2 w3) : TwRel l w1 (k + 1) v' w3 := by
  refine ⟨?_, h1.trans h2⟩
  rw [take_getD l noItm k hk, List.map_append, ← hns, ← hx]
  subst hy
  exact ho

set_option maxRecDepth 100000 in
set_option maxHeartbeats 4000000 in
theorem treeWants_any (s : List UInt8) (hs : s.length ≤ 1000000) (w : World) (he : Er w) (ht : Tb w) :
    Calls Tryz.prog 84 #[.string ⟨s.toArray⟩] w (WtPost ((getT s).map fun l => l.map wantI) w) := by
  have hret : Calls Tryz.prog 45 #[.string ⟨s.toArray⟩] w fun e w1 => ∃ A c l ev, e = .returned (.tuple #[.slice A (l : List Itm).length c, ev]) ∧ l.length ≤ 257 ∧ ItmsR w1 (.slice A l.length c) l ∧ Below w.heap.size w w1 ∧
      ∀ v w2, WantsR w2 v (l.map wantI) → Below w.heap.size w w2 → WtPost ((getT s).map fun l => l.map wantI) w (.returned (.tuple #[v, ev])) w2 := by
    refine (readTree_any s hs w he ht).mono ?_
    rintro e w1 ⟨⟨v, l, hg, rfl, hi, hn⟩ | ⟨v, l, p, hg, rfl, hi, hn⟩, l1⟩
    · obtain ⟨A, c, rfl⟩ := hi.shape
      exact ⟨A, c, l, _, rfl, by omega, hi, l1, fun v w2 h1 h2 => ⟨.inl ⟨v, _, by rw [hg]; rfl, rfl, h1, by rw [List.length_map]; exact hn⟩, h2⟩⟩
    · obtain ⟨A, c, rfl⟩ := hi.shape
      refine ⟨A, c, l, _, rfl, hn, hi, l1, fun v w2 h1 h2 => ⟨.inr ⟨by rw [hg]; rfl, ?_⟩, h2⟩⟩
      obtain ⟨A2, c2, rfl⟩ := h1.shape
      exact ⟨_, _, _, p, rfl⟩
  have HT := Lib.hid hret
  clear hret he ht hs
  go_enter Tryz.func84, Tryz.ntmps84
  go_wp2_with fail
  refine HT.out.mono ?_
  rintro e w1 ⟨A, c, l, ev, rfl, hl, hr, l1, hout⟩
  have HR := Lib.hid hr; have L1 := Lib.hid l1; have HO := Lib.hid hout; have HL := Lib.hid hl
  clear hr l1 hout hl
  go_wp2_with fail
  go_loopw [6, 17] (fun vl vi wr => ∃ k : Nat, k ≤ l.length ∧ vi = .int .i64 k ∧ Hid (TwRel l w1 k vl wr)) (fun _ vi _ => l.length - (intOf vi).toNat)
  case atStart => exact ⟨0, Nat.zero_le _, rfl, Lib.hid ⟨OwK.nil _ _ _ _ _, Below.refl _ _⟩⟩
  case round =>
    obtain ⟨k, hk, rfl, hrel⟩ := hrel
    by_cases hlt : k < l.length
    · obtain ⟨g, o, c', e, _, hg⟩ := HR.out.pos (by omega)
      cases e
      obtain ⟨c0, c1, c2⟩ := ItmsR.cells (HR.out.below hrel.out.2 (Nat.le_refl _)) k hlt
      obtain ⟨x, hx⟩ : ∃ x, x = l.getD k noItm := ⟨_, rfl⟩
      rw [← hx] at c0 c1 c2
      have HX := Lib.hid hx
      obtain ⟨m, nm, di⟩ := x
      unfold SV at c1 c2
      simp only at c0 c1 c2
      obtain ⟨ns, hns⟩ : ∃ ns, ns = (l.take k).map wantI := ⟨_, rfl⟩
      have hown := hrel.out.1.below (below_new wr (.cells #[.int .i64 m, .string ⟨nm.toArray⟩, .string ⟨di.toArray⟩] 54)) (Nat.le_refl _)
      rw [← hns] at hown
      have HN := Lib.hid hns; have HOw := Lib.hid hown
      have hnl : ns.length ≤ 257 := by rw [hns, List.length_map, List.length_take]; have := HL.out; omega
      have HNL := Lib.hid hnl
      have B1 := Lib.hid (hrel.out.2.alloc hrel.out.2.size (.cells #[.int .i64 m, .string ⟨nm.toArray⟩, .string ⟨di.toArray⟩] 54))
      clear hx hns hown hnl
      by_cases hm : m = 3
      · subst hm
        go_wp2_with (at_builtin; refine wpList_one wantK rfl _ _ rfl w1.heap.size u6 ns (di, 2) _ rfl rfl (by simp [go_sem]) HOw.out ?c1 (by decide) ?c2 ?_)
        case c1 => have := HNL.out; omega
        case c2 => exact B1.out.size
        intro v' w2 ho2 hb2
        have HR2 := Lib.hid (TwRel.step HN.out hlt HX.out (by simp [wantI]) ho2 B1.out hb2)
        clear ho2 hb2
        have hL := HL.out
        have eL : IntKind.i64.wrap ((k : Int) + 1) = ((k + 1 : Nat) : Int) := by rw [IntWalk.i64_in _ (by omega)]; omega
        go_wp2_with fail
        go_roundw
        case rel => exact ⟨k + 1, by omega, by go_num, HR2⟩
        case measure => simp [intOf]; omega
      · go_wp2_with (at_builtin; refine wpList_one wantK rfl _ _ rfl w1.heap.size u6 ns (di, 1) _ rfl rfl (by simp [go_sem]) HOw.out ?c1 (by decide) ?c2 ?_)
        case c1 => have := HNL.out; omega
        case c2 => exact B1.out.size
        intro v' w2 ho2 hb2
        have HR2 := Lib.hid (TwRel.step HN.out hlt HX.out (by simp [wantI, hm]) ho2 B1.out hb2)
        clear ho2 hb2
        have hL := HL.out
        have eL : IntKind.i64.wrap ((k : Int) + 1) = ((k + 1 : Nat) : Int) := by rw [IntWalk.i64_in _ (by omega)]; omega
        go_wp2_with fail
        go_roundw
        case rel => exact ⟨k + 1, by omega, by go_num, HR2⟩
        case measure => simp [intOf]; omega
    · obtain rfl : k = l.length := by omega
      have h0 := hrel.out
      unfold TwRel at h0
      rw [List.take_length] at h0
      have HF := Lib.hid (HO.out _ wr (h0.1.rd wantV_len) (L1.out.trans (h0.2.mono L1.out.size)))
      clear h0
      go_wp2_with fail
      go_ret2
      exact HF.out
end Go.Proofs.YtdkkeaaepebafaaGreatDoor
