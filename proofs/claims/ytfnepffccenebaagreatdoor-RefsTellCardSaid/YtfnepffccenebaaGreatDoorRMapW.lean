/-
  Refs in a map: made of a list, changed, asked.
-/
import Derived.Test.YtfnepffccenebaaGreatDoorRMap
import Derived.Test.YtfnepffccenebaaGreatDoorRFind
namespace Go.Proofs.YtfnepffccenebaaGreatDoor.Rf
open Go.Proofs.YtfnepffccenebaaGreatDoor
open Go Go.RowKit Go.Maps

theorem putW_last {x : Ref} : ∀ {l : List Ref}, (∀ y ∈ l, y.name < x.name) → putW x l = l ++ [x]
  | [], _ => rfl
  | y :: l, h => by
    have hy := h y List.mem_cons_self
    have h1 : ¬ x.name < y.name := fun e => lt_irr _ (lt_tr hy e)
    have h2 : ¬ y.name = x.name := fun e => by rw [e] at hy; exact lt_irr _ hy
    rw [putW, if_neg h1, if_neg h2, putW_last fun z hz => h z (List.mem_cons_of_mem _ hz)]; rfl
theorem rise_take {l : List Ref} (h : l.Pairwise fun a b => a.name < b.name) (k : Nat) : (l.take k).Pairwise fun a b => a.name < b.name := h.sublist (List.take_sublist _ _)
theorem putW_take {l : List Ref} (h : l.Pairwise fun a b => a.name < b.name) {k : Nat} {x : Ref} (hx : l[k]? = some x) : putW x (l.take k) = l.take (k + 1) := by
  rw [List.take_add_one, hx, Option.toList_some]
  refine putW_last fun y hy => ?_
  obtain ⟨hk, rfl⟩ := List.getElem?_eq_some_iff.1 hx
  obtain ⟨i, hi, rfl⟩ := List.mem_iff_getElem.1 hy
  rw [List.getElem_take]
  rw [List.length_take] at hi
  exact List.pairwise_iff_getElem.1 h i k (by omega) hk (by omega)
/-- A map of refs, new. -/
def MapP (l : List Ref) (w : World) (e : Ending) (w' : World) : Prop := ∃ b n, e = .returned (.map (some b)) ∧ w.heap.size ≤ b ∧ n ≤ l.length ∧ MapL w' b n l ∧ Below w.heap.size w w'
theorem agg_refV (r : Ref) : Value.agg #[.string ⟨r.name.toArray⟩, .string ⟨r.id.toArray⟩] = refV r := rfl
theorem wpList_putL {w : World} {ops : Array Oper} {rest : List Oper} {o : Oper} {a : Go.Act} {Q : Exit → Go.Act → World → Prop}
    (hg : o.guard = none) (mo xo vo : Operand) (hop : o.op = Op.mapUpdate 52 mo xo vo)
    (b n : Nat) (l : List Ref) (r : Ref) (hm : a.eval mo = .map (some b)) (hxo : a.eval xo = .string ⟨r.name.toArray⟩) (hvo : a.eval vo = .agg #[.string ⟨r.name.toArray⟩, .string ⟨r.id.toArray⟩]) (h : MapL w b n l) (hl : l.Pairwise fun a b => a.name < b.name) (hn : n < maxLen) (hx : r.name.length ≤ maxLen)
    (hK : ∀ w', MapL w' b (n + 1) (putW r l) → w.grownBy w' (some b) → wpList Tryz.prog ops Q rest (a.put o.dst undef) w') : wpList Tryz.prog ops Q (o :: rest) a w := by
  refine wpList_plain hg fun K' hK' => ?_
  obtain ⟨w', hrun, r1, r2⟩ := h.put hl hn r hx
  rw [agg_refV] at hvo
  unfold Oper.wp
  simp [execOp, hop, hm, hxo, hvo, hrun, Result.andThen]
  exact hK' _ _ (hK w' r1 r2)
theorem wpList_delL {w : World} {ops : Array Oper} {rest : List Oper} {o : Oper} {a : Go.Act} {Q : Exit → Go.Act → World → Prop}
    (hg : o.guard = none) (mo xo : Operand) (hop : o.op = Op.call { callee := Callee.builtin Builtin.delete, args := #[mo, xo], argTypes := #[52, 9] })
    (b n : Nat) (l : List Ref) (x : Bs) (hm : a.eval mo = .map (some b)) (hxo : a.eval xo = .string ⟨x.toArray⟩) (h : MapL w b n l) (hl : l.Pairwise fun a b => a.name < b.name) (hx : x.length ≤ maxLen)
    (hK : ∀ w', MapL w' b n (l.filter fun r => !(r.name == x)) → w.grownBy w' (some b) → wpList Tryz.prog ops Q rest (a.put o.dst (.tuple #[])) w') : wpList Tryz.prog ops Q (o :: rest) a w := by
  refine wpList_plain hg fun K' hK' => ?_
  obtain ⟨w', hrun, r1, r2⟩ := h.del hl x hx o.type
  unfold Oper.wp
  simp [execOp, hop, resolve, invoke, builtin, hm, hxo, hrun, Result.andThen]
  exact hK' _ _ (hK w' r1 r2)
theorem grown_below' {w w' : World} {b B : Nat} (h : w.grownBy w' (some b)) (hb : B ≤ b) (hB : B ≤ w.heap.size) : Below B w w' := ⟨h.os, h.tape, h.output, h.size, fun i hi => h.block i (by omega) (fun e => by cases e; omega)⟩

set_option maxRecDepth 100000 in
set_option maxHeartbeats 4000000 in
theorem nameMap_p (l : List Ref) (v : Value) (w : World) (hv : RefsR w v l) (hr : Right l) : Calls Tryz.prog 31 #[v] w (MapP l w) := by
  obtain ⟨A, c, rfl⟩ := hv.shape
  obtain ⟨N, hN⟩ : ∃ N, N = l.length := ⟨_, rfl⟩
  rw [← hN] at hv ⊢
  have HV := Lib.hid hv
  have HN := Lib.hid hN
  have HR := Lib.hid hr
  have h64 : N ≤ 64 := by rw [hN]; exact hr.len
  have M0 := Lib.hid (MapL.made w)
  have L0 := Lib.hid (below_al w (.map #[] 0))
  have hmm := @run_makeMap Tryz.prog
  clear hv hN hr
  go_enter Tryz.func31, Tryz.ntmps31
  go_wp2_with fail
  go_loopw [9] (fun i wr => ∃ k n : Nat, k ≤ N ∧ n ≤ k ∧ i = .int .i64 k ∧ Hid (MapL wr w.heap.size n (l.take k)) ∧ Hid (Below w.heap.size w wr)) (fun i _ => N - (intOf i).toNat)
  case atStart => exact ⟨0, 0, Nat.zero_le _, Nat.zero_le _, rfl, M0, L0⟩
  case round =>
    obtain ⟨k, n, hk, hn, rfl, hM, hB⟩ := hrel
    by_cases hlt : k < N
    case neg =>
      have hkN : k = N := by omega
      have HM : Hid (MapL wr w.heap.size n l) := Lib.hid (by have h := hM.out; rw [hkN, HN.out, List.take_length] at h; exact h)
      have Hn : Hid (n ≤ l.length) := Lib.hid (by rw [← HN.out]; omega)
      clear hkN hM M0 L0
      go_wp2_with fail
      go_ret
      exact ⟨w.heap.size, n, rfl, Nat.le_refl _, Hn.out, HM.out, hB.out⟩
    obtain ⟨g, o, c', e, _, hg⟩ := HV.out.pos (by have := HN.out; omega)
    obtain rfl : A = some ⟨g, o, none⟩ := by rw [← HN.out] at e; cases e; rfl
    clear e
    obtain ⟨x, hx⟩ : ∃ x, l[k]? = some x := ⟨_, List.getElem?_eq_getElem (by have := HN.out; omega)⟩
    obtain ⟨c0, c1⟩ := RefsR.cells (RdK.below HV.out hB.out (Nat.le_refl _)) hx
    have hnl : x.name.length ≤ 80 := by
      have := HR.out.name x (List.mem_of_getElem? hx)
      unfold nameB at this
      simp only [Bool.and_eq_true, decide_eq_true_eq] at this
      exact this.1.1.1
    have HP := Lib.hid (putW_take HR.out.rise hx)
    have HT := Lib.hid (rise_take HR.out.rise k)
    obtain ⟨nm, id⟩ := x
    simp only at hnl
    unfold SV at c0 c1
    simp only at c0 c1
    have hM2 := Lib.hid (hM.out.below (below_al wr (.cells #[.string ⟨nm.toArray⟩, .string ⟨id.toArray⟩] 45)) hM.out.lt)
    have hB2 := Lib.hid (hB.out.alloc hB.out.size (.cells #[.string ⟨nm.toArray⟩, .string ⟨id.toArray⟩] 45))
    have Hnl : Hid (nm.length ≤ maxLen) := Lib.hid (by unfold maxLen; omega)
    have Hn : Hid (n < maxLen) := Lib.hid (by unfold maxLen; omega)
    clear hx hg hM hB hnl M0 L0
    go_wp2_with (refine wpList_putL rfl _ _ _ rfl w.heap.size n (l.take k) ⟨nm, id⟩ rfl rfl rfl hM2.out HT.out Hn.out Hnl.out ?_)
    intro w5 hM5 hg5
    have HM5 : Hid (MapL w5 w.heap.size (n + 1) (l.take (k + 1))) := Lib.hid (by rw [← HP.out]; exact hM5)
    have HB5 := Lib.hid (hB2.out.trans (grown_below' hg5 (Nat.le_refl _) hB2.out.size))
    clear hM5 hg5
    go_wp2_with fail
    go_roundw
    case rel => exact ⟨k + 1, n + 1, by omega, by omega, by go_num, HM5, HB5⟩
    case measure => simp [intOf]; omega
end Go.Proofs.YtfnepffccenebaaGreatDoor.Rf
