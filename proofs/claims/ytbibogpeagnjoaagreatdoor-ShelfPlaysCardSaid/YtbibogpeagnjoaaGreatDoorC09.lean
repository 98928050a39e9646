/-
  The document's Part, Dir, Path.
  A region that draws its order: what it reads stays as it is, behind whatever calls come; so the reads may be taken as soon as they can be.
  The document's Dir, Path.
  ShelfRefused: its walk.
  The plain side of ShelfOrder: acts of unlike directories do not meet.
-/
import Derived.Test.YtbibogpeagnjoaaGreatDoorC08
import Derived.OrdersHeld
import Derived.Deep.RegionHeld
import Derived.Deep.CutBlock
import Derived.Deep.CutRange

namespace Go.Proofs.YtbibogpeagnjoaaGreatDoor
open Go Go.RowKit Go.Maps Go.Shelf Go.Deep

theorem pb_true (c : UInt8) (h : (c.toNat : Int) = 46 ∨ (c.toNat : Int) = 45 ∨ (97 ≤ (c.toNat : Int) ∧ (c.toNat : Int) ≤ 122) ∨ (48 ≤ (c.toNat : Int) ∧ (c.toNat : Int) ≤ 57)) : partByte c = true := by
  unfold partByte; simp; omega
theorem pb_false (c : UInt8) (h : ¬ ((c.toNat : Int) = 46 ∨ (c.toNat : Int) = 45 ∨ (97 ≤ (c.toNat : Int) ∧ (c.toNat : Int) ≤ 122) ∨ (48 ≤ (c.toNat : Int) ∧ (c.toNat : Int) ≤ 57))) : partByte c = false := by
  rw [Bool.eq_false_iff]; intro e; apply h; revert e; unfold partByte; simp; omega

set_option maxHeartbeats 4000000 in
set_option maxRecDepth 100000 in
theorem Part_any (s : By) (w : World) (hs : s.length ≤ lim) : Calls Tryz.prog 54 #[S s] w fun e w' => e = .returned (.bool (partB s)) ∧ w = w' := by
  unfold S
  have hs' : s.length ≤ 140737488355328 := hs
  go_enter Tryz.func54, Tryz.ntmps54
  go_wp2_with fail
  go_loop [3] (fun i => ∃ k : Nat, k ≤ s.length ∧ i = .int .i64 k ∧ (s.take k).all partByte = true) (fun i => s.length - (intOf i).toNat)
  case atStart => exact ⟨0, Nat.zero_le _, rfl, rfl⟩
  case round =>
    obtain ⟨k, hk, rfl, hall⟩ := hrel
    by_cases hlt : k < s.length
    · have hsn : (s.take (k + 1)).all partByte = (partByte s[k]) := by
        rw [List.take_succ_eq_append_getElem hlt, List.all_append, hall]; simp
      have hf : partByte s[k] = false → partB s = false := fun hp => by
        unfold partB
        have : s.all partByte = false := by
          rw [← List.take_append_drop (k + 1) s, List.all_append, hsn, hp]; rfl
        rw [this]; simp
      have Hs := Lib.hid hsn; have Hf := Lib.hid hf
      clear hsn hf hall
      have hgk : (({ data := List.toArray s } : ByteArray)[k]'(by simpa [ByteArray.size] using hlt)).toNat = s[k].toNat := rfl
      by_cases h46 : (s[k].toNat : Int) = 46
      · have Hp : Hid (partByte s[k] = true) := Lib.hid (pb_true _ (by omega))
        have e46 : ((s[k].toNat : Int) == 46) = true := by simpa using h46
        go_wp2
        go_round
        case rel => exact ⟨k + 1, by omega, by go_num, by rw [Hs.out]; exact Hp.out⟩
        case measure => simp [intOf]; omega
      by_cases h45 : (s[k].toNat : Int) = 45
      · have Hp : Hid (partByte s[k] = true) := Lib.hid (pb_true _ (by omega))
        have e45 : ((s[k].toNat : Int) == 45) = true := by simpa using h45
        have e46 : ((s[k].toNat : Int) == 46) = false := by simp; omega
        go_wp2
        go_round
        case rel => exact ⟨k + 1, by omega, by go_num, by rw [Hs.out]; exact Hp.out⟩
        case measure => simp [intOf]; omega
      by_cases hL : 97 ≤ (s[k].toNat : Int) ∧ (s[k].toNat : Int) ≤ 122
      · have Hp : Hid (partByte s[k] = true) := Lib.hid (pb_true _ (by omega))
        have e46 : ((s[k].toNat : Int) == 46) = false := by simp; omega
        have e45 : ((s[k].toNat : Int) == 45) = false := by simp; omega
        have n46 : ((s[k].toNat : Int) != 46) = true := by simp; omega
        have n45 : ((s[k].toNat : Int) != 45) = true := by simp; omega
        obtain ⟨hL1, hL2⟩ := hL
        have : ¬ (s[k].toNat : Int) < 97 := by omega
        have : ¬ 122 < (s[k].toNat : Int) := by omega
        go_wp2
        go_round
        case rel => exact ⟨k + 1, by omega, by go_num, by rw [Hs.out]; exact Hp.out⟩
        case measure => simp [intOf]; omega
      by_cases hD : 48 ≤ (s[k].toNat : Int) ∧ (s[k].toNat : Int) ≤ 57
      · have Hp : Hid (partByte s[k] = true) := Lib.hid (pb_true _ (by omega))
        have e46 : ((s[k].toNat : Int) == 46) = false := by simp; omega
        have e45 : ((s[k].toNat : Int) == 45) = false := by simp; omega
        have n46 : ((s[k].toNat : Int) != 46) = true := by simp; omega
        have n45 : ((s[k].toNat : Int) != 45) = true := by simp; omega
        obtain ⟨hD1, hD2⟩ := hD
        have hD3 : (s[k].toNat : Int) < 97 := by omega
        have : ¬ (s[k].toNat : Int) < 48 := by omega
        have : ¬ 57 < (s[k].toNat : Int) := by omega
        go_wp2
        go_round
        case rel => exact ⟨k + 1, by omega, by go_num, by rw [Hs.out]; exact Hp.out⟩
        case measure => simp [intOf]; omega
      by_cases hA : (s[k].toNat : Int) < 48
      · have Hp : Hid (partByte s[k] = false) := Lib.hid (pb_false _ (by omega))
        have e46 : ((s[k].toNat : Int) == 46) = false := by simp; omega
        have e45 : ((s[k].toNat : Int) == 45) = false := by simp; omega
        have n46 : ((s[k].toNat : Int) != 46) = true := by simp; omega
        have n45 : ((s[k].toNat : Int) != 45) = true := by simp; omega
        have hD3 : (s[k].toNat : Int) < 97 := by omega
        clear hL hD
        go_wp2
        go_ret
        exact ⟨congrArg (fun b => Ending.returned (Value.bool b)) (Hf.out Hp.out).symm, rfl⟩
      by_cases hB : (s[k].toNat : Int) < 97
      · have Hp : Hid (partByte s[k] = false) := Lib.hid (pb_false _ (by omega))
        have e46 : ((s[k].toNat : Int) == 46) = false := by simp; omega
        have e45 : ((s[k].toNat : Int) == 45) = false := by simp; omega
        have n46 : ((s[k].toNat : Int) != 46) = true := by simp; omega
        have n45 : ((s[k].toNat : Int) != 45) = true := by simp; omega
        have hD3 : 57 < (s[k].toNat : Int) := by omega
        have hD4 : ¬ (s[k].toNat : Int) < 48 := by omega
        clear hL hD
        go_wp2
        go_ret
        exact ⟨congrArg (fun b => Ending.returned (Value.bool b)) (Hf.out Hp.out).symm, rfl⟩
      · have Hp : Hid (partByte s[k] = false) := Lib.hid (pb_false _ (by omega))
        have e46 : ((s[k].toNat : Int) == 46) = false := by simp; omega
        have e45 : ((s[k].toNat : Int) == 45) = false := by simp; omega
        have n46 : ((s[k].toNat : Int) != 46) = true := by simp; omega
        have n45 : ((s[k].toNat : Int) != 45) = true := by simp; omega
        have hD3 : 57 < (s[k].toNat : Int) := by omega
        have hD4 : 122 < (s[k].toNat : Int) := by omega
        clear hL hD
        go_wp2
        go_ret
        exact ⟨congrArg (fun b => Ending.returned (Value.bool b)) (Hf.out Hp.out).symm, rfl⟩
    · rw [List.take_of_length_le (by omega)] at hall
      have hf : partB s = (decide (1 ≤ s.length) && decide (s.length ≤ 70)) := by unfold partB; rw [hall]; simp
      have Hf := Lib.hid hf; clear hf hall
      by_cases h1 : (1 : Int) ≤ s.length
      · by_cases h2 : (s.length : Int) ≤ 70
        · go_wp2
          go_ret
          exact ⟨congrArg (fun b => Ending.returned (Value.bool b)) (by rw [Hf.out]; simp; omega), rfl⟩
        · go_wp2
          go_ret
          exact ⟨congrArg (fun b => Ending.returned (Value.bool b)) (by rw [Hf.out]; simp; omega), rfl⟩
      · go_wp2
        go_ret
        exact ⟨congrArg (fun b => Ending.returned (Value.bool b)) (by rw [Hf.out]; simp; omega), rfl⟩

def refDir (p : By) : By := if p.contains 47 = true then dirOf p else []

theorem slash_at : ∀ {p : By} {k : Nat}, (p.take k).contains 47 = false → p[k]? = some 47 → p.take k = dirOf p ∧ p.drop (k + 1) = nameOf p ∧ p.contains 47 = true
  | [], _, _, h => by simp at h
  | b :: l, 0, _, h => by
    simp at h; subst h
    exact ⟨rfl, rfl, by simp⟩
  | b :: l, k + 1, h0, h => by
    rw [List.take_succ_cons, List.contains_cons, Bool.or_eq_false_iff] at h0
    obtain ⟨hb, h0⟩ := h0
    have hbn : (b != 47) = true := by rw [bne, beq_eq_false_iff_ne.2]; rfl; intro e; rw [e] at hb; simp at hb
    obtain ⟨h1, h2, h3⟩ := slash_at (k := k) h0 (by simpa using h)
    refine ⟨?_, ?_, by rw [List.contains_cons, h3]; simp⟩
    · simp [dirOf, hbn] at h1 ⊢; exact h1
    · simp [nameOf, hbn] at h2 ⊢; exact h2

def DirRPost (p : By) (w : World) (e : Ending) (w' : World) : Prop := e = .returned (.tuple #[S (refDir p), .bool (pathB p)]) ∧ Below w.heap.size w w'
end Go.Proofs.YtbibogpeagnjoaaGreatDoor


namespace Go.Proofs.YtbibogpeagnjoaaGreatDoor
open Go Go.RowKit Go.Maps Go.Shelf Go.Deep

section
variable {P : Program} {ops : Array Oper} {Q : Exit → Go.Act → World → Prop}

theorem held_mono {md : Region.Mode} {S S' : World → Prop} (hS : ∀ w, S' w → S w) : ∀ (fuel : Nat) (listed : Array Bool) (a : Go.Act) (w : World), wpAnyH P md ops Q S' fuel listed a w → wpAnyH P md ops Q S fuel listed a w
  | 0, _, _, _, h => h
  | fuel + 1, _, _, _, h => ⟨h.1, fun i hi => wpOp_mono (fun a' w' h' => ⟨hS w' h'.1, held_mono hS fuel _ a' w' h'.2⟩) (h.2 i hi)⟩

/-- Whatever order is picked from here on; what lies in w stays as it is. -/
def AnyB (P : Program) (ops : Array Oper) (Q : Exit → Go.Act → World → Prop) (fuel : Nat) (listed : Array Bool) (a : Go.Act) (w : World) : Prop :=
  wpAnyH P .any ops Q (fun W => Below w.heap.size w W) fuel listed a w

theorem AnyB.start {id : Nat} {a : Go.Act} {w : World} (hm : P.follows .mixedOrders = true) (h : AnyB P ops Q ops.size (Array.replicate ops.size false) a w.drew) : (Code.region id ops true).wp P Q a w :=
  wp_region_held hm h

/-- A read, taken as soon as it may come up. -/
theorem AnyB.take (i : Nat) (v : Value) {oi : Oper} {fuel : Nat} {listed : Array Bool} {a : Go.Act} {w : World} (hi : ops[i]? = some oi)
    (hs : Region.noSelect ops = true) (hf : Region.free .any ops listed i = true) (hr : (Region.ready .any ops listed).contains i = true)
    (hQ : ∀ c a w, Q (.panic c) (a.put oi.dst v) w → Q (.panic c) a w) (hw : Region.wanted oi (yielded ops a.tmps) = true)
    (hy : ∀ W, Below w.heap.size w W → (execOp a.eval oi).run P W = .ok (.value v) W)
    (h : AnyB P ops Q fuel (listed.setIfInBounds i true) (a.put oi.dst v) w) : AnyB P ops Q (fuel + 1) listed a w :=
  wpAnyH_take hi hs hf hr hQ (.inl ⟨hw, hy⟩) (Below.refl _ _) h

/-- What its guard keeps from being done. -/
theorem AnyB.skip (i : Nat) {oi : Oper} {fuel : Nat} {listed : Array Bool} {a : Go.Act} {w : World} (hi : ops[i]? = some oi)
    (hs : Region.noSelect ops = true) (hf : Region.free .any ops listed i = true) (hr : (Region.ready .any ops listed).contains i = true)
    (hQ : ∀ c a w, Q (.panic c) (a.put oi.dst undef) w → Q (.panic c) a w) (hw : Region.wanted oi (yielded ops a.tmps) = false)
    (h : AnyB P ops Q fuel (listed.setIfInBounds i true) (a.put oi.dst undef) w) : AnyB P ops Q (fuel + 1) listed a w :=
  wpAnyH_take hi hs hf hr hQ (.inr ⟨hw, rfl⟩) (Below.refl _ _) h

/-- A call that alone may come up. -/
theorem AnyB.call (i : Nat) {oi : Oper} {fuel : Nat} {listed : Array Bool} {a : Go.Act} {w : World} (f : FuncId) (vs : Array Value) (hr : Region.ready .any ops listed = [i]) (hi : ops[i]? = some oi)
    (hw : Region.wanted oi (yielded ops a.tmps) = true) (he : (execOp a.eval oi).run P w = .ok (.enter f vs) w)
    (hc : Calls P f vs w fun e w' => ∃ v, e = .returned v ∧ Below w.heap.size w w' ∧ AnyB P ops Q fuel (listed.setIfInBounds i true) (a.put oi.dst v) w') : AnyB P ops Q (fuel + 1) listed a w := by
  refine wpAnyH_ready hr (by simp) (AllReadyH.cons hi (fun K hK => ?_) AllReadyH.nil)
  rw [if_pos hw]
  unfold Oper.wp
  rw [he, Oper.upon_enter]
  refine hc.mono ?_
  rintro e w' ⟨v, rfl, hb, h⟩
  exact hK.out _ _ hb fun _ => held_mono (fun W hW => hb.trans (hW.mono hb.size)) _ _ _ _ h

theorem AnyB.done {listed : Array Bool} {a : Go.Act} {w : World} (fuel : Nat) (hr : Region.ready .any ops listed = []) (h : Q .normal a w) : AnyB P ops Q fuel listed a w :=
  wpAnyH_done hr h fuel
end

section
variable {P : Program} {a : Go.Act} {o : Oper} {W : World}
/-- A comparison of what two slots hold. -/
theorem y_bin {op : BinOp} {s t : Operand} {ty ty' : TypeId} {x y r : Value} (ho : o.op = .binOp op ty s t ty') (hs : a.eval s = x) (ht : a.eval t = y)
    (hg : (eqGuard op ty s t x y).run P W = .ok () W) (hb : (binOp op ty x y).run P W = .ok r W) : (execOp a.eval o).run P W = .ok (.value r) W := by
  subst hs ht
  simp only [execOp, ho]
  simp [Sem.run_bind, hg, hb, Result.andThen]
/-- A piece of what a slot holds. -/
theorem y_slice {t : TypeId} {x : Operand} {lo hi mx : Option Operand} {xv r : Value} {lv hv mv : Option Value} (ho : o.op = .slice t x lo hi mx) (hx : a.eval x = xv) (hl : lo.map a.eval = lv) (hh : hi.map a.eval = hv) (hm : mx.map a.eval = mv)
    (hs : (Instr.sliceAt t xv lv hv mv).run P W = .ok r W) : (execOp a.eval o).run P W = .ok (.value r) W := by
  subst hx hl hh hm
  simp only [execOp, ho]
  simp [hs, Result.andThen]
/-- A place in a slice, a field's place, what lies at a place. -/
theorem y_index {t : TypeId} {s i : Operand} {sv iv r : Value} (ho : o.op = .indexAddr t s i) (hs : a.eval s = sv) (hi : a.eval i = iv) (h : (Instr.indexAt t sv iv).run P W = .ok r W) : (execOp a.eval o).run P W = .ok (.value r) W := by
  subst hs hi
  simp only [execOp, ho]
  simp [h, Result.andThen]
theorem y_field {t : TypeId} {s : Operand} {n : Nat} {sv r : Value} (ho : o.op = .fieldAddr t s n) (hs : a.eval s = sv) (h : (Instr.fieldAt t sv n).run P W = .ok r W) : (execOp a.eval o).run P W = .ok (.value r) W := by
  subst hs
  simp only [execOp, ho]
  simp [h, Result.andThen]
theorem y_load {t : TypeId} {s : Operand} {sv r : Value} (ho : o.op = .load t s) (hs : a.eval s = sv) (h : (Instr.loadAt t sv).run P W = .ok r W) : (execOp a.eval o).run P W = .ok (.value r) W := by
  subst hs
  simp only [execOp, ho]
  simp [h, Result.andThen]
/-- A conversion of what a slot holds. -/
theorem y_conv {s : Operand} {ty ty' : TypeId} {x r : Value} (ho : o.op = .convert ty ty' s) (hs : a.eval s = x) (hc : (convert ty ty' x).run P W = .ok r W) : (execOp a.eval o).run P W = .ok (.value r) W := by
  subst hs
  simp only [execOp, ho]
  simp [hc, Result.andThen]
end
end Go.Proofs.YtbibogpeagnjoaaGreatDoor


namespace Go.Proofs.YtbibogpeagnjoaaGreatDoor
open Go Go.RowKit Go.Maps Go.Shelf Go.Deep

theorem dir_end {p : By} {b : Bool} (h1 : refDir p = dirOf p) (h2 : pathB p = b) : Ending.returned (.tuple #[.string ⟨(dirOf p).toArray⟩, .bool b]) = Ending.returned (.tuple #[S (refDir p), .bool (pathB p)]) := by rw [h1, h2]; rfl

set_option maxHeartbeats 4000000 in
set_option maxRecDepth 100000 in
theorem Dir_any (p : By) (w : World) (hs : p.length ≤ lim) : Calls Tryz.prog 48 #[S p] w (DirRPost p w) := by
  unfold S
  have hs' : p.length ≤ 140737488355328 := hs
  go_enter Tryz.func48, Tryz.ntmps48
  go_wp2_with fail
  go_loop [4] (fun i => ∃ k : Nat, k ≤ p.length ∧ i = .int .i64 k ∧ (p.take k).contains 47 = false) (fun i => p.length - (intOf i).toNat)
  case atStart => exact ⟨0, Nat.zero_le _, rfl, rfl⟩
  case round =>
    obtain ⟨k, hk, rfl, hno⟩ := hrel
    by_cases hlt : k < p.length
    · have hgk : (({ data := List.toArray p } : ByteArray)[k]'(by simpa [ByteArray.size] using hlt)).toNat = p[k].toNat := rfl
      have Hno := Lib.hid hno; clear hno
      by_cases h47 : ((p[k].toNat : Int) == 47) = true
      · have h47' : p[k]? = some 47 := by
          rw [List.getElem?_eq_getElem hlt]
          have e : p[k].toNat = 47 := by simp at h47; omega
          exact congrArg some (UInt8.toNat_inj.1 (by rw [e]; rfl))
        obtain ⟨s1, s2, s3⟩ := slash_at Hno.out h47'
        have E1 : (⟨p.toArray⟩ : ByteArray).extract 0 k = ⟨(dirOf p).toArray⟩ := by rw [extract_S, ← s1]; rfl
        have E2 : (⟨p.toArray⟩ : ByteArray).extract (k + 1) p.length = ⟨(nameOf p).toArray⟩ := by rw [extract_S, List.take_length, ← s2]
        have hd : (dirOf p).length ≤ lim := Nat.le_trans (dirOf_le p) hs
        have hn : (nameOf p).length ≤ lim := by rw [← s2, List.length_drop]; omega
        have er : refDir p = dirOf p := by unfold refDir; rw [if_pos s3]
        have ep : pathB p = (partB (dirOf p) && partB (nameOf p)) := by unfold pathB; rw [s3]; rfl
        have c1 : ∀ W, Calls Tryz.prog 54 #[.string ⟨(dirOf p).toArray⟩] W fun e w'' => e = .returned (.bool (partB (dirOf p))) ∧ W = w'' := fun W => Part_any (dirOf p) W hd
        have c2 : ∀ W, Calls Tryz.prog 54 #[.string ⟨(nameOf p).toArray⟩] W fun e w'' => e = .returned (.bool (partB (nameOf p))) ∧ W = w'' := fun W => Part_any (nameOf p) W hn
        have S0 : Hid (∀ W, (Instr.sliceAt 9 (.string ⟨p.toArray⟩) none (some (.int .i64 (k : Int))) none).run Tryz.prog W = .ok (.string ⟨(dirOf p).toArray⟩) W) := Lib.hid fun W => by
          rw [run_sliceAt_string W _ _ _ _ _ Tryz.underlying9, run_slice_string_to_if W _ _ _ _ Tryz.underlying9, if_pos ⟨by omega, by show (k : Int) ≤ (p.length : Int); omega⟩, show ((k : Int)).toNat = k by omega, E1]
        have S1 : Hid (∀ W, (Instr.sliceAt 9 (.string ⟨p.toArray⟩) (some (.int .i64 ((k : Int) + 1))) none none).run Tryz.prog W = .ok (.string ⟨(nameOf p).toArray⟩) W) := Lib.hid fun W => by
          rw [run_sliceAt_string W _ _ _ _ _ Tryz.underlying9, run_slice_string_from_if W _ _ _ _ Tryz.underlying9, if_pos ⟨by omega, by show (k : Int) + 1 ≤ (p.length : Int); omega⟩, show ((k : Int) + 1).toNat = k + 1 by omega]
          exact congrArg (fun b => Result.ok (Value.string b) W) E2
        have Er := Lib.hid er; have Ep := Lib.hid ep
        clear h47' s1 s2 s3 er ep hd hn
        have A1 : Hid (∀ W, (binOp .add 3 (.int .i64 (k : Int)) (.int .i64 1)).run Tryz.prog W = .ok (.int .i64 ((k : Int) + 1)) W) := Lib.hid fun W => by
          have ek : IntKind.i64.wrap ((k : Int) + 1) = (k : Int) + 1 := IntWalk.i64_in _ (by omega)
          simp [go_sem, ek]
        clear E1 E2
        cases hP : partB (dirOf p) with
        | true =>
          rw [hP] at c1
          have C1 := Lib.hid c1; have C2 := Lib.hid c2; have HP := Lib.hid hP
          clear c1 c2 hP
          go_wp2_with fail
          refine AnyB.start (by kernel_rfl) ?_
          refine AnyB.take 0 (.string ⟨p.toArray⟩) rfl (by kernel_rfl) (by kernel_rfl) (by kernel_rfl) (fun _ _ _ h => h) (by kernel_rfl) (fun W hW => by kernel_rfl) ?_
          refine AnyB.take 1 (.int .i64 (k : Int)) rfl (by kernel_rfl) (by kernel_rfl) (by kernel_rfl) (fun _ _ _ h => h) (by kernel_rfl) (fun W hW => by kernel_rfl) ?_
          refine AnyB.take 3 (.string ⟨p.toArray⟩) rfl (by kernel_rfl) (by kernel_rfl) (by kernel_rfl) (fun _ _ _ h => h) (by kernel_rfl) (fun W hW => by kernel_rfl) ?_
          refine AnyB.take 4 (.int .i64 (k : Int)) rfl (by kernel_rfl) (by kernel_rfl) (by kernel_rfl) (fun _ _ _ h => h) (by kernel_rfl) (fun W hW => by kernel_rfl) ?_
          refine AnyB.take 2 (.string ⟨(dirOf p).toArray⟩) rfl (by kernel_rfl) (by kernel_rfl) (by kernel_rfl) (fun _ _ _ h => h) (by kernel_rfl) (fun W hW => y_slice rfl (by kernel_rfl) rfl (by kernel_rfl) rfl (S0.out W)) ?_
          refine AnyB.take 5 (.string ⟨(dirOf p).toArray⟩) rfl (by kernel_rfl) (by kernel_rfl) (by kernel_rfl) (fun _ _ _ h => h) (by kernel_rfl) (fun W hW => y_slice rfl (by kernel_rfl) rfl (by kernel_rfl) rfl (S0.out W)) ?_
          refine AnyB.call 6 54 #[.string ⟨(dirOf p).toArray⟩] (by kernel_rfl) rfl (by kernel_rfl) (by kernel_rfl) ?_
          refine (C1.out _).mono ?_
          rintro e w1 ⟨rfl, rfl⟩
          refine ⟨_, rfl, Below.refl _ _, ?_⟩
          refine AnyB.take 7 (.bool true) rfl (by kernel_rfl) (by kernel_rfl) (by kernel_rfl) (fun _ _ _ h => h) (by kernel_rfl) (fun W hW => by kernel_rfl) ?_
          refine AnyB.take 8 (.string ⟨p.toArray⟩) rfl (by kernel_rfl) (by kernel_rfl) (by kernel_rfl) (fun _ _ _ h => h) (by kernel_rfl) (fun W hW => by kernel_rfl) ?_
          refine AnyB.take 9 (.int .i64 (k : Int)) rfl (by kernel_rfl) (by kernel_rfl) (by kernel_rfl) (fun _ _ _ h => h) (by kernel_rfl) (fun W hW => by kernel_rfl) ?_
          refine AnyB.take 10 (.int .i64 ((k : Int) + 1)) rfl (by kernel_rfl) (by kernel_rfl) (by kernel_rfl) (fun _ _ _ h => h) (by kernel_rfl) (fun W hW => y_bin (x := .int .i64 (k : Int)) (y := .int .i64 1) rfl (by kernel_rfl) (by kernel_rfl) rfl (A1.out W)) ?_
          refine AnyB.take 11 (.string ⟨(nameOf p).toArray⟩) rfl (by kernel_rfl) (by kernel_rfl) (by kernel_rfl) (fun _ _ _ h => h) (by kernel_rfl) (fun W hW => y_slice rfl (by kernel_rfl) (by kernel_rfl) rfl rfl (S1.out W)) ?_
          refine AnyB.call 12 54 #[.string ⟨(nameOf p).toArray⟩] (by kernel_rfl) rfl (by kernel_rfl) (by kernel_rfl) ?_
          refine (C2.out _).mono ?_
          rintro e w1 ⟨rfl, rfl⟩
          refine ⟨_, rfl, Below.refl _ _, ?_⟩
          refine AnyB.take 13 (.bool (partB (nameOf p))) rfl (by kernel_rfl) (by kernel_rfl) (by kernel_rfl) (fun _ _ _ h => h) (by kernel_rfl) (fun W hW => by kernel_rfl) ?_
          refine AnyB.take 14 (.string ⟨(dirOf p).toArray⟩) rfl (by kernel_rfl) (by kernel_rfl) (by kernel_rfl) (fun _ _ _ h => h) (by kernel_rfl) (fun W hW => by kernel_rfl) ?_
          refine AnyB.take 15 (.bool (partB (nameOf p))) rfl (by kernel_rfl) (by kernel_rfl) (by kernel_rfl) (fun _ _ _ h => h) (by kernel_rfl) (fun W hW => by kernel_rfl) ?_
          refine AnyB.done _ (by kernel_rfl) ?_
          go_simp
          go_wp2
          go_ret2
          exact ⟨dir_end Er.out (b := partB (nameOf p)) (by rw [Ep.out, HP.out]; exact Bool.true_and _), (Below.refl _ _).drew⟩
        | false =>
          rw [hP] at c1
          have C1 := Lib.hid c1; have HP := Lib.hid hP
          clear c1 c2 hP
          go_wp2_with fail
          refine AnyB.start (by kernel_rfl) ?_
          refine AnyB.take 0 (.string ⟨p.toArray⟩) rfl (by kernel_rfl) (by kernel_rfl) (by kernel_rfl) (fun _ _ _ h => h) (by kernel_rfl) (fun W hW => by kernel_rfl) ?_
          refine AnyB.take 1 (.int .i64 (k : Int)) rfl (by kernel_rfl) (by kernel_rfl) (by kernel_rfl) (fun _ _ _ h => h) (by kernel_rfl) (fun W hW => by kernel_rfl) ?_
          refine AnyB.take 3 (.string ⟨p.toArray⟩) rfl (by kernel_rfl) (by kernel_rfl) (by kernel_rfl) (fun _ _ _ h => h) (by kernel_rfl) (fun W hW => by kernel_rfl) ?_
          refine AnyB.take 4 (.int .i64 (k : Int)) rfl (by kernel_rfl) (by kernel_rfl) (by kernel_rfl) (fun _ _ _ h => h) (by kernel_rfl) (fun W hW => by kernel_rfl) ?_
          refine AnyB.take 2 (.string ⟨(dirOf p).toArray⟩) rfl (by kernel_rfl) (by kernel_rfl) (by kernel_rfl) (fun _ _ _ h => h) (by kernel_rfl) (fun W hW => y_slice rfl (by kernel_rfl) rfl (by kernel_rfl) rfl (S0.out W)) ?_
          refine AnyB.take 5 (.string ⟨(dirOf p).toArray⟩) rfl (by kernel_rfl) (by kernel_rfl) (by kernel_rfl) (fun _ _ _ h => h) (by kernel_rfl) (fun W hW => y_slice rfl (by kernel_rfl) rfl (by kernel_rfl) rfl (S0.out W)) ?_
          refine AnyB.call 6 54 #[.string ⟨(dirOf p).toArray⟩] (by kernel_rfl) rfl (by kernel_rfl) (by kernel_rfl) ?_
          refine (C1.out _).mono ?_
          rintro e w1 ⟨rfl, rfl⟩
          refine ⟨_, rfl, Below.refl _ _, ?_⟩
          refine AnyB.take 7 (.bool false) rfl (by kernel_rfl) (by kernel_rfl) (by kernel_rfl) (fun _ _ _ h => h) (by kernel_rfl) (fun W hW => by kernel_rfl) ?_
          refine AnyB.skip 8 rfl (by kernel_rfl) (by kernel_rfl) (by kernel_rfl) (fun _ _ _ h => h) (by kernel_rfl) ?_
          refine AnyB.skip 9 rfl (by kernel_rfl) (by kernel_rfl) (by kernel_rfl) (fun _ _ _ h => h) (by kernel_rfl) ?_
          refine AnyB.skip 10 rfl (by kernel_rfl) (by kernel_rfl) (by kernel_rfl) (fun _ _ _ h => h) (by kernel_rfl) ?_
          refine AnyB.skip 11 rfl (by kernel_rfl) (by kernel_rfl) (by kernel_rfl) (fun _ _ _ h => h) (by kernel_rfl) ?_
          refine AnyB.skip 12 rfl (by kernel_rfl) (by kernel_rfl) (by kernel_rfl) (fun _ _ _ h => h) (by kernel_rfl) ?_
          refine AnyB.take 13 (.bool false) rfl (by kernel_rfl) (by kernel_rfl) (by kernel_rfl) (fun _ _ _ h => h) (by kernel_rfl) (fun W hW => by kernel_rfl) ?_
          refine AnyB.take 14 (.string ⟨(dirOf p).toArray⟩) rfl (by kernel_rfl) (by kernel_rfl) (by kernel_rfl) (fun _ _ _ h => h) (by kernel_rfl) (fun W hW => by kernel_rfl) ?_
          refine AnyB.take 15 (.bool false) rfl (by kernel_rfl) (by kernel_rfl) (by kernel_rfl) (fun _ _ _ h => h) (by kernel_rfl) (fun W hW => by kernel_rfl) ?_
          refine AnyB.done _ (by kernel_rfl) ?_
          go_simp
          go_wp2
          go_ret2
          exact ⟨dir_end Er.out (b := false) (by rw [Ep.out, HP.out]; exact Bool.false_and _), (Below.refl _ _).drew⟩
      · have h48 : ((p[k].toNat : Int) == 47) = false := by simpa using h47
        have hno' : (p.take (k + 1)).contains 47 = false := by
          rw [List.take_succ_eq_append_getElem hlt]
          have hne : ¬ p[k] = 47 := fun e => h47 (by rw [e]; rfl)
          have h1 := Hno.out
          simp only [List.contains_eq_mem, decide_eq_false_iff_not] at h1 ⊢
          intro hm
          rcases List.mem_append.1 hm with h | h
          · exact h1 h
          · exact hne (by simpa using (List.mem_singleton.1 h).symm)
        have Hn2 := Lib.hid hno'
        clear h47 hno'
        go_wp2
        go_round
        case rel => exact ⟨k + 1, by omega, by go_num, Hn2.out⟩
        case measure => simp [intOf]; omega
    · rw [List.take_of_length_le (by omega)] at hno
      have er : refDir p = [] := by unfold refDir; rw [if_neg (by rw [hno]; simp)]
      have ep : pathB p = false := by unfold pathB; rw [hno]; rfl
      have Er := Lib.hid er; have Ep := Lib.hid ep
      clear er ep hno
      go_wp2
      go_ret2
      exact ⟨by rw [Er.out, Ep.out]; rfl, Below.refl _ _⟩

set_option maxHeartbeats 400000 in
theorem Path_any (p : By) (w : World) (hs : p.length ≤ lim) : Calls Tryz.prog 35 #[S p] w fun e w' => e = .returned (.bool (pathB p)) ∧ Below w.heap.size w w' := by
  have H := Lib.hid (Dir_any p w hs)
  unfold S DirRPost at H
  unfold S
  generalize pathB p = b at H ⊢
  go_enter Tryz.func35, Tryz.ntmps35
  go_wp2_with fail
  refine H.out.mono ?_
  rintro e w1 ⟨rfl, h1⟩
  go_wp2
  go_ret
  exact ⟨rfl, h1⟩
end Go.Proofs.YtbibogpeagnjoaaGreatDoor


namespace Go.Proofs.YtbibogpeagnjoaaGreatDoor
open Go Go.RowKit Go.Maps Go.Shelf Go.Deep

theorem newSt_bdF {r : Int} {t : Tb} (h : GoodT t) : Bd (newSt r t) 400 :=
  ⟨h.1, by show t.length + 0 ≤ 400; exact h.1, fun q hq => (h.2 q hq).1, fun q hq => (h.2 q hq).1, by simp [newSt], by simp [newSt], by decide⟩

/-- There is power, and no fuse. -/
def Pw (st : St) : Prop := st.fuse = -1 ∧ st.down = false
theorem Pw.on {st : St} (h : Pw st) : on st = true := by unfold Go.Proofs.YtbibogpeagnjoaaGreatDoor.on; rw [h.1, h.2]; rfl
theorem pw_do {st st1 : St} {er : Int} (h : Pw st) (h1 : Pw st1) : Pw (doSt st er st1) := by
  unfold doSt
  rw [if_pos h.on]
  split
  · exact ⟨by show burnt st1.fuse = -1; rw [h1.1]; rfl, h1.2⟩
  · exact h
theorem Pw.does {st : St} (h : Pw st) (o : OpR) : Pw (doesSt o st) := by
  unfold doesSt
  split
  · exact pw_do h ⟨h.1, h.2⟩
  · split
    · exact pw_do h ⟨h.1, h.2⟩
    · split
      · exact pw_do h ⟨h.1, h.2⟩
      · split
        · exact pw_do h ⟨h.1, h.2⟩
        · exact h

theorem do_refused {st st1 : St} {er : Int} (h : Pw st) (hn : doN st er ≠ 0) : doSt st er st1 = st := by
  unfold doN at hn
  unfold doSt
  rw [if_pos h.on] at hn ⊢
  rw [if_neg hn]
/-- What is refused changes nothing. -/
theorem does_refused {o : OpR} {st : St} (h : Pw st) (hn : doesN o st ≠ 0) : doesSt o st = st := by
  unfold doesN at hn
  unfold doesSt
  by_cases h1 : o.what = 0 ∨ o.what = 1
  · rw [if_pos h1] at hn ⊢; exact do_refused h hn
  · rw [if_neg h1] at hn ⊢
    by_cases h2 : o.what = 2
    · rw [if_pos h2] at hn ⊢; exact do_refused h hn
    · rw [if_neg h2] at hn ⊢
      by_cases h3 : o.what = 3
      · rw [if_pos h3] at hn ⊢; exact do_refused h hn
      · rw [if_neg h3] at hn ⊢
        by_cases h4 : o.what = 4
        · rw [if_pos h4] at hn ⊢; exact do_refused h hn
        · rw [if_neg h4]
/-- A path that is none is refused. -/
theorem does_none {o : OpR} {st : St} (h : Pw st) (h0 : 0 ≤ o.what) (h4 : o.what < 4) (hp : pathB o.path = false) : doesN o st = 1 := by
  unfold doesN doN
  rw [if_pos h.on, if_pos h.on, if_pos h.on, if_pos h.on]
  by_cases h1 : o.what = 0 ∨ o.what = 1
  · rw [if_pos h1]; exact writeErr_1 hp
  · rw [if_neg h1]
    by_cases h2 : o.what = 2
    · rw [if_pos h2]; unfold renameErr; rw [if_pos hp]; split <;> rfl
    · rw [if_neg h2, if_pos (by omega)]; unfold thereErr; rw [if_pos hp]
end Go.Proofs.YtbibogpeagnjoaaGreatDoor


namespace Go.Proofs.YtbibogpeagnjoaaGreatDoor
open Go Go.RowKit Go.Maps Go.Shelf Go.Deep

/-- An act that touches nothing but a directory. -/
def InDir (d : By) : Act → Prop
  | .write p _ => dirOf p = d
  | .rename p q => dirOf p = d ∧ dirOf q = d
  | .remove p => dirOf p = d

theorem get_write {p b r : By} {t : Tb} : tget r ((Act.write p b).play t) = if r = p then some b else tget r t := by
  show tget r (tput p b t) = _
  by_cases h : r = p
  · rw [if_pos h, h]; exact tget_tput_same
  · rw [if_neg h]; exact tget_tput_other h
theorem get_remove {p r : By} {t : Tb} : tget r ((Act.remove p).play t) = if r = p then none else tget r t := by
  show tget r (tdel p t) = _
  by_cases h : r = p
  · rw [if_pos h, h]; exact tget_tdel_same
  · rw [if_neg h]; exact tget_tdel_other h
theorem get_rename {p q r : By} {t : Tb} : tget r ((Act.rename p q).play t) = match tget p t with | none => tget r t | some b => if r = q then some b else if r = p then none else tget r t := by
  show tget r (match tget p t with | none => t | some b => tput q b (tdel p t)) = _
  cases hp : tget p t with
  | none => rfl
  | some b =>
    show tget r (tput q b (tdel p t)) = if r = q then some b else if r = p then none else tget r t
    by_cases h : r = q
    · rw [if_pos h, h]; exact tget_tput_same
    · rw [if_neg h, tget_tput_other h]
      by_cases h2 : r = p
      · rw [if_pos h2, h2]; exact tget_tdel_same
      · rw [if_neg h2]; exact tget_tdel_other h2

theorem act_out {d r : By} {a : Act} {t : Tb} (ha : InDir d a) (hr : dirOf r ≠ d) : tget r (a.play t) = tget r t := by
  cases a with
  | write p b => rw [get_write, if_neg]; rintro rfl; exact hr ha
  | remove p => rw [get_remove, if_neg]; rintro rfl; exact hr ha
  | rename p q =>
    rw [get_rename]
    cases tget p t with
    | none => rfl
    | some b =>
      show (if r = q then some b else if r = p then none else tget r t) = tget r t
      rw [if_neg (by rintro rfl; exact hr ha.2), if_neg (by rintro rfl; exact hr ha.1)]
theorem act_in {d : By} {a : Act} {t u : Tb} (ha : InDir d a) (h : ∀ r, dirOf r = d → tget r t = tget r u) : ∀ r, dirOf r = d → tget r (a.play t) = tget r (a.play u) := by
  intro r hr
  cases a with
  | write p b => rw [get_write, get_write, h r hr]
  | remove p => rw [get_remove, get_remove, h r hr]
  | rename p q => rw [get_rename, get_rename, h r hr, h p ha.1]

def playL (l : List (By × Act)) (t : Tb) : Tb := l.foldl (fun t a => a.2.play t) t
theorem playL_snoc (l : List (By × Act)) (a : By × Act) (t : Tb) : playL (l ++ [a]) t = a.2.play (playL l t) := by
  unfold playL; rw [List.foldl_append]; rfl
theorem playL_rises : ∀ (l : List (By × Act)) {t : Tb}, Rises t → Rises (playL l t)
  | [], _, h => h
  | a :: l, t, h => playL_rises l (t := a.2.play t) (Act.play_rises h)

def Dirs (l : List (By × Act)) : Prop := ∀ x ∈ l, InDir x.1 x.2

theorem beq_of_ne {a d : By} (h : a ≠ d) : ¬ (a == d) = true := by simpa using h
theorem play_sync {d : By} : ∀ {l : List (By × Act)} {t u : Tb}, Dirs l → (∀ r, dirOf r = d → tget r t = tget r u) → ∀ r, dirOf r = d → tget r (playL l t) = tget r (syncT d l u)
  | [], _, _, _, h, r, hr => h r hr
  | a :: l, t, u, hl, h, r, hr => by
    have ha := hl a (by simp)
    have hl' : Dirs l := fun x hx => hl x (List.mem_cons_of_mem _ hx)
    rw [syncT_cons]
    by_cases hd : a.1 = d
    · rw [if_pos (by rw [hd]; simp)]
      exact play_sync (t := a.2.play t) hl' (act_in (hd ▸ ha) h) r hr
    · rw [if_neg (beq_of_ne hd)]
      exact play_sync (t := a.2.play t) hl' (fun r hr => by rw [act_out ha (by rw [hr]; exact fun e => hd e.symm)]; exact h r hr) r hr
theorem sync_out {d : By} : ∀ {l : List (By × Act)} {t : Tb}, Dirs l → ∀ r, dirOf r ≠ d → tget r (syncT d l t) = tget r t
  | [], _, _, _, _ => rfl
  | a :: l, t, hl, r, hr => by
    have ha := hl a (by simp)
    have hl' : Dirs l := fun x hx => hl x (List.mem_cons_of_mem _ hx)
    rw [syncT_cons, sync_out hl' r hr]
    by_cases hd : a.1 = d
    · rw [if_pos (by rw [hd]; simp)]; exact act_out (hd ▸ ha) hr
    · rw [if_neg (beq_of_ne hd)]
theorem sync_congr {e : By} : ∀ {l : List (By × Act)} {t u : Tb}, Dirs l → (∀ r, dirOf r = e → tget r t = tget r u) → ∀ r, dirOf r = e → tget r (syncT e l t) = tget r (syncT e l u)
  | [], _, _, _, h, r, hr => h r hr
  | a :: l, t, u, hl, h, r, hr => by
    have ha := hl a (by simp)
    have hl' : Dirs l := fun x hx => hl x (List.mem_cons_of_mem _ hx)
    rw [syncT_cons, syncT_cons]
    by_cases hd : a.1 = e
    · rw [if_pos (by rw [hd]; simp), if_pos (by rw [hd]; simp)]
      exact sync_congr hl' (act_in (hd ▸ ha) h) r hr
    · rw [if_neg (beq_of_ne hd), if_neg (beq_of_ne hd)]
      exact sync_congr hl' h r hr
theorem sync_other {d e : By} (hne : e ≠ d) : ∀ {l : List (By × Act)} {t : Tb}, syncT e (syncL d l) t = syncT e l t
  | [], _ => rfl
  | a :: l, t => by
    rw [syncL_cons]
    by_cases hd : a.1 = d
    · rw [if_pos (by rw [hd]; simp), sync_other hne, syncT_cons, if_neg (beq_of_ne (by rw [hd]; exact fun e => hne e.symm))]
    · rw [if_neg (beq_of_ne hd), syncT_cons, syncT_cons, sync_other hne]
theorem dirs_syncL {d : By} {l : List (By × Act)} (h : Dirs l) : Dirs (syncL d l) := fun x hx => h x (List.mem_filter.1 hx).1
theorem not_syncL {d : By} {l : List (By × Act)} : ∀ x ∈ syncL d l, x.1 ≠ d := fun x hx e => by
  have := (List.mem_filter.1 hx).2
  rw [e] at this
  simp at this

/-- What is synced of a directory is not played again. -/
theorem sync_rest {d : By} {l : List (By × Act)} {t : Tb} (hl : Dirs l) (ht : Rises t) : playL (syncL d l) (syncT d l t) = playL l t := by
  refine rises_ext (playL_rises _ (syncT_rises d l ht)) (playL_rises _ ht) fun r => ?_
  rw [play_sync (d := dirOf r) (dirs_syncL hl) (fun _ _ => rfl) r rfl, play_sync (d := dirOf r) hl (fun _ _ => rfl) r rfl]
  by_cases hd : dirOf r = d
  · rw [hd]
    have h0 : ∀ {m : List (By × Act)} {u : Tb}, (∀ x ∈ m, x.1 ≠ d) → syncT d m u = u := by
      intro m
      induction m with
      | nil => intro u _; rfl
      | cons a m ih =>
        intro u h
        rw [syncT_cons, if_neg (beq_of_ne (h a (by simp))), ih fun x hx => h x (List.mem_cons_of_mem _ hx)]
    rw [h0 not_syncL]
  · rw [sync_other hd]
    exact sync_congr hl (fun r' hr' => sync_out hl r' (by rw [hr']; exact hd)) r rfl

/-- What holds of a shelf that began with all synced. -/
structure InvO (st : St) : Prop where
  files : st.files = playL st.loose st.synced
  dirs : Dirs st.loose
  rises : Rises st.synced
  paths : ∀ x ∈ st.files, pathB x.1 = true
theorem InvO.start {r : Int} {t : Tb} (hr : Rises t) (hp : ∀ x ∈ t, pathB x.1 = true) : InvO (newSt r t) := ⟨rfl, fun x hx => by simp [newSt] at hx, hr, hp⟩
theorem InvO.same {st st1 : St} (h : InvO st) (h1 : st1.files = st.files) (h2 : st1.loose = st.loose) (h3 : st1.synced = st.synced) : InvO st1 :=
  ⟨by rw [h1, h2, h3]; exact h.files, by rw [h2]; exact h.dirs, by rw [h3]; exact h.rises, by rw [h1]; exact h.paths⟩
theorem InvO.acted {st : St} (h : InvO st) {d : By} {a : Act} (ha : InDir d a) (hp : ∀ x ∈ a.play st.files, pathB x.1 = true) : InvO { st with files := a.play st.files, loose := st.loose ++ [(d, a)] } := by
  refine ⟨?_, fun x hx => ?_, h.rises, hp⟩
  · show a.play st.files = playL (st.loose ++ [(d, a)]) st.synced
    rw [playL_snoc, h.files]
  · rcases List.mem_append.1 hx with hx | hx
    · exact h.dirs x hx
    · simp at hx; subst hx; exact ha
theorem InvO.sync {st : St} (h : InvO st) (d : By) : InvO (syncedSt d st) :=
  ⟨by show st.files = playL (syncL d st.loose) (syncT d st.loose st.synced); rw [sync_rest h.dirs h.rises, h.files], dirs_syncL h.dirs, syncT_rises d _ h.rises, h.paths⟩
theorem invO_do {st st1 : St} {er : Int} (h : InvO st) (h1 : er = 0 → InvO st1) : InvO (doSt st er st1) := by
  unfold doSt
  split
  · split
    · exact (h1 (by assumption)).same rfl rfl rfl
    · exact h
  · exact h.same rfl rfl rfl

theorem write_zero {p : By} {n : Int} {st : St} (h : writeErr p n st = 0) : pathB p = true := by
  cases hp : pathB p with
  | true => rfl
  | false => rw [writeErr_1 hp] at h; cases h
theorem rename_dirs {p q : By} {t : Tb} (h : renameErr p q t = 0) : pathB q = true ∧ dirOf p = dirOf q := by
  unfold renameErr at h
  split at h
  · cases h
  · rename_i hq
    split at h
    · cases h
    · split at h
      · cases h
      · rename_i hd
        exact ⟨by simpa using hq, by simpa using hd⟩
theorem play_paths {a : Act} {t : Tb} (ht : ∀ x ∈ t, pathB x.1 = true) (ha : match a with | .write p _ => pathB p = true | .rename _ q => pathB q = true | .remove _ => True) : ∀ x ∈ a.play t, pathB x.1 = true := by
  cases a with
  | write p b =>
    intro x hx
    rcases mem_tput' hx with rfl | hx
    · exact ha
    · exact ht x hx
  | rename p q =>
    show ∀ x ∈ (match tget p t with | none => t | some b => tput q b (tdel p t)), pathB x.1 = true
    cases tget p t with
    | none => exact ht
    | some b =>
      intro x hx
      rcases mem_tput' hx with rfl | hx
      · exact ha
      · exact ht x (mem_tdel' hx)
  | remove p => exact fun x hx => ht x (mem_tdel' hx)

theorem InvO.does {st : St} (h : InvO st) (o : OpR) : InvO (doesSt o st) := by
  unfold doesSt
  split
  · exact invO_do h fun e => h.acted (d := dirOf o.path) (a := .write o.path o.b) rfl (play_paths h.paths (write_zero e))
  · split
    · exact invO_do h fun e => h.acted (d := dirOf o.path) (a := .rename o.path o.to) ⟨rfl, (rename_dirs e).2.symm⟩ (play_paths h.paths (rename_dirs e).1)
    · split
      · exact invO_do h fun e => h.acted (d := dirOf o.path) (a := .remove o.path) rfl (play_paths h.paths trivial)
      · split
        · exact invO_do h fun _ => h.sync o.path
        · exact h

/-- Whence the loose acts come: of the paths of these calls. -/
def From (ps : List By) (st : St) : Prop := ∀ x ∈ st.loose, ∃ p ∈ ps, pathB p = true ∧ x.1 = dirOf p
theorem From.mono {ps qs : List By} {st : St} (h : From ps st) (hs : ∀ p ∈ ps, p ∈ qs) : From qs st := fun x hx =>
  let ⟨p, hp, h2⟩ := h x hx; ⟨p, hs p hp, h2⟩
theorem from_do {ps : List By} {st st1 : St} {er : Int} (h : From ps st) (h1 : er = 0 → From ps st1) : From ps (doSt st er st1) := by
  unfold doSt
  split
  · split
    · exact h1 (by assumption)
    · exact h
  · exact h
theorem rename_path {p q : By} {t : Tb} (h : renameErr p q t = 0) : pathB p = true := by
  unfold renameErr at h
  split at h
  · cases h
  · split at h
    · cases h
    · rename_i hp; simpa using hp
theorem there_path {p : By} {t : Tb} (h : thereErr p t = 0) : pathB p = true := by
  unfold thereErr at h
  split at h
  · cases h
  · rename_i hp; simpa using hp
theorem From.does {ps : List By} {st : St} (h : From ps st) (o : OpR) : From (ps ++ [o.path]) (doesSt o st) := by
  have h' : From (ps ++ [o.path]) st := h.mono fun p hp => List.mem_append_left _ hp
  have key : ∀ (a : Act), pathB o.path = true → ∀ x ∈ st.loose ++ [(dirOf o.path, a)], ∃ p ∈ ps ++ [o.path], pathB p = true ∧ x.1 = dirOf p := fun a hp x hx => by
    rcases List.mem_append.1 hx with hx | hx
    · exact h' x hx
    · simp at hx; subst hx; exact ⟨o.path, by simp, hp, rfl⟩
  unfold doesSt
  split
  · exact from_do h' fun e => key _ (write_zero e)
  · split
    · exact from_do h' fun e => key _ (rename_path e)
    · split
      · exact from_do h' fun e => key _ (there_path e)
      · split
        · exact from_do h' fun _ x hx => h' x (List.mem_filter.1 hx).1
        · exact h'
end Go.Proofs.YtbibogpeagnjoaaGreatDoor
