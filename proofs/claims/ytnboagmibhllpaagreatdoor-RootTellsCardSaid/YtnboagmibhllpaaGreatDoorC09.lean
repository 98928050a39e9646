/-
  Right: may a list be all refs of someone?
  The document's Same: are two lists of refs alike? And Has: is a text one of some?
  The live question of the laws of refs, plain: what is answered.
  Get: the refs whose lines a text is.
  Put: refs as lines.
  The live question of the laws of refs, walked.
  Forks and roots as they lie in memory.
-/
import Derived.Test.YtnboagmibhllpaaGreatDoorC06
import Derived.Deep.QuietTactic
import Derived.BigQuiet
import Derived.Test.YtnboagmibhllpaaGreatDoorC07
import Derived.Maps.Range
import Derived.StringKeys
import Derived.Shelf.Small.Bits
import Derived.Test.YtnboagmibhllpaaGreatDoorC08
import Derived.Test.YtnboagmibhllpaaGreatDoorRSort
import Derived.Test.YtnboagmibhllpaaGreatDoorC02
import Derived.Test.YtnboagmibhllpaaGreatDoorC03
import Derived.Lib.SlBytesConst
import Derived.Test.YtnboagmibhllpaaGreatDoorC05

namespace Go.Proofs.YtnboagmibhllpaaGreatDoor.Rf
open Go.Proofs.YtnboagmibhllpaaGreatDoor
open Go Go.RowKit
theorem ge_str (W : World) (x y : Bs) (b : Bool) (h : decide (x < y) = !b) : (binOp .geq 9 (.string ⟨x.toArray⟩) (.string ⟨y.toArray⟩)).run Tryz.prog W = .ok (.bool b) W := by
  show (Op.stringOp .geq _ _).run _ _ = _
  have e := Go.Proofs.bytesLess_eq x y
  rw [h] at e
  simp [go_sem, Op.stringOp, e]
set_option maxRecDepth 100000 in
set_option maxHeartbeats 4000000 in
theorem Right_p (l : List Ref) (v : Value) (w : World) (hv : RefsR w v l) (hf : Fit l) (hl : l.length ≤ 1000000) : Calls Tryz.prog 63 #[v] w (BoolB (rightB l) w) := by
  obtain ⟨A, c, rfl⟩ := hv.shape
  obtain ⟨N, hN⟩ : ∃ N, N = l.length := ⟨_, rfl⟩
  have HV : Hid (RefsR w (.slice A N c) l) := Lib.hid (by rw [hN]; exact hv)
  have HF := Lib.hid hf
  obtain ⟨b, hb⟩ : ∃ b, b = rightB l := ⟨_, rfl⟩
  have HNo : Hid (¬ Right l → b = false) := Lib.hid fun h => by rw [hb]; exact rightB_no h
  have HYes : Hid (Right l → b = true) := Lib.hid fun h => by rw [hb]; exact rightB_yes h
  rw [← hN, ← hb]
  have HN := Lib.hid hN
  rw [← hN] at hl
  clear hv hf hb hN
  by_cases h64 : N ≤ 64
  case neg =>
    have hI : 64 < (N : Int) := by omega
    have HB := Lib.hid (HNo.out fun hr => h64 (by rw [HN.out]; exact hr.len))
    clear h64
    go_enter Tryz.func63, Tryz.ntmps63
    go_wp2
    go_ret
    exact ⟨ret_bool HB.out.symm, Below.refl _ _⟩
  have hI : ¬ 64 < (N : Int) := by omega
  have H64 := Lib.hid h64
  clear h64
  go_enter Tryz.func63, Tryz.ntmps63
  go_wp2
  go_loopw [12] (fun i wr => ∃ k : Nat, k ≤ N ∧ i = .int .i64 k ∧ Hid (Below w.heap.size w wr) ∧ Hid (OkTo l k)) (fun i _ => N - (intOf i).toNat)
  case atStart => exact ⟨0, Nat.zero_le _, rfl, Lib.hid (Below.refl _ _), Lib.hid (OkTo.zero l)⟩
  case round =>
    obtain ⟨wo, hwo⟩ : ∃ wo, wo = wr := ⟨_, rfl⟩
    subst hwo
    obtain ⟨k, hk, rfl, hB, hok⟩ := hrel
    by_cases hlt : k < N
    case neg =>
      have hkN : k = N := by omega
      have HB := Lib.hid (HYes.out (OkTo.right (by have h := hok.out; rw [hkN, HN.out] at h; exact h) (by rw [← HN.out]; exact H64.out)))
      clear hkN hok
      go_wp2_with fail
      go_ret
      exact ⟨ret_bool HB.out.symm, hB.out⟩
    obtain ⟨g, o, c', e, hNc, hg⟩ := HV.out.pos (by have := HN.out; omega)
    obtain rfl : A = some ⟨g, o, none⟩ := by cases e; rfl
    have hkc : k ≤ c := by have : c = c' := by cases e; rfl
                           have := HN.out; omega
    clear e hNc
    obtain ⟨x, hx⟩ : ∃ x, l[k]? = some x := ⟨_, List.getElem?_eq_getElem (by have := HN.out; omega)⟩
    have hfx := HF.out x (List.mem_of_getElem? hx)
    obtain ⟨c0, c1⟩ := RefsR.cells HV.out hx
    have c0' : wo.cell? ⟨g, o + k * 2, none⟩ = some (SV x.name) := by rw [hB.out.cell (p := ⟨g, o + k * 2, none⟩) hg]; exact c0
    have c1' : wo.cell? ⟨g, o + k * 2 + 1, none⟩ = some (SV x.id) := by rw [hB.out.cell (p := ⟨g, o + k * 2 + 1, none⟩) hg]; exact c1
    have HX := Lib.hid hx
    obtain ⟨nm, id⟩ := x
    simp only at hfx c0' c1'
    have HNm := fun W => Lib.hid (Named_p nm W hfx.1)
    have HId := fun W => Lib.hid (Named_any id W hfx.2)
    have L1 := Lib.hid (hB.out.alloc hB.out.size (.cells #[.string ⟨nm.toArray⟩, .string ⟨id.toArray⟩] 75))
    unfold SV at c0' c1' HNm HId
    have HG := Lib.hid hg
    clear c0 c1 hx hfx hg
    cases hnm : nameB nm with
    | false =>
      rw [hnm] at HNm
      have HB := Lib.hid (HNo.out (no_name HX.out hnm))
      clear hnm HId
      go_wp2_with fail
      refine (HNm _).out.mono ?_
      rintro e w2 ⟨rfl, hb2⟩
      have HB2 := Lib.hid hb2
      clear hb2
      go_wp2_with fail
      go_ret
      exact ⟨ret_bool HB.out.symm, L1.out.trans (HB2.out.mono L1.out.size)⟩
    | true =>
    rw [hnm] at HNm
    cases hid : namedB id with
    | false =>
      rw [hid] at HId
      have HB := Lib.hid (HNo.out (no_id HX.out hid))
      clear hnm hid
      go_wp2_with fail
      refine (HNm _).out.mono ?_
      rintro e w2 ⟨rfl, hb2⟩
      have d1 : w2.cell? ⟨wo.heap.size, 1, none⟩ = some (.string ⟨id.toArray⟩) := (hb2.cell (p := ⟨wo.heap.size, 1, none⟩) (by simp)).trans (by simp)
      have HB2 := Lib.hid hb2
      clear hb2
      go_wp2_with fail
      refine (HId _).out.mono ?_
      rintro e w3 ⟨rfl, rfl⟩
      go_wp2_with fail
      go_ret
      exact ⟨ret_bool HB.out.symm, L1.out.trans (HB2.out.mono L1.out.size)⟩
    | true =>
    rw [hid] at HId
    have Hnm := Lib.hid hnm; have Hid2 := Lib.hid hid
    clear hnm hid
    go_wp2_with fail
    refine (HNm _).out.mono ?_
    rintro e w2 ⟨rfl, hb2⟩
    have d0 : w2.cell? ⟨wo.heap.size, 0, none⟩ = some (.string ⟨nm.toArray⟩) := (hb2.cell (p := ⟨wo.heap.size, 0, none⟩) (by simp)).trans (by simp)
    have d1 : w2.cell? ⟨wo.heap.size, 1, none⟩ = some (.string ⟨id.toArray⟩) := (hb2.cell (p := ⟨wo.heap.size, 1, none⟩) (by simp)).trans (by simp)
    have D0 := Lib.hid d0
    have hz : wo.heap.size < w2.heap.size := Nat.lt_of_lt_of_le (by simp) hb2.size
    have HZ := Lib.hid hz
    have L2 := Lib.hid (L1.out.trans (hb2.mono L1.out.size))
    clear hb2 hz d0
    go_wp2_with fail
    refine (HId _).out.mono ?_
    rintro e w3 ⟨rfl, rfl⟩
    go_wp2_with fail
    clear d1
    go_loopw [31] (fun i wr => ∃ j : Nat, j ≤ k ∧ i = .int .i64 j ∧ Hid (Below w2.heap.size w2 wr) ∧ Hid (AheadTo l ⟨nm, id⟩ j)) (fun i _ => k - (intOf i).toNat)
    case atStart => exact ⟨0, Nat.zero_le _, rfl, Lib.hid (Below.refl _ _), Lib.hid (AheadTo.zero _ _)⟩
    case round =>
      obtain ⟨j, hj, rfl, hQ, ha⟩ := hrel
      by_cases hjk : j < k
      case neg =>
        have hjk2 : j = k := by omega
        have HO := Lib.hid (hok.out.succ HX.out Hnm.out Hid2.out (by have h := ha.out; rw [hjk2] at h; exact h))
        have HB2 := Lib.hid (L2.out.trans (hQ.out.mono L2.out.size))
        clear hjk2 ha hok hB
        go_wp2_with fail
        go_roundw
        case rel => exact ⟨k + 1, by omega, by go_num, HB2, HO⟩
        case measure => simp [intOf]; omega
      obtain ⟨y, hy⟩ : ∃ y, l[j]? = some y := ⟨_, List.getElem?_eq_getElem (by have := HN.out; omega)⟩
      have hfy := HF.out y (List.mem_of_getElem? hy)
      obtain ⟨c2, c3⟩ := RefsR.cells HV.out hy
      have HQ2 := Lib.hid (L2.out.trans (hQ.out.mono L2.out.size))
      have c2' : wr.cell? ⟨g, o + j * 2, none⟩ = some (SV y.name) := by rw [HQ2.out.cell (p := ⟨g, o + j * 2, none⟩) HG.out]; exact c2
      have c3' : wr.cell? ⟨g, o + j * 2 + 1, none⟩ = some (SV y.id) := by rw [HQ2.out.cell (p := ⟨g, o + j * 2 + 1, none⟩) HG.out]; exact c3
      have HY := Lib.hid hy
      obtain ⟨ny, iy⟩ := y
      simp only at hfy c2' c3'
      have L3 := Lib.hid (hQ.out.alloc hQ.out.size (.cells #[.string ⟨ny.toArray⟩, .string ⟨iy.toArray⟩] 75))
      have L4 := Lib.hid (L2.out.trans (L3.out.mono L2.out.size))
      have d0 : (wr.alloc (.cells #[.string ⟨ny.toArray⟩, .string ⟨iy.toArray⟩] 75)).cell? ⟨wo.heap.size, 0, none⟩ = some (.string ⟨nm.toArray⟩) := by rw [L3.out.cell (p := ⟨wo.heap.size, 0, none⟩) HZ.out]; exact D0.out
      have HAb := fun W => Lib.hid (above_any ny nm W)
      unfold SV at c2' c3' HAb
      clear c2 c3 hy hfy hB
      cases hyx : decide (ny < nm) with
      | false =>
        have HG2 := fun W => ge_str W ny nm true (by rw [hyx]; rfl)
        have HB := Lib.hid (HNo.out (no_rise HX.out HY.out hjk (of_decide_eq_false hyx)))
        clear hyx HAb ha hok
        go_wp2_with fail
        go_ret
        exact ⟨ret_bool HB.out.symm, L4.out⟩
      | true =>
      have HG2 := fun W => ge_str W ny nm false (by rw [hyx]; rfl)
      have Hyx := Lib.hid (of_decide_eq_true hyx)
      cases hab : aboveB ny nm with
      | true =>
        rw [hab] at HAb
        have HB := Lib.hid (HNo.out (no_above HX.out HY.out hab))
        clear hyx hab ha hok
        go_wp2_with fail
        refine (HAb _).out.mono ?_
        rintro e w3 ⟨rfl, rfl⟩
        go_wp2_with fail
        go_ret
        exact ⟨ret_bool HB.out.symm, L4.out⟩
      | false =>
        rw [hab] at HAb
        have HA2 := Lib.hid (ha.out.succ HY.out Hyx.out hab)
        clear hyx hab ha
        go_wp2_with fail
        refine (HAb _).out.mono ?_
        rintro e w3 ⟨rfl, rfl⟩
        go_wp2_with fail
        go_roundw
        case rel => exact ⟨j + 1, by omega, by go_num, L3, HA2⟩
        case measure => simp [intOf]; omega
end Go.Proofs.YtnboagmibhllpaaGreatDoor.Rf


namespace Go.Proofs.YtnboagmibhllpaaGreatDoor.Rf
open Go.Proofs.YtnboagmibhllpaaGreatDoor
open Go Go.RowKit
instance : DecidableEq Ref := fun a b => decidable_of_iff (a.name = b.name ∧ a.id = b.id) ⟨fun h => Ref.ext' h.1 h.2, fun h => by rw [h]; exact ⟨rfl, rfl⟩⟩
theorem bdrS {B : Nat} {w w' : World} (h : Below B w w') (n : Nat) : Below B w (w'.drewN n) := ⟨h.os, h.tape, h.output, h.size, h.block⟩
theorem take_same {l m : List Ref} {k : Nat} {x y : Ref} (h : l.take k = m.take k) (hx : l[k]? = some x) (hy : m[k]? = some y) : x = y → l.take (k + 1) = m.take (k + 1) := fun e => by
  rw [List.take_add_one, List.take_add_one, hx, hy, h, e]
set_option maxHeartbeats 8000000 in
set_option maxRecDepth 100000 in
theorem Same_p {w : World} {va vb : Value} {l m : List Ref} (ha : RefsR w va l) (hb : RefsR w vb m) (hl : l.length ≤ 1000000) : Calls Tryz.prog 40 #[va, vb] w (BoolB (decide (l = m)) w) := by
  obtain ⟨A, c, rfl⟩ := ha.shape
  obtain ⟨B, cb, rfl⟩ := hb.shape
  have Ha := Lib.hid ha; have Hb := Lib.hid hb
  clear ha hb
  by_cases hlen : l.length = m.length
  case neg =>
    have HD : Hid (decide (l = m) = false) := Lib.hid (decide_eq_false fun e => hlen (by rw [e]))
    have hne : ((l.length : Int) != (m.length : Int)) = true := by simp; omega
    clear hlen
    go_enter Tryz.func40, Tryz.ntmps40
    go_wp2_with fail
    go_ret
    exact ⟨ret_bool HD.out.symm, Below.refl _ _⟩
  have Hlen := Lib.hid hlen
  rw [← hlen]
  clear hlen
  go_enter Tryz.func40, Tryz.ntmps40
  go_wp2_with fail
  go_loopw [5] (fun i wr => Below w.heap.size w wr ∧ ∃ k : Nat, k ≤ l.length ∧ i = .int .i64 k ∧ Hid (l.take k = m.take k)) (fun i _ => l.length - (intOf i).toNat)
  case atStart => exact ⟨Below.refl _ _, 0, Nat.zero_le _, rfl, Lib.hid rfl⟩
  case round =>
    obtain ⟨hB, k, hk, rfl, heq⟩ := hrel
    by_cases hlt : k < l.length
    · have hlm : k < m.length := by have := Hlen.out; omega
      obtain ⟨g, o, c', e, _, hg⟩ := Ha.out.pos (by omega)
      cases e
      obtain ⟨g', o', c'', e, _, hg'⟩ := Hb.out.pos (by omega)
      rw [← Hlen.out] at e
      cases e
      obtain ⟨x, hx⟩ : ∃ x, l[k]? = some x := ⟨_, List.getElem?_eq_getElem hlt⟩
      obtain ⟨y, hy⟩ : ∃ y, m[k]? = some y := ⟨_, List.getElem?_eq_getElem hlm⟩
      obtain ⟨p0, p1⟩ := RefsR.cells (RdK.below Ha.out hB (Nat.le_refl _)) hx
      obtain ⟨q0, q1⟩ := RefsR.cells (RdK.below Hb.out hB (Nat.le_refl _)) hy
      have hst := take_same heq.out hx hy
      have hne : x ≠ y → decide (l = m) = false := fun hn => decide_eq_false fun e => hn (by rw [e, hy] at hx; cases hx; rfl)
      have HB := Lib.hid hB; have HSt := Lib.hid hst
      clear hB hst hlm hx hy heq
      obtain ⟨x0, x1⟩ := x
      obtain ⟨y0, y1⟩ := y
      unfold SV at p0 p1 q0 q1
      simp only at p0 p1 q0 q1
      by_cases e : (⟨x0, x1⟩ : Ref) = ⟨y0, y1⟩
      · have HSt2 := Lib.hid (HSt.out e)
        clear HSt
        cases e
        clear hne
        go_wp2_with fail
        go_quiet (fail)
        go_wp2_with fail
        go_roundw
        case rel => exact ⟨bdrS HB.out _, k + 1, hlt, by go_num, HSt2⟩
        case measure => simp [intOf]; omega
      · have HD := Lib.hid (hne e)
        clear hne HSt
        have e2 : ¬ (x0 = y0 ∧ x1 = y1) := fun h => e (by rw [h.1, h.2])
        clear e
        by_cases e3 : x0 = y0
        · have e4 : ¬ x1 = y1 := fun h => e2 ⟨e3, h⟩
          subst e3
          clear e2
          go_wp2_with fail
          go_quiet (fail)
          go_wp2_with fail
          go_ret
          exact ⟨ret_bool HD.out.symm, bdrS HB.out _⟩
        · clear e2
          go_wp2_with fail
          go_quiet (fail)
          go_wp2_with fail
          go_ret
          exact ⟨ret_bool HD.out.symm, bdrS HB.out _⟩
    · have hkl : k = l.length := by omega
      have HD : Hid (decide (l = m) = true) := Lib.hid (decide_eq_true (by
        have h := heq.out
        rw [hkl, List.take_length, Hlen.out, List.take_length] at h; exact h))
      have HB := Lib.hid hB
      clear heq hB hkl
      go_wp2_with fail
      go_ret
      exact ⟨ret_bool HD.out.symm, HB.out⟩
end Go.Proofs.YtnboagmibhllpaaGreatDoor.Rf


namespace Go.Proofs.YtnboagmibhllpaaGreatDoor.Rf
open Go.Proofs.YtnboagmibhllpaaGreatDoor
def ha : Bs := [104, 101, 97, 100, 115, 47, 97]
def hb : Bs := [104, 101, 97, 100, 115, 47, 98]
def hab : Bs := [104, 101, 97, 100, 115, 47, 97, 47, 98]
end Go.Proofs.YtnboagmibhllpaaGreatDoor.Rf


namespace Go.Proofs.YtnboagmibhllpaaGreatDoor.Rf
open Go.Proofs.YtnboagmibhllpaaGreatDoor
open Go Go.RowKit
/-- What Get answers. -/
def GetP (s : Bs) (w : World) (e : Ending) (w' : World) : Prop :=
  ((∃ v l, e = .returned (.tuple #[v, .bool true]) ∧ OwR w' w.heap.size v l ∧ IsGet s l) ∨ (e = .returned (.tuple #[.slice none 0 0, .bool false]) ∧ ∀ l, ¬ IsGet s l)) ∧ Below w.heap.size w w'
theorem bdrN {B : Nat} {w w' : World} (h : Below B w w') (n : Nat) : Below B w (w'.drewN n) := ⟨h.os, h.tape, h.output, h.size, h.block⟩
def sLen (v : Value) : Nat := match v with | .string b => b.size | _ => 0
theorem cutV_cases (c : UInt8) (s : Bs) : ∃ a r b, cutV s (cutAt c s) = .tuple #[SV a, SV r, .bool b] ∧ ((b = true ∧ cutAt c s = some (a, r)) ∨ (b = false ∧ cutAt c s = none ∧ a = s ∧ r = [])) := by
  cases h : cutAt c s with
  | none => exact ⟨s, [], false, rfl, .inr ⟨rfl, rfl, rfl, rfl⟩⟩
  | some p => exact ⟨p.1, p.2, true, rfl, .inl ⟨rfl, rfl⟩⟩
set_option maxRecDepth 100000 in
set_option maxHeartbeats 4000000 in
theorem Get_p (s0 : Bs) (w : World) (hs : s0.length ≤ 1000000) : Calls Tryz.prog 103 #[.string ⟨s0.toArray⟩] w (GetP s0 w) := by
  have HS0 := Lib.hid hs
  clear hs
  go_enter Tryz.func103, Tryz.ntmps103
  go_wp2_with fail
  go_loopw [0, 4] (fun v0 v4 wr => ∃ (s : Bs) (l : List Ref), v0 = .string ⟨s.toArray⟩ ∧ Hid (GetI s0 s l) ∧ Hid (OwR wr w.heap.size v4 l) ∧ Hid (Below w.heap.size w wr)) (fun v0 _ _ => sLen v0)
  case atStart => exact ⟨s0, [], rfl, Lib.hid (GetI.start s0), Lib.hid (OwK.nil _ _ _ _ _), Lib.hid (Below.refl _ _)⟩
  case round =>
    obtain ⟨s, l, rfl, hI, hO, hB⟩ := hrel
    obtain ⟨A, n, c, hv4, hn⟩ := OwK.shape hO.out
    subst hv4
    have HN := Lib.hid hn
    have hn64 : n ≤ 64 := by rw [hn]; exact hI.out.len
    have hFit : Fit l := fun r hr => by
      have := hI.out.fit r hr; have := HS0.out; unfold maxLen; omega
    by_cases hs : s = []
    · subst hs
      have HC := Lib.hid (Right_p l (.slice A n c) wr (OwK.rd refC_len hO.out) hFit (by omega))
      clear hn hFit
      by_cases hr : Right l
      · rw [rightB_yes hr] at HC
        have HR := Lib.hid (hI.out.yes hr)
        clear hr hI
        go_wp2_with fail
        refine HC.out.mono ?_
        rintro e w2 ⟨rfl, hb⟩
        have HB := Lib.hid (hB.out.trans (hb.mono hB.out.size))
        have HO := Lib.hid (hO.out.below hb (Nat.le_refl _))
        clear hb hO hB
        go_wp2_with fail
        go_ret2
        exact ⟨.inl ⟨_, l, rfl, HO.out, HR.out⟩, HB.out⟩
      · rw [rightB_no hr] at HC
        have HR := Lib.hid (hI.out.no hr)
        clear hr hI
        go_wp2_with fail
        refine HC.out.mono ?_
        rintro e w2 ⟨rfl, hb⟩
        have HB := Lib.hid (hB.out.trans (hb.mono hB.out.size))
        clear hb hO hB
        go_wp2_with fail
        go_ret2
        exact ⟨.inr ⟨rfl, HR.out⟩, HB.out⟩
    have hs1 : s.length ≤ 1000000 := by have := hI.out.sl; have := HS0.out; omega
    obtain ⟨line, rest, b1, hc1, hb1⟩ := cutV_cases 10 s
    have HK1 := fun W => Cut_any s hs1 10 W
    rw [hc1] at HK1
    unfold SV at HK1
    have hl1 : line.length ≤ 1000000 := by
      rcases hb1 with ⟨_, h⟩ | ⟨_, _, h, _⟩
      · have := cutAt_some h; rw [this.1] at hs1; simp at hs1; omega
      · rw [h]; exact hs1
    obtain ⟨id, nm, b2, hc2, hb2⟩ := cutV_cases 32 line
    have HK2 := fun W => Cut_any line hl1 32 W
    rw [hc2] at HK2
    unfold SV at HK2
    have HK1' := fun W => Lib.hid (HK1 W); have HK2' := fun W => Lib.hid (HK2 W)
    have Hs := Lib.hid hs
    have hse : s.isEmpty = false := by cases s with | nil => exact absurd rfl hs | cons _ _ => rfl
    have HB1 := Lib.hid hb1; have HB2 := Lib.hid hb2
    clear hs hn hc1 hc2 HK1 HK2 hb1 hb2 hl1 hs1 hFit
    cases b1 with
    | false =>
      have HR := Lib.hid (hI.out.no_end Hs.out (by rcases HB1.out with ⟨h, _⟩ | ⟨_, h, _⟩; cases h; exact h))
      clear hI
      go_wp2_with fail
      refine (HK1' _).out.mono ?_
      rintro e w2 ⟨rfl, m1, rfl⟩
      go_wp2_with fail
      refine (HK2' _).out.mono ?_
      rintro e w3 ⟨rfl, m2, rfl⟩
      go_wp2_with fail
      go_ret2
      exact ⟨.inr ⟨rfl, HR.out⟩, bdrN hB.out _⟩
    | true =>
    have hc := (show cutAt 10 s = some (line, rest) by rcases HB1.out with ⟨_, h⟩ | ⟨h, _⟩; exact h; cases h)
    by_cases h64 : n = 64
    · have HR := Lib.hid (hI.out.full Hs.out (by rw [← HN.out]; exact h64))
      have hI64 : ((n : Int) == 64) = true := by rw [h64]; rfl
      clear hI hc h64
      go_wp2_with fail
      refine (HK1' _).out.mono ?_
      rintro e w2 ⟨rfl, m1, rfl⟩
      go_wp2_with fail
      refine (HK2' _).out.mono ?_
      rintro e w3 ⟨rfl, m2, rfl⟩
      go_wp2_with fail
      go_ret2
      exact ⟨.inr ⟨rfl, HR.out⟩, bdrN hB.out _⟩
    have hI64 : ((n : Int) == 64) = false := by simp; omega
    have hst := hI.out.step (x := ⟨nm, id⟩) (by have := HN.out; omega) hc (by
      rcases HB2.out with ⟨_, h⟩ | ⟨_, h, h3, h4⟩
      · exact .inl h
      · exact .inr ⟨h, h3, h4⟩)
    have HI2 := Lib.hid hst.1; have HM := Lib.hid hst.2
    have hB2 := fun m1 m2 => Lib.hid (bdrN (bdrN hB.out m1) m2)
    have hO2 := fun m1 m2 => Lib.hid (show OwR ((wr.drewN m1).drewN m2) w.heap.size (.slice A n c) l from hO.out)
    have hll : Hid (l.length < 1000000) := Lib.hid (by have := HN.out; omega)
    clear hI hc h64 hst hB hO
    go_wp2_with fail
    refine (HK1' _).out.mono ?_
    rintro e w2 ⟨rfl, m1, rfl⟩
    go_wp2_with fail
    refine (HK2' _).out.mono ?_
    rintro e w3 ⟨rfl, m2, rfl⟩
    have HO3 := hO2 m1 m2; have HB3 := hB2 m1 m2
    generalize (wr.drewN m1).drewN m2 = w4 at HO3 HB3 ⊢
    clear hO2 hB2
    go_wp2_with (refine wpList_push elRef (o := ⟨some 37, _, _, _, _, _⟩) rfl _ _ rfl w.heap.size _ l ⟨nm, id⟩ _ rfl rfl rfl HO3.out hll.out (by decide) HB3.out.size ?_)
    intro v' w5 hO5 hB5 _
    have HO5 := Lib.hid hO5
    have HB5 := Lib.hid (HB3.out.trans hB5)
    clear hO5 hB5
    go_wp2_with fail
    go_roundw
    case rel => exact ⟨rest, l ++ [⟨nm, id⟩], rfl, HI2, HO5, HB5⟩
    case measure => exact HM.out
end Go.Proofs.YtnboagmibhllpaaGreatDoor.Rf


namespace Go.Proofs.YtnboagmibhllpaaGreatDoor.Rf
open Go.Proofs.YtnboagmibhllpaaGreatDoor
open Go Go.RowKit
theorem linesL_snoc {l : List Ref} {k : Nat} {x : Ref} (hx : l[k]? = some x) : linesL (l.take (k + 1)) = linesL (l.take k) ++ lineL x := by
  unfold linesL
  rw [List.take_add_one, hx, Option.toList_some, List.flatMap_append]; simp
theorem nameB_len {s : Bs} (h : nameB s = true) : s.length ≤ 80 := by
  unfold nameB at h
  simp only [Bool.and_eq_true, decide_eq_true_eq] at h
  exact h.1.1.1
theorem named_len64 {s : Bs} (h : namedB s = true) : s.length = 64 := by unfold namedB at h; simp at h; exact h.1
theorem lineL_len {x : Ref} (h1 : nameB x.name = true) (h2 : namedB x.id = true) : (lineL x).length ≤ 146 := by
  unfold lineL
  have := nameB_len h1; have := named_len64 h2
  simp; omega
theorem linesL_len : ∀ {l : List Ref}, (∀ x ∈ l, nameB x.name = true ∧ namedB x.id = true) → (linesL l).length ≤ 146 * l.length
  | [], _ => Nat.le_refl _
  | x :: l, h => by
    have h1 := lineL_len (h x List.mem_cons_self).1 (h x List.mem_cons_self).2
    have h2 := linesL_len (l := l) fun y hy => h y (List.mem_cons_of_mem _ hy)
    show (lineL x ++ linesL l).length ≤ _
    rw [List.length_append, List.length_cons]; omega
/-- What Put answers. -/
def PutP (l : List Ref) (w : World) (e : Ending) (w' : World) : Prop :=
  ((e = .returned (.tuple #[SV (linesL l), .bool true]) ∧ Right l) ∨ (e = .returned (.tuple #[SV [], .bool false]) ∧ ¬ Right l)) ∧ Below w.heap.size w w'
set_option maxRecDepth 100000 in
set_option maxHeartbeats 4000000 in
theorem Put_p (l : List Ref) (v : Value) (w : World) (hv : RefsR w v l) (hf : Fit l) (hl : l.length ≤ 1000000) : Calls Tryz.prog 51 #[v] w (PutP l w) := by
  obtain ⟨A, c, rfl⟩ := hv.shape
  obtain ⟨N, hN⟩ : ∃ N, N = l.length := ⟨_, rfl⟩
  have HC := Lib.hid (Right_p l _ w hv hf hl)
  rw [← hN] at hv HC ⊢
  have HV := Lib.hid hv
  have HN := Lib.hid hN
  clear hv hf hl hN
  by_cases hr : Right l
  case neg =>
    rw [rightB_no hr] at HC
    have HR := Lib.hid hr
    clear hr
    go_enter Tryz.func51, Tryz.ntmps51
    go_wp2_with fail
    refine HC.out.mono ?_
    rintro e w1 ⟨rfl, hb⟩
    have HB := Lib.hid hb
    clear hb
    go_wp2_with fail
    go_ret2
    exact ⟨.inr ⟨rfl, HR.out⟩, HB.out⟩
  rw [rightB_yes hr] at HC
  have HR := Lib.hid hr
  have hl : N ≤ 64 := by rw [HN.out]; exact hr.len
  have HI : Hid (∀ x ∈ l, nameB x.name = true ∧ namedB x.id = true) := Lib.hid fun x hx => ⟨hr.name x hx, hr.id x hx⟩
  clear hr
  go_enter Tryz.func51, Tryz.ntmps51
  go_wp2_with fail
  refine HC.out.mono ?_
  rintro e w1 ⟨rfl, l1⟩
  have hb0 := Lib.hid ((Bd.new w1).mono l1.size)
  have L0 := Lib.hid (l1.alloc l1.size (.cells #[.pointer none, .slice none 0 0] 98))
  clear l1
  go_wp2_with fail
  go_loopw [12] (fun vi wr => ∃ k : Nat, k ≤ N ∧ vi = .int .i64 k ∧ Hid (Bd wr w.heap.size w1.heap.size (linesL (l.take k))) ∧ Hid (Below w.heap.size w wr)) (fun vi _ => N - (intOf vi).toNat)
  case atStart => exact ⟨0, Nat.zero_le _, rfl, hb0, L0⟩
  case round =>
    obtain ⟨k, hk, rfl, hbd, hB⟩ := hrel
    by_cases hlt : k < N
    case neg =>
      have hkN : k = N := by omega
      have h1 := hbd.out
      rw [hkN, HN.out, List.take_length] at h1
      have HB := Lib.hid (h1.told hB.out.size)
      clear h1 hkN hbd
      unfold SV at HB
      go_wp2_with fail
      refine HB.out.mono ?_
      rintro e w2 ⟨rfl, l2⟩
      go_wp2_with fail
      go_ret2
      exact ⟨.inl ⟨rfl, HR.out⟩, hB.out.trans l2⟩
    obtain ⟨g, o, c', e, _, hg⟩ := HV.out.pos (by have := HN.out; omega)
    obtain rfl : A = some ⟨g, o, none⟩ := by rw [← HN.out] at e; cases e; rfl
    clear e
    obtain ⟨x, hx⟩ : ∃ x, l[k]? = some x := ⟨_, List.getElem?_eq_getElem (by have := HN.out; omega)⟩
    obtain ⟨c0, c1⟩ := RefsR.cells (RdK.below HV.out hB.out (Nat.le_refl _)) hx
    have hsn := linesL_snoc hx
    obtain ⟨i1, i2⟩ := HI.out x (List.mem_of_getElem? hx)
    have n1 := nameB_len i1
    have n2 := named_len64 i2
    have htl : (linesL (l.take k)).length + (lineL x).length ≤ 1000000 := by
      have h1 := linesL_len (l := l.take k) (fun y hy => HI.out y (List.mem_of_mem_take hy))
      have h2 := lineL_len i1 i2
      rw [List.length_take] at h1
      omega
    obtain ⟨nm, di⟩ := x
    simp only at n1 n2 i1 i2
    unfold SV at c0 c1
    simp only at c0 c1
    obtain ⟨t1, ht1⟩ : ∃ t : ByteArray, t = ⟨(di ++ [32]).toArray⟩ := ⟨_, rfl⟩
    obtain ⟨t2, ht2⟩ : ∃ t : ByteArray, t = ⟨((di ++ [32]) ++ nm).toArray⟩ := ⟨_, rfl⟩
    obtain ⟨t3, ht3⟩ : ∃ t : ByteArray, t = ⟨(((di ++ [32]) ++ nm) ++ [10]).toArray⟩ := ⟨_, rfl⟩
    have r1 := cat_run di [32] t1 ht1 (by omega) (by simp)
    have r2 := cat_run2 _ nm t1 t2 ht1 ht2 (by simp; omega) (by omega)
    have r3 := cat_run2 _ [10] t2 t3 ht2 ht3 (by simp; omega) (by simp)
    have H3 : Hid (t3 = ⟨(lineL ⟨nm, di⟩).toArray⟩) := Lib.hid (by rw [ht3]; unfold lineL; simp)
    clear ht1 ht2 ht3
    have HS := Lib.hid hsn; have HL := Lib.hid htl
    have L1 := Lib.hid (hB.out.alloc hB.out.size (.cells #[.string ⟨nm.toArray⟩, .string ⟨di.toArray⟩] 75))
    have HD := Lib.hid (hbd.out.below (below_new wr (.cells #[.string ⟨nm.toArray⟩, .string ⟨di.toArray⟩] 75)))
    clear hx hsn htl i1 i2 hg hbd hB
    go_wp2_with fail
    refine (Bd.write HD.out L1.out.size (lineL ⟨nm, di⟩) t3 H3.out HL.out).mono ?_
    rintro e w3 ⟨⟨n, rfl⟩, hb3, l3, k3⟩
    have HB3 : Hid (Bd w3 w.heap.size w1.heap.size (linesL (l.take (k + 1)))) := Lib.hid (by rw [HS.out]; exact hb3)
    have L3 := Lib.hid (L1.out.trans l3)
    clear hb3 l3 k3 r1 r2 r3 c0 c1
    go_wp2_with fail
    go_roundw
    case rel => exact ⟨k + 1, by omega, by go_num, HB3, L3⟩
    case measure => simp [intOf]; omega
end Go.Proofs.YtnboagmibhllpaaGreatDoor.Rf


namespace Go.Proofs.YtnboagmibhllpaaGreatDoor.Rf
open Go.Proofs.YtnboagmibhllpaaGreatDoor
open Go Go.RowKit
theorem rb_const (w : World) (a : UInt8) : Rb (w.alloc (.cells #[.int .u8 (a.toNat : Int)] 5 (1, 2))) (.slice (some ⟨w.heap.size, 0, none⟩) 1 1) [a] :=
  .inr ⟨w.heap.size, 0, 1, rfl, by simp, by simp, fun j hj => by
    have h : (w.alloc (.cells #[.int .u8 (a.toNat : Int)] 5 (1, 2))).heap[w.heap.size]? = some (.cells #[.int .u8 (a.toNat : Int)] 5 (1, 2)) := heap_alloc_new w _
    rw [Nat.zero_add, cell_of_row _ _ j _ _ _ h]
    match j, hj with
    | 0, _ => rfl⟩
theorem isD_div (c : UInt8) : isD (hexD (c / 16)) = true ∧ isD (hexD (c % 16)) = true := by
  have h : (isD (hexD (c / 16)) && isD (hexD (c % 16))) = true := u8_all (p := fun c => isD (hexD (c / 16)) && isD (hexD (c % 16))) (by decide +kernel) c
  simpa using h
theorem name_named (l : Bs) (h : (nameL l).length = 64) : namedB (nameL l) = true := by
  unfold namedB
  rw [h]
  simp only [beq_self_eq_true, Bool.true_and]
  unfold nameL
  generalize sumL l = s
  induction s with
  | nil => rfl
  | cons c s ih => simp only [List.flatMap_cons, List.all_append, ih, List.all_cons, List.all_nil, (isD_div c).1, (isD_div c).2, Bool.and_true]
/-- A slice of structs that a law writes down. -/
theorem row_new {α : Type} {k : Nat} {f : α → List Value} (hf : ∀ x, (f x).length = k) (w : World) (t : TypeId) (l : List α) (cs : Array Value) (hcs : cs = (l.flatMap f).toArray) (n : Nat) (hn : n = l.length) : RdK k f (w.alloc (.cells cs t)) (.slice (some ⟨w.heap.size, 0, none⟩) n n) l := by
  subst hcs; subst hn
  refine .inr ⟨w.heap.size, 0, l.length, rfl, Nat.le_refl _, by simp, fun j hj x hx i hi => ?_⟩
  rw [cell_of_row _ _ _ _ _ _ (heap_alloc_new w _), Nat.zero_add]
  have h := flat_get hf l j x hx i hi
  simpa using h
end Go.Proofs.YtnboagmibhllpaaGreatDoor.Rf


namespace Go.Proofs.YtnboagmibhllpaaGreatDoor.Ro
open Go.Proofs.YtnboagmibhllpaaGreatDoor
open Go.Proofs.YtnboagmibhllpaaGreatDoor.Rf (BoolB Ref nameB linesL lineL RefsR OwR OwS Fit)
open Go Go.RowKit

/-- A fork's cells. -/
structure Fc where
  name : Bs
  linked : Bool
  head : Bs
  rv : Value
  pv : Value
def fkC (x : Fc) : List Value := [SV x.name, .bool x.linked, SV x.head, x.rv, x.pv]
theorem fkC_len (x : Fc) : (fkC x).length = 5 := rfl
def fkV (x : Fc) : Value := .agg (fkC x).toArray
/-- The cells x tell the fork f. -/
structure FkR (w : World) (x : Fc) (f : Fk) : Prop where
  name : x.name = f.name
  linked : x.linked = f.linked
  head : x.head = f.head
  refs : RefsR w x.rv f.refs
  packs : StrsR w x.pv f.packs
theorem FkR.below {w w' : World} {x : Fc} {f : Fk} {b : Nat} (h : FkR w x f) (hb : Below b w w') (hlt : w.heap.size ≤ b) : FkR w' x f :=
  ⟨h.name, h.linked, h.head, RdK.below h.refs hb hlt, RdK.below h.packs hb hlt⟩
def FksR (w : World) (v : Value) (l : List Fk) : Prop := ∃ xs : List Fc, RdK 5 fkC w v xs ∧ xs.length = l.length ∧ ∀ (k : Nat) (x : Fc) (f : Fk), xs[k]? = some x → l[k]? = some f → FkR w x f
theorem FksR.below {w w' : World} {v : Value} {l : List Fk} {b : Nat} (h : FksR w v l) (hb : Below b w w') (hlt : w.heap.size ≤ b) : FksR w' v l := by
  obtain ⟨xs, h1, h2, h3⟩ := h
  exact ⟨xs, h1.below hb hlt, h2, fun k x f hx hf => (h3 k x f hx hf).below hb hlt⟩
theorem FksR.shape {w : World} {v : Value} {l : List Fk} (h : FksR w v l) : ∃ A c, v = .slice A l.length c := by
  obtain ⟨xs, h1, h2, _⟩ := h
  obtain ⟨A, c, e⟩ := h1.shape
  exact ⟨A, c, by rw [e, h2]⟩
theorem FksR.pos {w : World} {v : Value} {l : List Fk} (h : FksR w v l) (hl : 0 < l.length) : ∃ g o c, v = .slice (some ⟨g, o, none⟩) l.length c ∧ l.length ≤ c ∧ g < w.heap.size := by
  obtain ⟨xs, h1, h2, _⟩ := h
  obtain ⟨g, o, c, e, hc, hg⟩ := h1.pos (by omega)
  exact ⟨g, o, c, by rw [e, h2], by omega, hg⟩
/-- One of them. -/
theorem FksR.at {w : World} {g o n c : Nat} {l : List Fk} (h : FksR w (.slice (some ⟨g, o, none⟩) n c) l) {k : Nat} {f : Fk} (hf : l[k]? = some f) :
    ∃ x : Fc, FkR w x f ∧ w.cell? ⟨g, o + k * 5, none⟩ = some (SV x.name) ∧ w.cell? ⟨g, o + k * 5 + 1, none⟩ = some (.bool x.linked) ∧ w.cell? ⟨g, o + k * 5 + 2, none⟩ = some (SV x.head) ∧ w.cell? ⟨g, o + k * 5 + 3, none⟩ = some x.rv ∧ w.cell? ⟨g, o + k * 5 + 4, none⟩ = some x.pv := by
  obtain ⟨xs, h1, h2, h3⟩ := h
  have hk : k < xs.length := by have := (List.getElem?_eq_some_iff.1 hf).1; omega
  have hx : xs[k]? = some xs[k] := List.getElem?_eq_getElem hk
  exact ⟨xs[k], h3 k _ f hx hf, Rf.RdK.at h1 hx (i := 0) (by decide) rfl, Rf.RdK.at h1 hx (i := 1) (by decide) rfl, Rf.RdK.at h1 hx (i := 2) (by decide) rfl, Rf.RdK.at h1 hx (i := 3) (by decide) rfl, Rf.RdK.at h1 hx (i := 4) (by decide) rfl⟩
theorem FksR.take {w : World} {A : Option Addr} {n c : Nat} {l : List Fk} (h : FksR w (.slice A n c) l) (hn : n = l.length) {k : Nat} (hk : k ≤ n) : FksR w (.slice A k c) (l.take k) := by
  obtain ⟨xs, h1, h2, h3⟩ := h
  refine ⟨xs.take k, ?_, by simp [h2], fun j x f hx hf => ?_⟩
  · have hl : (xs.take k).length = k := by rw [List.length_take]; omega
    rcases h1 with ⟨⟨A', c', e⟩, rfl⟩ | ⟨g, o, c', e, hc, hg, hcell⟩
    · cases e
      obtain rfl : k = 0 := by simp at h2; omega
      exact .inl ⟨⟨_, _, rfl⟩, by simp⟩
    · cases e
      refine .inr ⟨g, o, c, by rw [hl], by omega, hg, fun j hj x hx i hi => ?_⟩
      rw [hl] at hj
      rw [List.getElem?_take, if_pos hj] at hx
      exact hcell j (by omega) x hx i hi
  · have hj : j < k := by
      have := (List.getElem?_eq_some_iff.1 hx).1
      rw [List.length_take] at this; omega
    rw [List.getElem?_take, if_pos hj] at hx hf
    exact h3 j x f hx hf
/-- No longer than may be. -/
structure FitF (f : Fk) : Prop where
  name : f.name.length ≤ maxLen
  head : f.head.length ≤ maxLen
  refs : Fit f.refs
  rlen : f.refs.length ≤ 1000000
  packs : FitS f.packs
  plen : f.packs.length ≤ 1000000
structure FitR (r : Rt) : Prop where
  pool : FitS r.pool
  plen : r.pool.length ≤ 1000000
  forks : ∀ f ∈ r.forks, FitF f
  flen : r.forks.length ≤ 1000000
  c0 : -9223372036854775808 ≤ r.count
  c1 : r.count ≤ 9223372036854775807
/-- The value v is the root r. -/
def RtR (w : World) (v : Value) (r : Rt) : Prop := ∃ pv fv, v = .agg #[.int .i64 r.count, pv, fv] ∧ StrsR w pv r.pool ∧ FksR w fv r.forks
theorem RtR.below {w w' : World} {v : Value} {r : Rt} {b : Nat} (h : RtR w v r) (hb : Below b w w') (hlt : w.heap.size ≤ b) : RtR w' v r := by
  obtain ⟨pv, fv, e, h1, h2⟩ := h
  exact ⟨pv, fv, e, RdK.below h1 hb hlt, h2.below hb hlt⟩
theorem RtR.parts {w : World} {v : Value} {r : Rt} (h : RtR w v r) : ∃ A c B d, v = .agg #[.int .i64 r.count, .slice A r.pool.length c, .slice B r.forks.length d] ∧ StrsR w (.slice A r.pool.length c) r.pool ∧ FksR w (.slice B r.forks.length d) r.forks := by
  obtain ⟨pv, fv, rfl, h1, h2⟩ := h
  obtain ⟨A, c, rfl⟩ := h1.shape
  obtain ⟨B, d, rfl⟩ := h2.shape
  exact ⟨A, c, B, d, rfl, h1, h2⟩

/-! ### Steps -/
theorem at_f (W : World) (g o n c k : Nat) (hk : k < n) : (Instr.indexAt 23 (.slice (some ⟨g, o, none⟩) n c) (.int .i64 (k : Int))).run Tryz.prog W = .ok (.pointer (some ⟨g, o + k * 5, none⟩)) W := by
  have h : (k : Int) < (n : Int) := by omega
  simp [go_sem, h]
theorem f_f0 (W : World) (b o : Nat) : (Instr.fieldAt 42 (.pointer (some ⟨b, o, none⟩)) 0).run Tryz.prog W = .ok (.pointer (some ⟨b, o, none⟩)) W := by simp [go_sem]
theorem f_f1 (W : World) (b o : Nat) : (Instr.fieldAt 42 (.pointer (some ⟨b, o, none⟩)) 1).run Tryz.prog W = .ok (.pointer (some ⟨b, o + 1, none⟩)) W := by simp [go_sem]
theorem f_f2 (W : World) (b o : Nat) : (Instr.fieldAt 42 (.pointer (some ⟨b, o, none⟩)) 2).run Tryz.prog W = .ok (.pointer (some ⟨b, o + 2, none⟩)) W := by simp [go_sem]
theorem f_f3 (W : World) (b o : Nat) : (Instr.fieldAt 42 (.pointer (some ⟨b, o, none⟩)) 3).run Tryz.prog W = .ok (.pointer (some ⟨b, o + 3, none⟩)) W := by simp [go_sem]
theorem f_f4 (W : World) (b o : Nat) : (Instr.fieldAt 42 (.pointer (some ⟨b, o, none⟩)) 4).run Tryz.prog W = .ok (.pointer (some ⟨b, o + 4, none⟩)) W := by simp [go_sem]
theorem f_f0z (W : World) (b : Nat) : (Instr.fieldAt 42 (.pointer (some ⟨b, 0, none⟩)) 0).run Tryz.prog W = .ok (.pointer (some ⟨b, 0, none⟩)) W := by simp [go_sem]
theorem f_f3z (W : World) (b : Nat) : (Instr.fieldAt 42 (.pointer (some ⟨b, 0, none⟩)) 3).run Tryz.prog W = .ok (.pointer (some ⟨b, 3, none⟩)) W := by simp [go_sem]
theorem f_f4z (W : World) (b : Nat) : (Instr.fieldAt 42 (.pointer (some ⟨b, 0, none⟩)) 4).run Tryz.prog W = .ok (.pointer (some ⟨b, 4, none⟩)) W := by simp [go_sem]
theorem l_V {t : TypeId} (W : World) (b o : Nat) (v : Value) (ht : (isAgg t).run Tryz.prog W = .ok false W) (h : W.cell? ⟨b, o, none⟩ = some v) : (Instr.loadAt t (.pointer (some ⟨b, o, none⟩))).run Tryz.prog W = .ok v W := by
  simp [go_sem, ht, h]
theorem l_Sl (W : World) (b o : Nat) (A : Option Addr) (n c : Nat) (h : W.cell? ⟨b, o, none⟩ = some (.slice A n c)) : (Instr.loadAt 22 (.pointer (some ⟨b, o, none⟩))).run Tryz.prog W = .ok (.slice A n c) W := by simp [go_sem, h]
theorem l_Rl (W : World) (b o : Nat) (A : Option Addr) (n c : Nat) (h : W.cell? ⟨b, o, none⟩ = some (.slice A n c)) : (Instr.loadAt 40 (.pointer (some ⟨b, o, none⟩))).run Tryz.prog W = .ok (.slice A n c) W := by simp [go_sem, h]
theorem l_Fl (W : World) (b o : Nat) (A : Option Addr) (n c : Nat) (h : W.cell? ⟨b, o, none⟩ = some (.slice A n c)) : (Instr.loadAt 23 (.pointer (some ⟨b, o, none⟩))).run Tryz.prog W = .ok (.slice A n c) W := by simp [go_sem, h]
theorem l_Fk (W : World) (b o : Nat) (x0 x1 x2 x3 x4 : Value) (h0 : W.cell? ⟨b, o, none⟩ = some x0) (h1 : W.cell? ⟨b, o + 1, none⟩ = some x1) (h2 : W.cell? ⟨b, o + 2, none⟩ = some x2) (h3 : W.cell? ⟨b, o + 3, none⟩ = some x3) (h4 : W.cell? ⟨b, o + 4, none⟩ = some x4) :
    (Instr.loadAt 42 (.pointer (some ⟨b, o, none⟩))).run Tryz.prog W = .ok (.agg #[x0, x1, x2, x3, x4]) W := by
  simp [go_sem, h0, h1, h2, h3, h4]
theorem l_S (W : World) (b o : Nat) (s : Bs) (h : W.cell? ⟨b, o, none⟩ = some (.string ⟨s.toArray⟩)) : (Instr.loadAt 9 (.pointer (some ⟨b, o, none⟩))).run Tryz.prog W = .ok (.string ⟨s.toArray⟩) W := by simp [go_sem, h]
theorem fcut_lo (W : World) (A : Option Addr) (n c k : Nat) (hk : k ≤ c) : (Instr.sliceAt 23 (.slice A n c) none (some (.int .i64 (k : Int))) none).run Tryz.prog W = .ok (.slice A k c) W := by
  have h1 : (k : Int) ≤ (c : Int) := by omega
  cases A <;> simp [go_sem, h1]
theorem sub_one (W : World) (j : Nat) (hj : j ≤ 1000000) : (binOp .sub 3 (.int .i64 ((j + 1 : Nat) : Int)) (.int .i64 1)).run Tryz.prog W = .ok (.int .i64 (j : Int)) W := by
  have h : IntKind.i64.wrap (j : Int) = (j : Int) := IntWalk.i64_in _ (by omega)
  simp [go_sem, h]
theorem eql_z (W : World) (j : Nat) : (binOp .eql 3 (.int .i64 ((j + 1 : Nat) : Int)) (.int .i64 0)).run Tryz.prog W = .ok (.bool false) W := by
  have h : ((j : Int) + 1 == 0) = false := by simp; omega
  simp [go_sem, h]
theorem lss_S (W : World) (x y : Bs) (b : Bool) (h : decide (x < y) = b) : (binOp .lss 9 (.string ⟨x.toArray⟩) (.string ⟨y.toArray⟩)).run Tryz.prog W = .ok (.bool b) W := by
  show (Op.stringOp .lss _ _).run _ _ = _
  have e := Go.Proofs.bytesLess_eq x y
  rw [h] at e
  simp [go_sem, Op.stringOp, e]
end Go.Proofs.YtnboagmibhllpaaGreatDoor.Ro
