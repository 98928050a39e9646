/-
  The document's root: split, counted.
-/
import Derived.Test.YtnboagmibhllpaaGreatDoorC20
import Derived.Test.YtnboagmibhllpaaGreatDoorOTelP
import Derived.Test.YtnboagmibhllpaaGreatDoorODocB
namespace Go.Proofs.YtnboagmibhllpaaGreatDoor.Ro
open Go.Proofs.YtnboagmibhllpaaGreatDoor
open Go.Proofs.YtnboagmibhllpaaGreatDoor.Rf (BoolB Ref RefsR nameB)
open Go.Proofs.YtnboagmibhllpaaGreatDoor.Rf (OwS)
open Go Go.RowKit

theorem wpList_oneS {ops : Array Oper} {rest : List Oper} {o : Oper} {a : Go.Act} {w : World} {Q : Exit → Go.Act → World → Prop} (hgd : o.guard = none) (s y : Operand)
    (ho : o.op = .call { callee := .builtin .append, args := #[s, y], argTypes := #[22, 22] }) (base : Nat) (v : Value) (l : List Bs) (x : Bs) (hs : a.eval s = v) (hy : a.eval y = .slice (some ⟨w.heap.size, 0, none⟩) 1 1)
    (h : OwK 9 1 strC w base v l) (hl : l.length + 1 ≤ 1000000) (hb : base ≤ w.heap.size)
    (kk : ∀ v' w', OwK 9 1 strC w' base v' (l ++ [x]) → Below base w w' → wpList Tryz.prog ops Q rest (a.put o.dst v') w') : wpList Tryz.prog ops Q (o :: rest) a (w.alloc (.cells #[.string ⟨x.toArray⟩] 9)) := by
  refine wpList_plain hgd fun K hK => ?_
  obtain ⟨v', w', h1, h2, h3, _⟩ := run_all elStr (h.below (below_new w _) (Nat.le_refl _)) (strs_one w x) (by simpa using hl) (by decide) (by simp; omega) o.type
  unfold Oper.wp
  simp [execOp, ho, resolve, invoke, builtin, hs, hy, h1, Result.andThen]
  exact hK _ _ (kk v' w' h2 (((below_new w _).mono hb).trans h3))
theorem cut_R (W : World) (S : ByteArray) (t : Bs) (lo hi : Nat) (h1 : lo ≤ hi) (h2 : hi ≤ S.size) (ht : S.extract lo hi = ⟨t.toArray⟩) : (Instr.sliceAt 9 (.string S) (some (.int .i64 (lo : Int))) (some (.int .i64 (hi : Int))) none).run Tryz.prog W = .ok (.string ⟨t.toArray⟩) W := by
  rw [run_sliceAt_string W _ _ _ _ _ Tryz.underlying9, run_slice_string W _ _ _ _ _ _ Tryz.underlying9 (by omega) (by omega) (by omega), Int.toNat_natCast, Int.toNat_natCast, ht]
theorem u8_eqR (a b : UInt8) : ((a.toNat : Int) == (b.toNat : Int)) = decide (a = b) := by
  rw [Bool.eq_iff_iff, beq_iff_eq, decide_eq_true_eq]
  constructor
  · intro h; exact UInt8.toNat_inj.1 (by omega)
  · rintro rfl; rfl
set_option maxRecDepth 100000 in
set_option maxHeartbeats 8000000 in
theorem RSplit10 (s : Bs) (c : UInt8) (w : World) (hl : s.length ≤ 900000) : Calls Tryz.prog 30 #[.string ⟨s.toArray⟩, .int .u8 (c.toNat : Int)] w fun e w' => ∃ v, e = .returned v ∧ OwS w' w.heap.size v (splitL c s) ∧ Below w.heap.size w w' := by
  obtain ⟨n, hn⟩ : ∃ n, n = s.length := ⟨_, rfl⟩
  have hnl : n ≤ 900000 := by omega
  have HN := Lib.hid hn
  have hsz : (⟨s.toArray⟩ : ByteArray).size = n := by rw [hn]; show s.toArray.size = _; simp
  have HIx : Hid (∀ k, k < n → ∃ x : UInt8, s[k]? = some x ∧ ∀ hh, (⟨s.toArray⟩ : ByteArray)[k]'hh = x) := Lib.hid fun k hk => by
    have h : k < s.length := by omega
    exact ⟨s[k], List.getElem?_eq_getElem h, fun hh => by show s.toArray[k] = _; simp⟩
  have HEx : Hid (∀ a k, (⟨s.toArray⟩ : ByteArray).extract a k = ⟨((s.drop a).take (k - a)).toArray⟩) := Lib.hid fun a k => by rw [extract_S, List.drop_take]
  obtain ⟨S, hS⟩ : ∃ S : ByteArray, S = ⟨s.toArray⟩ := ⟨_, rfl⟩
  rw [← hS] at hsz HIx HEx ⊢
  have HSz := Lib.hid hsz
  obtain ⟨C, hC⟩ : ∃ C, C = c.toNat := ⟨_, rfl⟩
  rw [← hC]
  have HC := Lib.hid hC
  clear hn hl hS hC
  go_enter Tryz.func30, Tryz.ntmps30
  have W0 := Lib.hid (Below.refl w.heap.size w)
  go_wp2_with fail
  go_loopw [5, 6, 7, 8] (fun z t i _ wr => ∃ (a k : Nat) (out : List Bs), k ≤ n + 1 ∧ a ≤ n + 1 ∧ i = .int .i64 k ∧ t = .int .i64 a ∧ Hid (Below w.heap.size w wr) ∧ Hid (OwS wr w.heap.size z out) ∧ Hid (k ≤ n → SpK c s out a k) ∧ Hid (k = n + 1 → out = splitL c s)) (fun _ _ i _ _ => n + 1 - (intOf i).toNat)
  case atStart => exact ⟨0, 0, [], Nat.zero_le _, Nat.zero_le _, rfl, rfl, W0, Lib.hid (World.ownsRow_nil _ _ _ _), Lib.hid fun _ => SpK.start c s, Lib.hid fun h => by omega⟩
  case round =>
    clear W0
    obtain ⟨a, k, out, hk, ha, rfl, rfl, hB, hO, hK, hD⟩ := hrel
    by_cases hlt : k < n
    · obtain ⟨x, hx, hix⟩ := HIx.out k hlt
      have hSp := hK.out (by omega)
      have hkI : (k : Int) ≤ (n : Int) := by omega
      have hke : ((k : Int) == (n : Int)) = false := by simp; omega
      have HX := Lib.hid hx; have HSp := Lib.hid hSp
      have HB := Lib.hid hB.out; have HO := Lib.hid hO.out
      cases hq : decide (x = c) with
      | true =>
        have hxc : ((x.toNat : Int) == (C : Int)) = true := by rw [HC.out, u8_eqR, hq]
        have HXc : Hid (x = c) := Lib.hid (of_decide_eq_true hq)
        obtain ⟨p, hp⟩ : ∃ p, p = (s.drop a).take (k - a) := ⟨_, rfl⟩
        have HP := Lib.hid hp
        have HNext : Hid (SpK c s (out ++ [p]) (k + 1) (k + 1)) := Lib.hid (by rw [HP.out]; exact HSp.out.cut (by rw [← HXc.out]; exact HX.out))
        have HLen : Hid (out.length + 1 ≤ 1000000) := Lib.hid (by have := HSp.out.few; have := HN.out; omega)
        have HCut : Hid (∀ W, (Instr.sliceAt 9 (.string S) (some (.int .i64 (a : Int))) (some (.int .i64 (k : Int))) none).run Tryz.prog W = .ok (.string ⟨p.toArray⟩) W) := Lib.hid fun W => cut_R W S p a k HSp.out.le (by rw [HSz.out]; omega) (by rw [HEx.out, ← HP.out])
        have SB : Hid (w.heap.size ≤ wr.heap.size) := Lib.hid HB.out.size
        clear hq hSp hK hD hB hO hx HX HXc hp HSp
        go_wp2_with (first
          | refine wpList_run (by kernel_rfl) (.string ⟨p.toArray⟩) wr (y_slice (xv := .string S) (lv := some (.int .i64 (a : Int))) (hv := some (.int .i64 (k : Int))) (mv := none) rfl (by kernel_rfl) (by kernel_rfl) (by kernel_rfl) rfl (HCut.out _)) ?_
          | refine wpList_oneS rfl (.tmp 25) (.tmp 30) rfl w.heap.size _ out p rfl rfl HO.out HLen.out SB.out ?_)
        intro v6 w6 o6 l6
        have L6 : Hid (Below w.heap.size w w6) := Lib.hid (HB.out.trans l6)
        have H6 := Lib.hid o6
        clear l6 o6
        go_wp2
        go_roundw
        case rel => exact ⟨k + 1, k + 1, out ++ [p], by omega, by omega, by go_num, by go_num, L6, H6, Lib.hid fun _ => HNext.out, Lib.hid fun h => by omega⟩
        case measure => simp [intOf]; omega
      | false =>
        have hxc : ((x.toNat : Int) == (C : Int)) = false := by rw [HC.out, u8_eqR, hq]
        have HXc : Hid (x ≠ c) := Lib.hid (of_decide_eq_false hq)
        have HNext : Hid (SpK c s out a (k + 1)) := Lib.hid (HSp.out.skip (by rw [HX.out]; exact fun e => HXc.out (Option.some.inj e)))
        clear hq hSp hK hD hB hO hx HX HSp HXc
        go_wp2_with fail
        go_roundw
        case rel => exact ⟨a, k + 1, out, by omega, by omega, by go_num, rfl, HB, HO, Lib.hid fun _ => HNext.out, Lib.hid fun h => by omega⟩
        case measure => simp [intOf]; omega
    · by_cases hkn : k = n
      · have hSp := hK.out (by omega)
        have hkI : (k : Int) ≤ (n : Int) := by omega
        have hke : ((k : Int) == (n : Int)) = true := by simp; omega
        have HSp := Lib.hid hSp
        have HB := Lib.hid hB.out; have HO := Lib.hid hO.out
        have HKn := Lib.hid hkn
        obtain ⟨p, hp⟩ : ∃ p, p = (s.drop a).take (k - a) := ⟨_, rfl⟩
        have HP := Lib.hid hp
        have HNext : Hid (out ++ [p] = splitL c s) := Lib.hid (by rw [HP.out]; have h := HSp.out; rw [hkn, HN.out] at h ⊢; exact h.done)
        have HLen : Hid (out.length + 1 ≤ 1000000) := Lib.hid (by have := HSp.out.few; have := HN.out; omega)
        have HCut : Hid (∀ W, (Instr.sliceAt 9 (.string S) (some (.int .i64 (a : Int))) (some (.int .i64 (k : Int))) none).run Tryz.prog W = .ok (.string ⟨p.toArray⟩) W) := Lib.hid fun W => cut_R W S p a k HSp.out.le (by rw [HSz.out]; omega) (by rw [HEx.out, ← HP.out])
        have SB : Hid (w.heap.size ≤ wr.heap.size) := Lib.hid HB.out.size
        clear hSp hK hD hB hO hp HSp
        go_wp2_with (first
          | refine wpList_run (by kernel_rfl) (.string ⟨p.toArray⟩) wr (y_slice (xv := .string S) (lv := some (.int .i64 (a : Int))) (hv := some (.int .i64 (k : Int))) (mv := none) rfl (by kernel_rfl) (by kernel_rfl) (by kernel_rfl) rfl (HCut.out _)) ?_
          | refine wpList_oneS rfl (.tmp 25) (.tmp 30) rfl w.heap.size _ out p rfl rfl HO.out HLen.out SB.out ?_)
        intro v6 w6 o6 l6
        have L6 : Hid (Below w.heap.size w w6) := Lib.hid (HB.out.trans l6)
        have H6 := Lib.hid o6
        clear l6 o6
        go_wp2
        go_roundw
        case rel => exact ⟨k + 1, k + 1, out ++ [p], by omega, by omega, by go_num, by go_num, L6, H6, Lib.hid fun h => by omega, Lib.hid fun _ => HNext.out⟩
        case measure => simp [intOf]; omega
      · have HD : Hid (out = splitL c s) := Lib.hid (hD.out (by omega))
        have hkI : ¬ (k : Int) ≤ (n : Int) := by omega
        have HB := Lib.hid hB.out; have HO := Lib.hid hO.out
        clear hB hO hK hD hlt hkn
        go_wp2_with fail
        go_ret
        exact ⟨_, rfl, by rw [← HD.out]; exact HO.out, HB.out⟩
end Go.Proofs.YtnboagmibhllpaaGreatDoor.Ro
