/-
  The document's Dir, Path.
-/
import Derived.Test.YtccloieikkdcoaaGreatDoorOrder
namespace Go.Proofs.YtccloieikkdcoaaGreatDoor
open Go Go.RowKit Go.Maps Go.Shelf Go.Deep

theorem dir_end {p : By} {b : Bool} (h1 : refDir p = dirOf p) (h2 : pathB p = b) : Ending.returned (.tuple #[.string ⟨(dirOf p).toArray⟩, .bool b]) = Ending.returned (.tuple #[S (refDir p), .bool (pathB p)]) := by rw [h1, h2]; rfl

set_option maxHeartbeats 4000000 in
set_option maxRecDepth 100000 in
theorem Dir_any (p : By) (w : World) (hs : p.length ≤ lim) : Calls Tryz.prog 34 #[S p] w (DirRPost p w) := by
  unfold S
  have hs' : p.length ≤ 140737488355328 := hs
  go_enter Tryz.func34, Tryz.ntmps34
  go_wp2_with fail
  go_loop [4] (fun i => ∃ k : Nat, k ≤ p.length ∧ i = .int .i64 k ∧ (p.take k).contains 47 = false) (fun i => p.length - (intOf i).toNat)
  case atStart => exact ⟨0, Nat.zero_le _, rfl, rfl⟩
  case round =>
    obtain ⟨k, hk, rfl, hno⟩ := hrel
    by_cases hlt : k < p.length
    · have hgk : (({ data := List.toArray p } : ByteArray)[k]'(by simpa [ByteArray.size] using hlt)).toNat = p[k].toNat := rfl
      have Hno := Lib.hid hno; clear hno
      by_cases h47 : ((p[k].toNat : Int) == 47) = true
      · have h47' : p[k]? = some 47 := by
          rw [List.getElem?_eq_getElem hlt]
          have e : p[k].toNat = 47 := by simp at h47; omega
          exact congrArg some (UInt8.toNat_inj.1 (by rw [e]; rfl))
        obtain ⟨s1, s2, s3⟩ := slash_at Hno.out h47'
        have E1 : (⟨p.toArray⟩ : ByteArray).extract 0 k = ⟨(dirOf p).toArray⟩ := by rw [extract_S, ← s1]; rfl
        have E2 : (⟨p.toArray⟩ : ByteArray).extract (k + 1) p.length = ⟨(nameOf p).toArray⟩ := by rw [extract_S, List.take_length, ← s2]
        have hd : (dirOf p).length ≤ lim := Nat.le_trans (dirOf_le p) hs
        have hn : (nameOf p).length ≤ lim := by rw [← s2, List.length_drop]; omega
        have er : refDir p = dirOf p := by unfold refDir; rw [if_pos s3]
        have ep : pathB p = (partB (dirOf p) && partB (nameOf p)) := by unfold pathB; rw [s3]; rfl
        have c1 : ∀ W, Calls Tryz.prog 58 #[.string ⟨(dirOf p).toArray⟩] W fun e w'' => e = .returned (.bool (partB (dirOf p))) ∧ W = w'' := fun W => Part_any (dirOf p) W hd
        have c2 : ∀ W, Calls Tryz.prog 58 #[.string ⟨(nameOf p).toArray⟩] W fun e w'' => e = .returned (.bool (partB (nameOf p))) ∧ W = w'' := fun W => Part_any (nameOf p) W hn
        have S0 : Hid (∀ W, (Instr.sliceAt 9 (.string ⟨p.toArray⟩) none (some (.int .i64 (k : Int))) none).run Tryz.prog W = .ok (.string ⟨(dirOf p).toArray⟩) W) := Lib.hid fun W => by
          rw [run_sliceAt_string W _ _ _ _ _ Tryz.underlying9, run_slice_string_to_if W _ _ _ _ Tryz.underlying9, if_pos ⟨by omega, by show (k : Int) ≤ (p.length : Int); omega⟩, show ((k : Int)).toNat = k by omega, E1]
        have S1 : Hid (∀ W, (Instr.sliceAt 9 (.string ⟨p.toArray⟩) (some (.int .i64 ((k : Int) + 1))) none none).run Tryz.prog W = .ok (.string ⟨(nameOf p).toArray⟩) W) := Lib.hid fun W => by
          rw [run_sliceAt_string W _ _ _ _ _ Tryz.underlying9, run_slice_string_from_if W _ _ _ _ Tryz.underlying9, if_pos ⟨by omega, by show (k : Int) + 1 ≤ (p.length : Int); omega⟩, show ((k : Int) + 1).toNat = k + 1 by omega]
          exact congrArg (fun b => Result.ok (Value.string b) W) E2
        have Er := Lib.hid er; have Ep := Lib.hid ep
        clear h47' s1 s2 s3 er ep hd hn
        have A1 : Hid (∀ W, (binOp .add 3 (.int .i64 (k : Int)) (.int .i64 1)).run Tryz.prog W = .ok (.int .i64 ((k : Int) + 1)) W) := Lib.hid fun W => by
          have ek : IntKind.i64.wrap ((k : Int) + 1) = (k : Int) + 1 := IntWalk.i64_in _ (by omega)
          simp [go_sem, ek]
        clear E1 E2
        cases hP : partB (dirOf p) with
        | true =>
          rw [hP] at c1
          have C1 := Lib.hid c1; have C2 := Lib.hid c2; have HP := Lib.hid hP
          clear c1 c2 hP
          go_wp2_with fail
          refine AnyB.start (by kernel_rfl) ?_
          refine AnyB.take 0 (.string ⟨p.toArray⟩) rfl (by kernel_rfl) (by kernel_rfl) (by kernel_rfl) (fun _ _ _ h => h) (by kernel_rfl) (fun W hW => by kernel_rfl) ?_
          refine AnyB.take 1 (.int .i64 (k : Int)) rfl (by kernel_rfl) (by kernel_rfl) (by kernel_rfl) (fun _ _ _ h => h) (by kernel_rfl) (fun W hW => by kernel_rfl) ?_
          refine AnyB.take 3 (.string ⟨p.toArray⟩) rfl (by kernel_rfl) (by kernel_rfl) (by kernel_rfl) (fun _ _ _ h => h) (by kernel_rfl) (fun W hW => by kernel_rfl) ?_
          refine AnyB.take 4 (.int .i64 (k : Int)) rfl (by kernel_rfl) (by kernel_rfl) (by kernel_rfl) (fun _ _ _ h => h) (by kernel_rfl) (fun W hW => by kernel_rfl) ?_
          refine AnyB.take 2 (.string ⟨(dirOf p).toArray⟩) rfl (by kernel_rfl) (by kernel_rfl) (by kernel_rfl) (fun _ _ _ h => h) (by kernel_rfl) (fun W hW => y_slice rfl (by kernel_rfl) rfl (by kernel_rfl) rfl (S0.out W)) ?_
          refine AnyB.take 5 (.string ⟨(dirOf p).toArray⟩) rfl (by kernel_rfl) (by kernel_rfl) (by kernel_rfl) (fun _ _ _ h => h) (by kernel_rfl) (fun W hW => y_slice rfl (by kernel_rfl) rfl (by kernel_rfl) rfl (S0.out W)) ?_
          refine AnyB.call 6 58 #[.string ⟨(dirOf p).toArray⟩] (by kernel_rfl) rfl (by kernel_rfl) (by kernel_rfl) ?_
          refine (C1.out _).mono ?_
          rintro e w1 ⟨rfl, rfl⟩
          refine ⟨_, rfl, Below.refl _ _, ?_⟩
          refine AnyB.take 7 (.bool true) rfl (by kernel_rfl) (by kernel_rfl) (by kernel_rfl) (fun _ _ _ h => h) (by kernel_rfl) (fun W hW => by kernel_rfl) ?_
          refine AnyB.take 8 (.string ⟨p.toArray⟩) rfl (by kernel_rfl) (by kernel_rfl) (by kernel_rfl) (fun _ _ _ h => h) (by kernel_rfl) (fun W hW => by kernel_rfl) ?_
          refine AnyB.take 9 (.int .i64 (k : Int)) rfl (by kernel_rfl) (by kernel_rfl) (by kernel_rfl) (fun _ _ _ h => h) (by kernel_rfl) (fun W hW => by kernel_rfl) ?_
          refine AnyB.take 10 (.int .i64 ((k : Int) + 1)) rfl (by kernel_rfl) (by kernel_rfl) (by kernel_rfl) (fun _ _ _ h => h) (by kernel_rfl) (fun W hW => y_bin (x := .int .i64 (k : Int)) (y := .int .i64 1) rfl (by kernel_rfl) (by kernel_rfl) rfl (A1.out W)) ?_
          refine AnyB.take 11 (.string ⟨(nameOf p).toArray⟩) rfl (by kernel_rfl) (by kernel_rfl) (by kernel_rfl) (fun _ _ _ h => h) (by kernel_rfl) (fun W hW => y_slice rfl (by kernel_rfl) (by kernel_rfl) rfl rfl (S1.out W)) ?_
          refine AnyB.call 12 58 #[.string ⟨(nameOf p).toArray⟩] (by kernel_rfl) rfl (by kernel_rfl) (by kernel_rfl) ?_
          refine (C2.out _).mono ?_
          rintro e w1 ⟨rfl, rfl⟩
          refine ⟨_, rfl, Below.refl _ _, ?_⟩
          refine AnyB.take 13 (.bool (partB (nameOf p))) rfl (by kernel_rfl) (by kernel_rfl) (by kernel_rfl) (fun _ _ _ h => h) (by kernel_rfl) (fun W hW => by kernel_rfl) ?_
          refine AnyB.take 14 (.string ⟨(dirOf p).toArray⟩) rfl (by kernel_rfl) (by kernel_rfl) (by kernel_rfl) (fun _ _ _ h => h) (by kernel_rfl) (fun W hW => by kernel_rfl) ?_
          refine AnyB.take 15 (.bool (partB (nameOf p))) rfl (by kernel_rfl) (by kernel_rfl) (by kernel_rfl) (fun _ _ _ h => h) (by kernel_rfl) (fun W hW => by kernel_rfl) ?_
          refine AnyB.done _ (by kernel_rfl) ?_
          go_simp
          go_wp2
          go_ret2
          exact ⟨dir_end Er.out (b := partB (nameOf p)) (by rw [Ep.out, HP.out]; exact Bool.true_and _), (Below.refl _ _).drew⟩
        | false =>
          rw [hP] at c1
          have C1 := Lib.hid c1; have HP := Lib.hid hP
          clear c1 c2 hP
          go_wp2_with fail
          refine AnyB.start (by kernel_rfl) ?_
          refine AnyB.take 0 (.string ⟨p.toArray⟩) rfl (by kernel_rfl) (by kernel_rfl) (by kernel_rfl) (fun _ _ _ h => h) (by kernel_rfl) (fun W hW => by kernel_rfl) ?_
          refine AnyB.take 1 (.int .i64 (k : Int)) rfl (by kernel_rfl) (by kernel_rfl) (by kernel_rfl) (fun _ _ _ h => h) (by kernel_rfl) (fun W hW => by kernel_rfl) ?_
          refine AnyB.take 3 (.string ⟨p.toArray⟩) rfl (by kernel_rfl) (by kernel_rfl) (by kernel_rfl) (fun _ _ _ h => h) (by kernel_rfl) (fun W hW => by kernel_rfl) ?_
          refine AnyB.take 4 (.int .i64 (k : Int)) rfl (by kernel_rfl) (by kernel_rfl) (by kernel_rfl) (fun _ _ _ h => h) (by kernel_rfl) (fun W hW => by kernel_rfl) ?_
          refine AnyB.take 2 (.string ⟨(dirOf p).toArray⟩) rfl (by kernel_rfl) (by kernel_rfl) (by kernel_rfl) (fun _ _ _ h => h) (by kernel_rfl) (fun W hW => y_slice rfl (by kernel_rfl) rfl (by kernel_rfl) rfl (S0.out W)) ?_
          refine AnyB.take 5 (.string ⟨(dirOf p).toArray⟩) rfl (by kernel_rfl) (by kernel_rfl) (by kernel_rfl) (fun _ _ _ h => h) (by kernel_rfl) (fun W hW => y_slice rfl (by kernel_rfl) rfl (by kernel_rfl) rfl (S0.out W)) ?_
          refine AnyB.call 6 58 #[.string ⟨(dirOf p).toArray⟩] (by kernel_rfl) rfl (by kernel_rfl) (by kernel_rfl) ?_
          refine (C1.out _).mono ?_
          rintro e w1 ⟨rfl, rfl⟩
          refine ⟨_, rfl, Below.refl _ _, ?_⟩
          refine AnyB.take 7 (.bool false) rfl (by kernel_rfl) (by kernel_rfl) (by kernel_rfl) (fun _ _ _ h => h) (by kernel_rfl) (fun W hW => by kernel_rfl) ?_
          refine AnyB.skip 8 rfl (by kernel_rfl) (by kernel_rfl) (by kernel_rfl) (fun _ _ _ h => h) (by kernel_rfl) ?_
          refine AnyB.skip 9 rfl (by kernel_rfl) (by kernel_rfl) (by kernel_rfl) (fun _ _ _ h => h) (by kernel_rfl) ?_
          refine AnyB.skip 10 rfl (by kernel_rfl) (by kernel_rfl) (by kernel_rfl) (fun _ _ _ h => h) (by kernel_rfl) ?_
          refine AnyB.skip 11 rfl (by kernel_rfl) (by kernel_rfl) (by kernel_rfl) (fun _ _ _ h => h) (by kernel_rfl) ?_
          refine AnyB.skip 12 rfl (by kernel_rfl) (by kernel_rfl) (by kernel_rfl) (fun _ _ _ h => h) (by kernel_rfl) ?_
          refine AnyB.take 13 (.bool false) rfl (by kernel_rfl) (by kernel_rfl) (by kernel_rfl) (fun _ _ _ h => h) (by kernel_rfl) (fun W hW => by kernel_rfl) ?_
          refine AnyB.take 14 (.string ⟨(dirOf p).toArray⟩) rfl (by kernel_rfl) (by kernel_rfl) (by kernel_rfl) (fun _ _ _ h => h) (by kernel_rfl) (fun W hW => by kernel_rfl) ?_
          refine AnyB.take 15 (.bool false) rfl (by kernel_rfl) (by kernel_rfl) (by kernel_rfl) (fun _ _ _ h => h) (by kernel_rfl) (fun W hW => by kernel_rfl) ?_
          refine AnyB.done _ (by kernel_rfl) ?_
          go_simp
          go_wp2
          go_ret2
          exact ⟨dir_end Er.out (b := false) (by rw [Ep.out, HP.out]; exact Bool.false_and _), (Below.refl _ _).drew⟩
      · have h48 : ((p[k].toNat : Int) == 47) = false := by simpa using h47
        have hno' : (p.take (k + 1)).contains 47 = false := by
          rw [List.take_succ_eq_append_getElem hlt]
          have hne : ¬ p[k] = 47 := fun e => h47 (by rw [e]; rfl)
          have h1 := Hno.out
          simp only [List.contains_eq_mem, decide_eq_false_iff_not] at h1 ⊢
          intro hm
          rcases List.mem_append.1 hm with h | h
          · exact h1 h
          · exact hne (by simpa using (List.mem_singleton.1 h).symm)
        have Hn2 := Lib.hid hno'
        clear h47 hno'
        go_wp2
        go_round
        case rel => exact ⟨k + 1, by omega, by go_num, Hn2.out⟩
        case measure => simp [intOf]; omega
    · rw [List.take_of_length_le (by omega)] at hno
      have er : refDir p = [] := by unfold refDir; rw [if_neg (by rw [hno]; simp)]
      have ep : pathB p = false := by unfold pathB; rw [hno]; rfl
      have Er := Lib.hid er; have Ep := Lib.hid ep
      clear er ep hno
      go_wp2
      go_ret2
      exact ⟨by rw [Er.out, Ep.out]; rfl, Below.refl _ _⟩

set_option maxHeartbeats 400000 in
theorem Path_any (p : By) (w : World) (hs : p.length ≤ lim) : Calls Tryz.prog 40 #[S p] w fun e w' => e = .returned (.bool (pathB p)) ∧ Below w.heap.size w w' := by
  have H := Lib.hid (Dir_any p w hs)
  unfold S DirRPost at H
  unfold S
  generalize pathB p = b at H ⊢
  go_enter Tryz.func40, Tryz.ntmps40
  go_wp2_with fail
  refine H.out.mono ?_
  rintro e w1 ⟨rfl, h1⟩
  go_wp2
  go_ret
  exact ⟨rfl, h1⟩
end Go.Proofs.YtccloieikkdcoaaGreatDoor
