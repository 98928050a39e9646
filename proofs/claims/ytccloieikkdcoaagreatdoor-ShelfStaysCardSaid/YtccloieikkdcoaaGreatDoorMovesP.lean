/-
  ShelfMoves: its walk.
-/
import Derived.Test.YtccloieikkdcoaaGreatDoorRead
import Derived.Test.YtccloieikkdcoaaGreatDoorRefusedP
namespace Go.Proofs.YtccloieikkdcoaaGreatDoor
open Go Go.RowKit Go.Maps Go.Shelf Go.Deep

theorem refDir_path {p : By} (h : pathB p = true) : refDir p = dirOf p := by
  unfold pathB at h
  unfold refDir
  simp only [Bool.and_eq_true] at h
  rw [if_pos h.1.1]
theorem there_zero {p : By} {t : Tb} (h : thereErr p t = 0) : pathB p = true ∧ ∃ b, tget p t = some b := by
  unfold thereErr at h
  split at h
  · cases h
  · rename_i hp
    split at h
    · cases h
    · rename_i hb
      exact ⟨by simpa using hp, Option.ne_none_iff_exists'.1 hb⟩
theorem rename_zero {p q : By} {t : Tb} : renameErr p q t = 0 ↔ thereErr p t = 0 ∧ pathB q = true ∧ (refDir p == refDir q) = true := by
  constructor
  · intro h
    unfold renameErr at h
    split at h
    · cases h
    · rename_i hq
      split at h
      · cases h
      · rename_i hp
        split at h
        · cases h
        · rename_i hd
          split at h
          · cases h
          · rename_i hb
            have hq : pathB q = true := by simpa using hq
            have hp' : pathB p = true := by simpa using hp
            refine ⟨?_, hq, ?_⟩
            · unfold thereErr; rw [if_neg hp, if_neg hb]
            · rw [refDir_path hp', refDir_path hq]; simpa using hd
  · rintro ⟨h1, h2, h3⟩
    obtain ⟨hp, b, hb⟩ := there_zero h1
    rw [refDir_path hp, refDir_path h2] at h3
    unfold renameErr
    rw [if_neg (by rw [h2]; decide), if_neg (by rw [hp]; decide), if_neg (by rw [h3]; decide), if_neg (by rw [hb]; simp)]

/-- What the files are behind a Rename. -/
theorem moved_to {p q b : By} {t : Tb} (h : tget p t = some b) : tget q ((Act.rename p q).play t) = some b := by
  show tget q (match tget p t with | none => t | some b => tput q b (tdel p t)) = some b
  rw [h]
  exact tget_tput_same
theorem moved_from {p q b : By} {t : Tb} (h : tget p t = some b) (hne : p ≠ q) : tget p ((Act.rename p q).play t) = none := by
  show tget p (match tget p t with | none => t | some b => tput q b (tdel p t)) = none
  rw [h]
  show tget p (tput q b (tdel p t)) = none
  rw [tget_tput_other hne]
  exact tget_tdel_same
theorem moved_other {p q r b : By} {t : Tb} (h : tget p t = some b) (hp : r ≠ p) (hq : r ≠ q) : tget r ((Act.rename p q).play t) = tget r t := by
  show tget r (match tget p t with | none => t | some b => tput q b (tdel p t)) = tget r t
  rw [h]
  show tget r (tput q b (tdel p t)) = tget r t
  rw [tget_tput_other hq, tget_tdel_other hp]

theorem i_files (W : World) (b o n c k : Nat) (h : k < n) : (Instr.indexAt 22 (.slice (some ⟨b, o, none⟩) n c) (.int .i64 (k : Int))).run Tryz.prog W = .ok (.pointer (some ⟨b, o + k * 2, none⟩)) W := by
  have h1 : (0 : Int) ≤ (k : Int) := by omega
  have h2 : (k : Int) < (n : Int) := by omega
  simp [go_sem, h1, h2, Tryz.underlying22]
theorem f_path (W : World) (b o : Nat) : (Instr.fieldAt 56 (.pointer (some ⟨b, o, none⟩)) 0).run Tryz.prog W = .ok (.pointer (some ⟨b, o, none⟩)) W := by
  simp [go_sem]
theorem f_data (W : World) (b o : Nat) : (Instr.fieldAt 56 (.pointer (some ⟨b, o, none⟩)) 1).run Tryz.prog W = .ok (.pointer (some ⟨b, o + 1, none⟩)) W := by
  simp [go_sem]
theorem l_str (W : World) (b o : Nat) (s : ByteArray) (h : W.cell? ⟨b, o, none⟩ = some (.string s)) : (Instr.loadAt 9 (.pointer (some ⟨b, o, none⟩))).run Tryz.prog W = .ok (.string s) W := by
  go_simp
theorem l_bytes (W : World) (b o : Nat) (x : Option Addr) (n c : Nat) (h : W.cell? ⟨b, o, none⟩ = some (.slice x n c)) : (Instr.loadAt 31 (.pointer (some ⟨b, o, none⟩))).run Tryz.prog W = .ok (.slice x n c) W := by
  go_simp
theorem n_str (W : World) (x y : By) (b : Bool) (h : (x != y) = b) : (binOp .neq 9 (.string ⟨x.toArray⟩) (.string ⟨y.toArray⟩)).run Tryz.prog W = .ok (.bool b) W := by
  subst h
  simp [go_sem, bne]
theorem g_str (W : World) (x y : By) (s t : Operand) : (eqGuard .neq 9 s t (.string ⟨x.toArray⟩) (.string ⟨y.toArray⟩)).run Tryz.prog W = .ok () W := by
  simp [go_sem]
theorem lt_zero (W : World) (m : Nat) : (binOp .lss 3 (.int .i64 (m : Int)) (.int .i64 0)).run Tryz.prog W = .ok (.bool false) W := by
  have h : decide ((m : Int) < 0) = false := by simp
  simp [go_sem, h]
end Go.Proofs.YtccloieikkdcoaaGreatDoor
