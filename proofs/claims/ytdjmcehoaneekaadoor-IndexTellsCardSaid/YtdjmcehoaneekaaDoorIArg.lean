/-
  Slices of texts, made, cut and joined.
-/
import Derived.Test.YtdjmcehoaneekaaDoorIFinds
namespace Go.Proofs.YtdjmcehoaneekaaDoor.Ix
open Go.Proofs.YtdjmcehoaneekaaDoor
open Go Go.RowKit

section
variable {P : Program} {a : Go.Act} {o : Oper} {W : World}
theorem y_build {t : TypeId} {n : Nat} {parts : Array (Nat × Operand)} {ps : Array (Nat × Value)} {r : Value} {W' : World} (ho : o.op = .buildSlice t n parts) (hp : (parts.map fun (i, x) => (i, a.eval x)) = ps) (h : (Instr.buildSlice t n ps).run P W = .ok r W') : (execOp a.eval o).run P W = .ok (.value r) W' := by
  subst hp
  simp only [execOp, ho]
  simp [h, Result.andThen]
end
theorem add_n (g o j : Nat) : (⟨g, o, none⟩ : Addr).add j = ⟨g, o + j, none⟩ := by unfold Addr.add; split <;> simp_all
theorem sbuild0 (W : World) : (Instr.buildSlice 22 0 #[]).run Tryd.prog W = .ok (.slice (some ⟨W.heap.size, 0, none⟩) 0 0) (W.alloc (.cells #[] 9)) := by
  simp [go_sem]
theorem sbuild1 (W : World) (x : Bs) : (Instr.buildSlice 22 1 #[(0, .string ⟨x.toArray⟩)]).run Tryd.prog W = .ok (.slice (some ⟨W.heap.size, 0, none⟩) 1 1) (W.alloc (.cells #[.string ⟨x.toArray⟩] 9)) := by
  simp [go_sem]
theorem scut_lo (W : World) (g o n c k : Nat) (hk : k ≤ c) (hc : 0 < c) : (Instr.sliceAt 22 (.slice (some ⟨g, o, none⟩) n c) none (some (.int .i64 (k : Int))) none).run Tryd.prog W = .ok (.slice (some ⟨g, o, none⟩) k c) W := by
  have h1 : (k : Int) ≤ (c : Int) := by omega
  have h2 : ¬ c = 0 := by omega
  simp [go_sem, h1, h2]
theorem scut_hi (W : World) (g o n c k : Nat) (hk : k ≤ n) (hc : k < c) : (Instr.sliceAt 22 (.slice (some ⟨g, o, none⟩) n c) (some (.int .i64 (k : Int))) none none).run Tryd.prog W = .ok (.slice (some ⟨g, o + k, none⟩) (n - k) (c - k)) W := by
  have h1 : (k : Int) ≤ (n : Int) := by omega
  have h2 : ¬ c = k := by omega
  simp [go_sem, h1, h2]
/-- The cells of a slice's first part, and of the rest. -/
theorem str_take {w : World} {g o n c : Nat} {l : List Bs} (h : StrsR w (.slice (some ⟨g, o, none⟩) n c) l) (hn : n = l.length) (h0 : 0 < n) (k : Nat) (hk : k ≤ n) (j : Nat) (u : Value) (hj : ((l.take k).flatMap strC)[j]? = some u) : w.cell? ((⟨g, o, none⟩ : Addr).add j) = some u := by
  rw [add_n]; exact RdK.take' h hn h0 k hk j u hj (fun _ => rfl) (by decide)
theorem str_drop {w : World} {g o n c : Nat} {l : List Bs} (h : StrsR w (.slice (some ⟨g, o, none⟩) n c) l) (hn : n = l.length) (h0 : 0 < n) (k : Nat) (hk : k ≤ n) (j : Nat) (u : Value) (hj : ((l.drop k).flatMap strC)[j]? = some u) : w.cell? ((⟨g, o + k, none⟩ : Addr).add j) = some u := by
  rw [add_n]; have := RdK.drop' h hn h0 k hk j u hj (fun _ => rfl) (by decide); rwa [Nat.mul_one] at this
theorem below_alloc (w : World) (o : Obj) : Below w.heap.size w (w.alloc o) := (Below.refl _ w).alloc (Nat.le_refl _) o
theorem eqn (n : Nat) : ((n : Int) == (n : Int)) = true := by simp
end Go.Proofs.YtdjmcehoaneekaaDoor.Ix
