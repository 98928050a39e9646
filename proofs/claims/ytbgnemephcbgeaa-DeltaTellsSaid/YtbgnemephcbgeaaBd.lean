/-
  strings.Builder in this program.
-/
import Derived.Test.YtbgnemephcbgeaaLg
import Derived.Shelf.Strings.Builder2
import Derived.Shelf.Strings.BuilderK
namespace Go.Proofs.Ytbgnemephcbgeaa
open Go Go.RowKit Go.Shelf

def bA_ren : Go.Shelf.Ren := ⟨fun | 165 => 28 | 169 => 31 | 240 => 41 | 241 => 42 | 276 => 51 | 277 => 52 | n => n, fun | 0 => 0 | 3 => 3 | 4 => 4 | 9 => 9 | 20 => 20 | 37 => 29 | 70 => 55 | 72 => 57 | 127 => 79 | 164 => 98 | 5 => 5 | n => n, fun | n => n⟩
theorem bgrA : Go.Proofs.Lays.n165 Try.prog bA_ren := {
  mixed := by kernel_rfl
  f165 := Try.func28.trans (congrArg some (by kernel_rfl))
  f240 := Try.func41.trans (congrArg some (by kernel_rfl))
  f241 := Try.func42.trans (congrArg some (by kernel_rfl))
  f276 := Try.func51.trans (congrArg some (by kernel_rfl))
  f277 := Try.func52.trans (congrArg some (by kernel_rfl))
  t0 := Try.underlying0
  a0 := Try.isAgg0
  z0 := Try.sizeOf0
  v0 := Try.zeroValue0
  t3 := Try.underlying3
  a3 := Try.isAgg3
  z3 := Try.sizeOf3
  v3 := Try.zeroValue3
  t4 := Try.underlying4
  a4 := Try.isAgg4
  z4 := Try.sizeOf4
  v4 := Try.zeroValue4
  t9 := Try.underlying9
  a9 := Try.isAgg9
  z9 := Try.sizeOf9
  v9 := Try.zeroValue9
  t20 := Try.underlying20
  a20 := Try.isAgg20
  z20 := Try.sizeOf20
  v20 := Try.zeroValue20
  t37 := Try.underlying29
  a37 := Try.isAgg29
  z37 := Try.sizeOf29
  v37 := Try.zeroValue29
  t70 := Try.underlying55
  a70 := Try.isAgg55
  z70 := Try.sizeOf55
  v70 := Try.zeroValue55
  t72 := Try.underlying57
  a72 := Try.isAgg57
  z72 := Try.sizeOf57
  v72 := Try.zeroValue57
  t164 := Try.underlying98
  a164 := Try.isAgg98
  z164 := Try.sizeOf98
  v164 := Try.zeroValue98 }
theorem bstrA : Go.Proofs.Lays.n169 Try.prog bA_ren := {
  mixed := by kernel_rfl
  f169 := Try.func31.trans (congrArg some (by kernel_rfl))
  t0 := Try.underlying0
  a0 := Try.isAgg0
  z0 := Try.sizeOf0
  v0 := Try.zeroValue0
  t3 := Try.underlying3
  a3 := Try.isAgg3
  z3 := Try.sizeOf3
  v3 := Try.zeroValue3
  t9 := Try.underlying9
  a9 := Try.isAgg9
  z9 := Try.sizeOf9
  v9 := Try.zeroValue9
  t37 := Try.underlying29
  a37 := Try.isAgg29
  z37 := Try.sizeOf29
  v37 := Try.zeroValue29
  t70 := Try.underlying55
  a70 := Try.isAgg55
  z70 := Try.sizeOf55
  v70 := Try.zeroValue55
  t72 := Try.underlying57
  a72 := Try.isAgg57
  z72 := Try.sizeOf57
  v72 := Try.zeroValue57
  t127 := Try.underlying79
  a127 := Try.isAgg79
  z127 := Try.sizeOf79
  v127 := Try.zeroValue79 }
theorem bX : Go.Proofs.Builder.Extra Try.prog bA_ren := {
  sizeBuilder := by kernel_rfl
  liesBuilder := by kernel_rfl
  t5 := Try.underlying5
  a5 := Try.isAgg5
  z5 := Try.sizeOf5
  v5 := Try.zeroValue5
  infoByte := by kernel_rfl
  cellsByte := by kernel_rfl
  sizeByte := by kernel_rfl
  neB5 := by decide }

/-- A builder that has been written: some bytes. -/
def Bd (w : World) (B b : Nat) (l : Bs) : Prop := B ≤ b ∧ ∃ v, w.heap[b]? = some (.cells #[.pointer (some ⟨b, 0, none⟩), v] 57 (0, 0)) ∧ Ow w B v l ∧ v.ownBlock ≠ some b
theorem bgrow_any (n b : Nat) (w : World) (hk : w.heap[b]? = some (.cells #[.pointer none, .slice none 0 0] 57 (0, 0))) (hn : n ≤ 281474976710656) :
    Calls Try.prog 28 #[.pointer (some ⟨b, 0, none⟩), .int .i64 (n : Int)] w fun e w' => e = .returned (.tuple #[]) ∧ Bd w' b b [] ∧ Below b w w' := by
  refine (Any.Builder_Grow_fresh bgrA bX b b n w (Nat.le_refl _) hk (Nat.le_of_lt (lt_heap hk)) hn).mono ?_
  rintro e w' ⟨rfl, ⟨h1, v, h2, h3, h4⟩, h5⟩
  exact ⟨rfl, ⟨h1, v, h2, h3, h4⟩, h5⟩
theorem bstring_any (b B : Nat) (l : Bs) (w : World) (h : Bd w B b l) (hB : B ≤ w.heap.size) : Calls Try.prog 31 #[.pointer (some ⟨b, 0, none⟩)] w fun e w' => e = .returned (.string ⟨l.toArray⟩) ∧ Below B w w' ∧ Lib.OthersKept 5 (some b) w w' := by
  obtain ⟨h1, v, h2, h3, h4⟩ := h
  have hbc : Lib.byteCells l = l.map bv := rfl
  refine (Any.Builder_String_any_k bstrA bX B b l w (Lib.IsBuilderF.of (.inr ⟨h1, v, h2, ?_, h4⟩)) hB).mono ?_
  · rw [hbc, List.length_map]
    exact h3
  · rintro e w' ⟨h1, _, h2, h3⟩
    exact ⟨h1, h2, h3⟩

set_option maxHeartbeats 1000000 in
set_option maxRecDepth 100000 in
theorem copyCheck_any (b : Nat) (w : World) (h0 : w.cell? ⟨b, 0, none⟩ = some (.pointer (some ⟨b, 0, none⟩))) : Calls Try.prog 41 #[.pointer (some ⟨b, 0, none⟩)] w fun e w' => e = .returned (.tuple #[]) ∧ w = w' :=
  (Any.Builder_copyCheck_used { bgrA with } bX.toX72 b w h0).mono fun _ _ h => ⟨h.1, h.2.symm⟩
set_option maxHeartbeats 1000000 in
set_option maxRecDepth 100000 in
theorem write_any (b B : Nat) (l s : Bs) (w : World) (h : Bd w B b l) (hl : l.length + s.length ≤ 140737488355328) :
    Calls Try.prog 30 #[.pointer (some ⟨b, 0, none⟩), .string ⟨s.toArray⟩] w fun e w' => (∃ v, e = .returned v) ∧ Bd w' B b (l ++ s) ∧ ∀ v, w.heap[b]? = some (.cells #[.pointer (some ⟨b, 0, none⟩), v] 57 (0, 0)) →
      But (fun k => k = b ∨ v.ownBlock = some k) w w' ∧ ∀ v', w'.heap[b]? = some (.cells #[.pointer (some ⟨b, 0, none⟩), v'] 57 (0, 0)) → ∀ k, v'.ownBlock = some k → v.ownBlock = some k ∨ w.heap.size ≤ k := by
  obtain ⟨h1, v, h2, h3, h4⟩ := h
  obtain ⟨Av, cv, rfl, _⟩ := h3.rb.shape
  obtain ⟨v2, w2, hr, ho, hf⟩ := run_apps' h3 s hl (by have := lt_heap h2; omega) 29
  obtain ⟨A2, c2, rfl, _⟩ := ho.rb.shape
  have k2 := (hf.1.block b (lt_heap h2) h4).trans h2
  have c0 : w.cell? ⟨b, 0, none⟩ = some (.pointer (some ⟨b, 0, none⟩)) := (cell_of_row _ _ 0 _ _ _ h2).trans rfl
  have c1 : w.cell? ⟨b, 1, none⟩ = some (.slice Av l.length cv) := (cell_of_row _ _ 1 _ _ _ h2).trans rfl
  have d1 : w2.cell? ⟨b, 1, none⟩ = some (.slice Av l.length cv) := (cell_of_row _ _ 1 _ _ _ k2).trans rfl
  have f1 := frozen_of (i := 1) k2
  have hn2 : ∀ k, (Value.slice A2 (l ++ s).length c2).ownBlock = some k → k ≠ b := fun k hk e => by
    rcases hf.2 k hk with h | h
    · rw [e] at h; exact h4 h
    · have := lt_heap h2; omega
  have HC := Lib.hid (copyCheck_any b w c0)
  have HR := Lib.hid hr
  have HF : Hid (Bd (w2.setCell ⟨b, 1, none⟩ (.slice A2 (l ++ s).length c2)) B b (l ++ s) ∧ ∀ v, w.heap[b]? = some (.cells #[.pointer (some ⟨b, 0, none⟩), v] 57 (0, 0)) →
      But (fun k => k = b ∨ v.ownBlock = some k) w (w2.setCell ⟨b, 1, none⟩ (.slice A2 (l ++ s).length c2)) ∧ ∀ v', (w2.setCell ⟨b, 1, none⟩ (.slice A2 (l ++ s).length c2)).heap[b]? = some (.cells #[.pointer (some ⟨b, 0, none⟩), v'] 57 (0, 0)) → ∀ k, v'.ownBlock = some k → v.ownBlock = some k ∨ w.heap.size ≤ k) := Lib.hid (by
    have k3 := blk_setCell (i := 1) k2 (.slice A2 (l ++ s).length c2)
    have e3 : (#[Value.pointer (some ⟨b, 0, none⟩), .slice Av l.length cv] : Array Value).setIfInBounds 1 (.slice A2 (l ++ s).length c2) = #[.pointer (some ⟨b, 0, none⟩), .slice A2 (l ++ s).length c2] := rfl
    rw [e3] at k3
    refine ⟨⟨h1, _, k3, row_but ho (but_setCell w2 b 1 _) hn2, fun h => hn2 b h rfl⟩, fun v hv => ?_⟩
    rw [h2] at hv
    injection hv with hv; injection hv with hv; injection hv with hv; injection hv with _ hv; injection hv with hv _
    subst hv
    refine ⟨(hf.1.mono fun k _ hk => .inr hk).trans ((but_setCell w2 b 1 _).mono fun k _ hk => .inl hk), fun v' hv' => ?_⟩
    rw [k3] at hv'
    injection hv' with hv; injection hv with hv; injection hv with hv; injection hv with _ hv; injection hv with hv _
    subst hv
    exact hf.2)
  obtain ⟨N2, hN2⟩ : ∃ n, n = (l ++ s).length := ⟨_, rfl⟩
  rw [← hN2] at HF HR
  clear hr ho hf k2 hn2 h1 h2 h3 h4 hN2
  go_enter Try.func30, Try.ntmps30
  go_wp2_with fail
  refine HC.out.mono ?_
  intro e w' hh
  rw [hh.1, ← hh.2]
  clear hh e w' HC
  go_wp2_with (at_builtin; refine Lib.wpList_append_run _ rfl _ _ _ _ rfl _ _ rfl rfl _ _ HR.out ?_)
  go_wp2
  go_ret2
  exact ⟨⟨_, rfl⟩, HF.out⟩
end Go.Proofs.Ytbgnemephcbgeaa
