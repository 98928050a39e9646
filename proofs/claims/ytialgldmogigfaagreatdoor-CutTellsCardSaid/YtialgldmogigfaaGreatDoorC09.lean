/-
  readLabel, GetLabel, labelWants.
  wants, Right, Wants.
-/
import Derived.Test.YtialgldmogigfaaGreatDoorC08
import Derived.Test.YtialgldmogigfaaGreatDoorC07

namespace Go.Proofs.YtialgldmogigfaaGreatDoor
open Go Go.RowKit Go.Shelf
/-- The blocks that readLabel lays, from N on; what the tag and its kind's word hold may turn. -/
structure LblEnv (w : World) (W : World) (di kd nm : List UInt8) : Prop where
  below : Below w.heap.size w W
  r0 : W.heap[w.heap.size]? = some (.cells #[.string ⟨#[]⟩, .int .i64 0, .string ⟨#[]⟩, .string ⟨#[]⟩] 97 (0, 0))
  l : W.heap[w.heap.size + 1]? = some (.cells #[SV di, .int .i64 0, SV nm, .string ⟨#[]⟩] 97 (0, 0))
  k : W.heap[w.heap.size + 2]? = some (.cells #[SV kd] 9 (0, 0))
  b3 : W.heap[w.heap.size + 3]? = some (.cells #[SV wObject] 9 (0, 0))
  b4 : W.heap[w.heap.size + 4]? = some (.cells #[.pointer (some ⟨w.heap.size + 1, 0, none⟩)] 194 (0, 0))
  b5 : W.heap[w.heap.size + 5]? = some (.cells #[SV wKind] 9 (0, 0))
  b6 : W.heap[w.heap.size + 6]? = some (.cells #[.pointer (some ⟨w.heap.size + 2, 0, none⟩)] 194 (0, 0))
  b7 : W.heap[w.heap.size + 7]? = some (.cells #[SV wName] 9 (0, 0))
  b8 : W.heap[w.heap.size + 8]? = some (.cells #[.pointer (some ⟨w.heap.size + 1, 2, none⟩)] 194 (0, 0))
  b9 : W.heap[w.heap.size + 9]? = some (.cells #[.string ⟨#[10]⟩] 9 (0, 0))
  b10 : W.heap[w.heap.size + 10]? = some (.cells #[.func (.func 124) #[] #[.pointer (some ⟨w.heap.size + 3, 0, none⟩), .pointer (some ⟨w.heap.size + 4, 0, none⟩)],
    .func (.func 124) #[] #[.pointer (some ⟨w.heap.size + 5, 0, none⟩), .pointer (some ⟨w.heap.size + 6, 0, none⟩)],
    .func (.func 124) #[] #[.pointer (some ⟨w.heap.size + 7, 0, none⟩), .pointer (some ⟨w.heap.size + 8, 0, none⟩)],
    .func (.func 127) #[] #[.pointer (some ⟨w.heap.size + 9, 0, none⟩)]] 192 (0, 0))
section
variable {w W W' : World} {di kd nm : List UInt8}
theorem LblEnv.turnL (h : LblEnv w W di kd nm) (hg : W.grownBy W' (some (w.heap.size + 1))) {di' nm' : List UInt8} (hc : W'.heap[w.heap.size + 1]? = some (.cells #[SV di', .int .i64 0, SV nm', .string ⟨#[]⟩] 97 (0, 0))) : LblEnv w W' di' kd nm' := by
  have k : ∀ j, j ≠ 1 → ∀ o, W.heap[w.heap.size + j]? = some o → W'.heap[w.heap.size + j]? = some o := fun j hj o ho => (hg.block _ (lt_heap ho) (fun e => hj (by simp at e; omega))).trans ho
  exact ⟨h.below.grown hg h.below.size (fun k e => by cases e; omega), k 0 (by omega) _ h.r0, hc, k 2 (by omega) _ h.k, k 3 (by omega) _ h.b3, k 4 (by omega) _ h.b4, k 5 (by omega) _ h.b5, k 6 (by omega) _ h.b6, k 7 (by omega) _ h.b7, k 8 (by omega) _ h.b8, k 9 (by omega) _ h.b9, k 10 (by omega) _ h.b10⟩
theorem LblEnv.turnK (h : LblEnv w W di kd nm) (hg : W.grownBy W' (some (w.heap.size + 2))) {kd' : List UInt8} (hc : W'.heap[w.heap.size + 2]? = some (.cells #[SV kd'] 9 (0, 0))) : LblEnv w W' di kd' nm := by
  have k : ∀ j, j ≠ 2 → ∀ o, W.heap[w.heap.size + j]? = some o → W'.heap[w.heap.size + j]? = some o := fun j hj o ho => (hg.block _ (lt_heap ho) (fun e => hj (by simp at e; omega))).trans ho
  exact ⟨h.below.grown hg h.below.size (fun k e => by cases e; omega), k 0 (by omega) _ h.r0, k 1 (by omega) _ h.l, hc, k 3 (by omega) _ h.b3, k 4 (by omega) _ h.b4, k 5 (by omega) _ h.b5, k 6 (by omega) _ h.b6, k 7 (by omega) _ h.b7, k 8 (by omega) _ h.b8, k 9 (by omega) _ h.b9, k 10 (by omega) _ h.b10⟩
end
def lblRel (s0 : List UInt8) : Nat → List UInt8 → List UInt8 → List UInt8 → List UInt8 → Prop
  | 0, s, _, _, _ => s = s0
  | 1, s, di, _, _ => lineP wObject s0 = some (di, s)
  | 2, s, di, kd, _ => ∃ r1, lineP wObject s0 = some (di, r1) ∧ lineP wKind r1 = some (kd, s)
  | 3, s, di, kd, nm => ∃ r1 r2, lineP wObject s0 = some (di, r1) ∧ lineP wKind r1 = some (kd, r2) ∧ lineP wName r2 = some (nm, s)
  | _, s, di, kd, nm => rawL s0 = some ⟨di, kindOfW kd, nm, s⟩
def lblP (w : World) (s0 : List UInt8) (i : Nat) (s : List UInt8) (W : World) : Prop := s.length ≤ 100000 ∧ ∃ di kd nm, LblEnv w W di kd nm ∧ lblRel s0 i s di kd nm
def lblF (w : World) (s0 : List UInt8) (_ : Value) (W : World) : Prop := rawL s0 = none ∧ Below w.heap.size w W ∧ W.heap[w.heap.size]? = some (.cells #[.string ⟨#[]⟩, .int .i64 0, .string ⟨#[]⟩, .string ⟨#[]⟩] 97 (0, 0))
def lblG : Nat → FuncId
  | 0 => 124
  | 1 => 124
  | 2 => 124
  | _ => 127
def lblL (N : Nat) : Nat → Array Value
  | 0 => #[.pointer (some ⟨N + 3, 0, none⟩), .pointer (some ⟨N + 4, 0, none⟩)]
  | 1 => #[.pointer (some ⟨N + 5, 0, none⟩), .pointer (some ⟨N + 6, 0, none⟩)]
  | 2 => #[.pointer (some ⟨N + 7, 0, none⟩), .pointer (some ⟨N + 8, 0, none⟩)]
  | _ => #[.pointer (some ⟨N + 9, 0, none⟩)]
theorem lbl_step (w : World) (he : Er w) (s0 : List UInt8) : ∀ i s W, i < 4 → lblP w s0 i s W → Calls Tryz.prog (lblG i) (#[.string ⟨s.toArray⟩] ++ lblL w.heap.size i) W (StepPost (lblP w s0 (i + 1)) (lblF w s0)) := by
  have hgl : 1 < w.heap.size := by
    obtain ⟨a, h⟩ := he.wrong; exact World.block_lt_of_cell? w _ h
  intro i s W hi hP
  obtain ⟨hs, di, kd, nm, E, R⟩ := hP
  have heW := he.below E.below
  match i, hi, R with
  | 0, _, R =>
    have e0 : s = s0 := R
    subst e0
    refine (line_any s wObject (by omega) W heW (w.heap.size + 3) (w.heap.size + 4) (w.heap.size + 1) 0 _ (cell_of_blk' E.b3 rfl) (cell_of_blk' E.b4 rfl) (cell_of_blk' E.l rfl) (frozen_of_blk' E.l) (by omega) (by omega) (by omega)).mono ?_
    rintro e w' (⟨q, rfl, a, h1, h2⟩ | ⟨x, p, rfl, h1, h2, _⟩)
    · exact .inl ⟨q, rfl, by have := lineP_len h1; omega, a, _, _, E.turnL h2.1 (by have := h2.2 _ _ E.l; simpa using this), h1⟩
    · refine .inr ⟨_, p, rfl, by unfold rawL; rw [h1], E.below.grown h2 E.below.size (fun k e => by cases e; omega), (h2.block _ (lt_heap E.r0) (fun e => by simp at e)).trans E.r0⟩
  | 1, _, R =>
    have e0 : lineP wObject s0 = some (di, s) := R
    refine (line_any s wKind (by omega) W heW (w.heap.size + 5) (w.heap.size + 6) (w.heap.size + 2) 0 _ (cell_of_blk' E.b5 rfl) (cell_of_blk' E.b6 rfl) (cell_of_blk' E.k rfl) (frozen_of_blk' E.k) (by omega) (by omega) (by omega)).mono ?_
    rintro e w' (⟨q, rfl, a, h1, h2⟩ | ⟨x, p, rfl, h1, h2, _⟩)
    · exact .inl ⟨q, rfl, by have := lineP_len h1; omega, _, a, _, E.turnK h2.1 (by have := h2.2 _ _ E.k; simpa using this), s, e0, h1⟩
    · refine .inr ⟨_, p, rfl, by unfold rawL; rw [e0]; simp only; rw [h1], E.below.grown h2 E.below.size (fun k e => by cases e; omega), (h2.block _ (lt_heap E.r0) (fun e => by simp at e)).trans E.r0⟩
  | 2, _, R =>
    obtain ⟨r1, e0, e1⟩ := R
    refine (line_any s wName (by omega) W heW (w.heap.size + 7) (w.heap.size + 8) (w.heap.size + 1) 2 _ (cell_of_blk' E.b7 rfl) (cell_of_blk' E.b8 rfl) (cell_of_blk' E.l rfl) (frozen_of_blk' E.l) (by omega) (by omega) (by omega)).mono ?_
    rintro e w' (⟨q, rfl, a, h1, h2⟩ | ⟨x, p, rfl, h1, h2, _⟩)
    · exact .inl ⟨q, rfl, by have := lineP_len h1; omega, _, _, a, E.turnL h2.1 (by have := h2.2 _ _ E.l; simpa using this), r1, s, e0, e1, h1⟩
    · refine .inr ⟨_, p, rfl, by unfold rawL; rw [e0]; simp only; rw [e1]; simp only; rw [h1], E.below.grown h2 E.below.size (fun k e => by cases e; omega), (h2.block _ (lt_heap E.r0) (fun e => by simp at e)).trans E.r0⟩
  | 3, _, R =>
    obtain ⟨r1, r2, e0, e1, e2⟩ := R
    have er : rawL s0 = (tailP s).map fun x => ⟨di, kindOfW kd, nm, x⟩ := by unfold rawL; rw [e0]; simp only; rw [e1]; simp only; rw [e2]
    by_cases hp : ([10] : List UInt8).isPrefixOf s = true
    · refine (past_yes s [10] (w.heap.size + 9) W (cell_of_blk' E.b9 rfl) heW hp).mono ?_
      rintro e w' ⟨rfl, rfl⟩
      obtain ⟨q, hq⟩ := pre_iff.1 hp
      refine .inl ⟨q, by rw [hq]; rfl, by rw [hq] at hs; simp at hs; omega, di, kd, nm, E, ?_⟩
      show rawL s0 = _
      rw [er, hq]; rfl
    · obtain ⟨a, b, _, _, c3⟩ := heW.two
      refine (past_no s [10] (w.heap.size + 9) W (cell_of_blk' E.b9 rfl) _ c3 (Bool.eq_false_iff.2 hp)).mono ?_
      rintro e w' ⟨rfl, rfl⟩
      refine .inr ⟨_, _, rfl, ?_, E.below.trans ((below_new W _).mono E.below.size), ((below_new W _).block _ (lt_heap E.r0)).trans E.r0⟩
      rw [er]
      cases s with
      | nil => rfl
      | cons b s =>
        rw [tailP, if_neg]
        · rfl
        · intro h; subst h; exact hp (by simp)
end Go.Proofs.YtialgldmogigfaaGreatDoor
namespace Go.Proofs.YtialgldmogigfaaGreatDoor
open Go Go.RowKit Go.Shelf
def noLbl : Lbl := ⟨[], 0, [], []⟩
/-- What readLabel answers. -/
def RlPost (s : List UInt8) (w : World) (e : Ending) (w' : World) : Prop :=
  Below w.heap.size w w' ∧ ∃ l, (getL4 s = some l ∧ e = .returned (.tuple #[LblV l, .nilIface])) ∨ (getL4 s = none ∧ ∃ p, e = .returned (.tuple #[LblV l, .iface 129 (.pointer (some p))]))
theorem rawL_parts {s : List UInt8} {l : Lbl} (h : rawL s = some l) : l.id.length ≤ s.length ∧ l.name.length ≤ s.length ∧ l.text.length ≤ s.length := by
  unfold rawL at h
  cases h1 : lineP wObject s with
  | none => rw [h1] at h; cases h
  | some p =>
    obtain ⟨i, r1⟩ := p
    rw [h1] at h; simp only at h
    cases h2 : lineP wKind r1 with
    | none => rw [h2] at h; cases h
    | some p =>
      obtain ⟨k, r2⟩ := p
      rw [h2] at h; simp only at h
      cases h3 : lineP wName r2 with
      | none => rw [h3] at h; cases h
      | some p =>
        obtain ⟨n, r3⟩ := p
        rw [h3] at h; simp only at h
        obtain ⟨x, h4, rfl⟩ := Option.map_eq_some_iff.1 h
        have e1 := (lineP_some h1).1
        have e2 := (lineP_some h2).1
        have e3 := (lineP_some h3).1
        have e4 := tailP_some h4
        simp only
        rw [e1, e2, e3, e4]
        simp
        omega
set_option maxRecDepth 100000 in
set_option maxHeartbeats 4000000 in
theorem readLabel_any (s : List UInt8) (hs : s.length ≤ 100000) (w : World) (he : Er w) : Calls Tryz.prog 107 #[.string ⟨s.toArray⟩] w (RlPost s w) := by
  have HST := Lib.hid (lbl_step w he s)
  have HS := Lib.hid hs; have HE := Lib.hid he
  clear he hs
  go_enter Tryz.func107, Tryz.ntmps107
  go_wp2_with fail
  refine (line_mk _ _ _).mono ?_
  rintro e w1 ⟨rfl, rfl⟩
  go_wp2_with fail
  refine (line_mk _ _ _).mono ?_
  rintro e w1 ⟨rfl, rfl⟩
  go_wp2_with fail
  refine (line_mk _ _ _).mono ?_
  rintro e w1 ⟨rfl, rfl⟩
  go_wp2_with fail
  refine (past_mk _ _).mono ?_
  rintro e w1 ⟨rfl, rfl⟩
  go_wp2_with fail
  refine (read_gen 4 4 (w.heap.size + 10) (by decide) lblG (lblL w.heap.size) (lblP w s) (lblF w s) ?c1 ?c2 HST.out s _ ?c3).mono ?_
  case c1 =>
    rintro i r W hi ⟨_, di, kd, nm, E, _⟩
    refine cell_of_blk' E.b10 ?_
    match i, hi with
    | 0, _ => rfl
    | 1, _ => rfl
    | 2, _ => rfl
    | 3, _ => rfl
  case c2 =>
    intro i hi
    match i, hi with
    | 0, _ => exact enters_of Tryz.func124 (by kernel_rfl) rfl
    | 1, _ => exact enters_of Tryz.func124 (by kernel_rfl) rfl
    | 2, _ => exact enters_of Tryz.func124 (by kernel_rfl) rfl
    | 3, _ => exact enters_of Tryz.func127 (by kernel_rfl) rfl
  case c3 =>
    refine ⟨HS.out, [], [], [], ⟨?_, ?_, ?_, ?_, ?_, ?_, ?_, ?_, ?_, ?_, ?_, ?_⟩, rfl⟩
    · refine Below.alloc (Below.alloc (Below.alloc (Below.alloc (Below.alloc (Below.alloc (Below.alloc (Below.alloc (Below.alloc (Below.alloc (Below.alloc (Below.refl _ _) ?_ _) ?_ _) ?_ _) ?_ _) ?_ _) ?_ _) ?_ _) ?_ _) ?_ _) ?_ _) ?_ _ <;> first | omega | (simp only [World.size_alloc]; omega)
    all_goals (simp only [alloc_heapL, Array.getElem?_push, Array.size_push, Nat.add_assoc, Nat.reduceAdd]; simp [SV, wObject, wKind, wName])
  rintro e W (⟨r, rfl, hr, di, kd, nm, E, R⟩ | ⟨r, p, rfl, hg, hb, h0⟩)
  · have R2 : rawL s = some ⟨di, kindOfW kd, nm, r⟩ := R
    obtain ⟨p1, p2, p3⟩ := rawL_parts R2
    simp only at p1 p2 p3
    have hss := HS.out
    have hgc : getL4 s = if rightL ⟨di, kindOfW kd, nm, r⟩ then some ⟨di, kindOfW kd, nm, r⟩ else none := by unfold getL4; rw [R2]
    have HG := Lib.hid hgc
    have HKi := Lib.hid (kindOf_any kd W)
    obtain ⟨kv, hkv⟩ : ∃ kv, kv = kindOfW kd := ⟨_, rfl⟩
    rw [← hkv] at HG HKi
    obtain ⟨W1, hW1⟩ : ∃ W1, W1 = (W.setCell ⟨w.heap.size + 1, 1, none⟩ (.int .i64 kv)).setCell ⟨w.heap.size + 1, 3, none⟩ (.string ⟨r.toArray⟩) := ⟨_, rfl⟩
    have hc1 : W1.heap[w.heap.size + 1]? = some (.cells #[SV di, .int .i64 kv, SV nm, SV r] 97 (0, 0)) := by
      rw [hW1]; simp [World.setCell, Array.getElem?_modify, E.l, SV]
    have hr1 : W1.heap[w.heap.size]? = some (.cells #[.string ⟨#[]⟩, .int .i64 0, .string ⟨#[]⟩, .string ⟨#[]⟩] 97 (0, 0)) := by
      rw [hW1]; exact (Below.heap_setCell _ _ _ _ (fun e => by simp at e)).trans ((Below.heap_setCell _ _ _ _ (fun e => by simp at e)).trans E.r0)
    have hb1 : Below w.heap.size w W1 := by rw [hW1]; exact (E.below.setCell (Nat.le_add_right _ 1) _).setCell (Nat.le_add_right _ 1) _
    have xk : W.cell? ⟨w.heap.size + 2, 0, none⟩ = some (.string ⟨kd.toArray⟩) := cell_of_blk' E.k rfl
    have x1 : W.cell? ⟨w.heap.size + 1, 1, none⟩ = some (.int .i64 0) := cell_of_blk' E.l rfl
    have x3 : W.cell? ⟨w.heap.size + 1, 3, none⟩ = some (.string ⟨#[]⟩) := cell_of_blk' E.l rfl
    have z1 : W.frozen? ⟨w.heap.size + 1, 1, none⟩ = false := frozen_of_blk' E.l
    have z3 : W.frozen? ⟨w.heap.size + 1, 3, none⟩ = false := frozen_of_blk' E.l
    have HW1 := Lib.hid hW1
    have HC1 := Lib.hid hc1; have HR1 := Lib.hid hr1; have HB1 := Lib.hid hb1
    have hck := fun W' (hW' : Below W1.heap.size W1 W') => checkLabel_any ⟨di, kv, nm, r⟩ W' ⟨by simp only; omega, by simp only; omega, by simp only; omega⟩ ((HE.out.below hb1).below hW')
    unfold LblV at hck
    simp only at hck
    have HCK := Lib.hid hck
    clear E R R2 hgc hW1 hc1 hr1 hb1 hck hr p1 p2 p3 hss hkv
    have q0 : W1.cell? ⟨w.heap.size + 1, 0, none⟩ = some (.string ⟨di.toArray⟩) := cell_of_blk' HC1.out rfl
    have q1 : W1.cell? ⟨w.heap.size + 1, 1, none⟩ = some (.int .i64 kv) := cell_of_blk' HC1.out rfl
    have q2 : W1.cell? ⟨w.heap.size + 1, 2, none⟩ = some (.string ⟨nm.toArray⟩) := cell_of_blk' HC1.out rfl
    have q3 : W1.cell? ⟨w.heap.size + 1, 3, none⟩ = some (.string ⟨r.toArray⟩) := cell_of_blk' HC1.out rfl
    have hS0 := And.intro q0 (And.intro q1 (And.intro q2 q3))
    have hk : ∀ W', Below W1.heap.size W1 W' → (W'.cell? ⟨w.heap.size + 1, 0, none⟩ = some (.string ⟨di.toArray⟩) ∧ W'.cell? ⟨w.heap.size + 1, 1, none⟩ = some (.int .i64 kv) ∧ W'.cell? ⟨w.heap.size + 1, 2, none⟩ = some (.string ⟨nm.toArray⟩) ∧ W'.cell? ⟨w.heap.size + 1, 3, none⟩ = some (.string ⟨r.toArray⟩)) ∧
        (W'.cell? ⟨w.heap.size, 0, none⟩ = some (.string ⟨#[]⟩) ∧ W'.cell? ⟨w.heap.size, 1, none⟩ = some (.int .i64 0) ∧ W'.cell? ⟨w.heap.size, 2, none⟩ = some (.string ⟨#[]⟩) ∧ W'.cell? ⟨w.heap.size, 3, none⟩ = some (.string ⟨#[]⟩)) ∧
        (W'.frozen? ⟨w.heap.size, 0, none⟩ = false ∧ W'.frozen? ⟨w.heap.size, 1, none⟩ = false ∧ W'.frozen? ⟨w.heap.size, 2, none⟩ = false ∧ W'.frozen? ⟨w.heap.size, 3, none⟩ = false) := fun W' hW' => by
      have hc := (hW'.block _ (lt_heap HC1.out)).trans HC1.out
      have hr := (hW'.block _ (lt_heap HR1.out)).trans HR1.out
      exact ⟨⟨cell_of_blk' hc rfl, cell_of_blk' hc rfl, cell_of_blk' hc rfl, cell_of_blk' hc rfl⟩, ⟨cell_of_blk' hr rfl, cell_of_blk' hr rfl, cell_of_blk' hr rfl, cell_of_blk' hr rfl⟩, ⟨frozen_of_blk' hr, frozen_of_blk' hr, frozen_of_blk' hr, frozen_of_blk' hr⟩⟩
    have HK := Lib.hid hk
    clear hk
    unfold SV at HKi ⊢
    go_wp2_with fail
    refine HKi.out.mono ?_
    rintro e w1 ⟨rfl, rfl⟩
    go_wp2_with fail
    rw [← HW1.out]
    go_wp2_with fail
    go_region_held3 (fun W' => W'.cell? ⟨w.heap.size + 1, 0, none⟩ = some (.string ⟨di.toArray⟩) ∧ W'.cell? ⟨w.heap.size + 1, 1, none⟩ = some (.int .i64 kv) ∧ W'.cell? ⟨w.heap.size + 1, 2, none⟩ = some (.string ⟨nm.toArray⟩) ∧ W'.cell? ⟨w.heap.size + 1, 3, none⟩ = some (.string ⟨r.toArray⟩))
      (first | exact hS0 | assumption | go_keep)
      (first
        | (go_at_call 117; refine (HCK.out W1.drew (Below.refl _ _).drew).mono ?_; intro e w5 h5; have H5 := Lib.hid h5; obtain ⟨ev, rfl⟩ := h5.ret; obtain ⟨hS5, ⟨y0, y1, y2, y3⟩, ⟨z0, z1, z2, z3⟩⟩ := HK.out w5 (bdr h5.2); clear h5)
        | show False)
    obtain ⟨f0, f1, f2, f3⟩ := cells4 w5 w.heap.size (.string ⟨di.toArray⟩) (.int .i64 kv) (.string ⟨nm.toArray⟩) (.string ⟨r.toArray⟩) y0 y1 y2 y3
    go_wp2_with fail
    refine bodyPost_ret (v := .tuple #[LblV ⟨di, kv, nm, r⟩, ev]) (by simp [results, Tryz.results107, go_sem, f0, f1, f2, f3, LblV]) rfl ?_
    have hb5 := bdr H5.out.2
    have hbw := HB1.out.trans (hb5.mono HB1.out.size)
    refine ⟨below_set4 hbw (Nat.le_refl _) _ _ _ _, ⟨di, kv, nm, r⟩, ?_⟩
    rcases H5.out.1 with ⟨h1, h2⟩ | ⟨h1, p, h2⟩
    · cases h2; exact .inl ⟨by rw [HG.out, h1]; rfl, rfl⟩
    · cases h2; exact .inr ⟨by rw [HG.out, h1]; rfl, p, rfl⟩
  · obtain ⟨pb, po, psx⟩ := p
    have hgc : getL4 s = none := by unfold getL4; rw [hg]
    have HG := Lib.hid hgc
    have HB := Lib.hid hb
    have y0 : W.cell? ⟨w.heap.size, 0, none⟩ = some (.string ⟨#[]⟩) := cell_of_blk' h0 rfl
    have y1 : W.cell? ⟨w.heap.size, 1, none⟩ = some (.int .i64 0) := cell_of_blk' h0 rfl
    have y2 : W.cell? ⟨w.heap.size, 2, none⟩ = some (.string ⟨#[]⟩) := cell_of_blk' h0 rfl
    have y3 : W.cell? ⟨w.heap.size, 3, none⟩ = some (.string ⟨#[]⟩) := cell_of_blk' h0 rfl
    have z0 : W.frozen? ⟨w.heap.size, 0, none⟩ = false := frozen_of_blk' h0
    have z1 : W.frozen? ⟨w.heap.size, 1, none⟩ = false := frozen_of_blk' h0
    have z2 : W.frozen? ⟨w.heap.size, 2, none⟩ = false := frozen_of_blk' h0
    have z3 : W.frozen? ⟨w.heap.size, 3, none⟩ = false := frozen_of_blk' h0
    obtain ⟨f0, f1, f2, f3⟩ := cells4 W w.heap.size (.string ⟨#[]⟩) (.int .i64 0) (.string ⟨#[]⟩) (.string ⟨#[]⟩) y0 y1 y2 y3
    clear hg hgc hb h0
    go_wp2_with fail
    refine bodyPost_ret (v := .tuple #[LblV noLbl, .iface 129 (.pointer (some ⟨pb, po, psx⟩))]) (by simp [results, Tryz.results107, go_sem, f0, f1, f2, f3, LblV, noLbl]) rfl ?_
    exact ⟨below_set4 HB.out (Nat.le_refl _) _ _ _ _, noLbl, .inr ⟨HG.out, _, rfl⟩⟩
/-- What GetLabel answers. -/
def GlPost (o : Option Lbl) (w : World) (e : Ending) (w' : World) : Prop :=
  Below w.heap.size w w' ∧ e = .returned (.tuple #[LblV (o.getD noLbl), .bool o.isSome])
end Go.Proofs.YtialgldmogigfaaGreatDoor
namespace Go.Proofs.YtialgldmogigfaaGreatDoor
open Go Go.RowKit Go.Shelf
set_option maxRecDepth 100000 in
set_option maxHeartbeats 2000000 in
theorem labelWants_any (s : List UInt8) (hs : s.length ≤ 100000) (w : World) (he : Er w) :
    Calls Tryz.prog 100 #[.string ⟨s.toArray⟩] w (WtPost ((getL4 s).map wantL) w) := by
  have HT := Lib.hid (readLabel_any s hs w he)
  clear he hs
  go_enter Tryz.func100, Tryz.ntmps100
  go_wp2_with fail
  refine HT.out.mono ?_
  rintro e w1 ⟨l1, l, h⟩
  have hfin : ∃ ev, e = .returned (.tuple #[LblV l, ev]) ∧ ∀ A n c w2, WantsR w2 (.slice A n c) (wantL l) → Fr w.heap.size (.slice A n c) → Below w.heap.size w w2 → WtPost ((getL4 s).map wantL) w (.returned (.tuple #[.slice A n c, ev])) w2 := by
    rcases h with ⟨h1, rfl⟩ | ⟨h1, p, rfl⟩
    · exact ⟨_, rfl, fun A n c w2 h2 hf h3 => ⟨.inl ⟨_, _, by rw [h1]; rfl, rfl, h2, by simp [wantL], hf⟩, h3⟩⟩
    · exact ⟨_, rfl, fun A n c w2 h2 _ h3 => ⟨.inr ⟨by rw [h1]; rfl, A, n, c, p, rfl⟩, h3⟩⟩
  obtain ⟨ev, rfl, hout⟩ := hfin
  obtain ⟨di, kv, nm, tx⟩ := l
  have hst := own_lit (w1.alloc (.cells #[.string ⟨di.toArray⟩, .int .i64 kv, .string ⟨nm.toArray⟩, .string ⟨tx.toArray⟩] 97)) (di, kv) w1.heap.size (by simp)
  have hbs := ((below_new w1 (.cells #[.string ⟨di.toArray⟩, .int .i64 kv, .string ⟨nm.toArray⟩, .string ⟨tx.toArray⟩] 97))).alloc (by simp) (.cells #[SV di, .int .i64 kv] 83)
  have hf := hout _ _ _ _ (hst.rd wantV_len) (hst.fr l1.size) (l1.trans (hbs.mono l1.size))
  have hz : (w1.alloc (.cells #[.string ⟨di.toArray⟩, .int .i64 kv, .string ⟨nm.toArray⟩, .string ⟨tx.toArray⟩] 97)).heap.size = w1.heap.size + 1 := by simp
  rw [hz] at hf
  have HF := Lib.hid hf
  unfold LblV
  simp only
  clear h l1 hout hst hbs hz hf
  go_wp2_with fail
  go_ret2
  exact HF.out
/-- What an object may be that is no blob. -/
def formO (k : Int) (d : List UInt8) : Option (List (List UInt8 × Int)) :=
  if k = 2 then (getT d).map fun l => l.map wantI else if k = 3 then (getC d).map wantC else (getL4 d).map wantL
def ObjV (k : Int) (d : List UInt8) : Value := .agg #[.int .i64 k, .string ⟨d.toArray⟩]
set_option maxRecDepth 100000 in
set_option maxHeartbeats 2000000 in
theorem formWants_any (k : Int) (d : List UInt8) (hs : d.length ≤ 100000) (w : World) (he : Eb w) (ht : Tb w) :
    Calls Tryz.prog 78 #[ObjV k d] w (WtPost (formO k d) w) := by
  have B0 := below_new w (.cells #[.int .i64 k, .string ⟨d.toArray⟩] 44)
  have hw : ∀ o e w', WtPost o (w.alloc (.cells #[.int .i64 k, .string ⟨d.toArray⟩] 44)) e w' → (∃ a b, e = .returned (.tuple #[a, b])) ∧ WtPost o w e w' := by
    rintro o e w' ⟨h1, h2⟩
    refine ⟨?_, ?_, B0.trans (h2.mono B0.size)⟩
    · rcases h1 with ⟨v, l, _, rfl, _⟩ | ⟨_, A, n, c, p, rfl⟩ <;> exact ⟨_, _, rfl⟩
    · rcases h1 with ⟨v, l, a1, a2, a3, a4, a5⟩ | h1
      · exact .inl ⟨v, l, a1, a2, a3, a4, a5.mono B0.size⟩
      · exact .inr h1
  have HW := Lib.hid hw
  have H2 := Lib.hid (treeWants_any d (by omega) _ (he.below B0).er (ht.below B0))
  have H3 := Lib.hid (changeWants_any d hs _ (he.below B0))
  have H4 := Lib.hid (labelWants_any d hs _ (he.below B0).er)
  unfold ObjV
  clear he ht hs B0 hw
  by_cases h2 : k = 2
  · subst h2
    have HQ : Hid (formO 2 d = (getT d).map fun l => l.map wantI) := Lib.hid rfl
    go_enter Tryz.func78, Tryz.ntmps78
    go_wp2_with fail
    refine H2.out.mono ?_
    intro e w1 h
    obtain ⟨⟨a, b, rfl⟩, h1⟩ := HW.out _ _ _ h
    have H1 := Lib.hid h1
    clear h h1
    go_wp2_with fail
    go_ret2
    rw [HQ.out]; exact H1.out
  by_cases h3 : k = 3
  · subst h3
    have HQ : Hid (formO 3 d = (getC d).map wantC) := Lib.hid rfl
    clear h2
    go_enter Tryz.func78, Tryz.ntmps78
    go_wp2_with fail
    refine H3.out.mono ?_
    intro e w1 h
    obtain ⟨⟨a, b, rfl⟩, h1⟩ := HW.out _ _ _ h
    have H1 := Lib.hid h1
    clear h h1
    go_wp2_with fail
    go_ret2
    rw [HQ.out]; exact H1.out
  · have HQ : Hid (formO k d = (getL4 d).map wantL) := Lib.hid (by unfold formO; rw [if_neg h2, if_neg h3])
    go_enter Tryz.func78, Tryz.ntmps78
    go_wp2_with fail
    refine H4.out.mono ?_
    intro e w1 h
    obtain ⟨⟨a, b, rfl⟩, h1⟩ := HW.out _ _ _ h
    have H1 := Lib.hid h1
    clear h h1
    go_wp2_with fail
    go_ret2
    rw [HQ.out]; exact H1.out
end Go.Proofs.YtialgldmogigfaaGreatDoor


namespace Go.Proofs.YtialgldmogigfaaGreatDoor
open Go Go.RowKit Go.Shelf
theorem WtPost.ret {o : Option (List (List UInt8 × Int))} {w : World} {e : Ending} {w' : World} (h : WtPost o w e w') : (∃ A n c, e = .returned (.tuple #[.slice A n c, .nilIface]) ∧ ∃ l, o = some l ∧ WantsR w' (.slice A n c) l ∧ l.length ≤ 256 ∧ Fr w.heap.size (.slice A n c)) ∨ (∃ A n c p, e = .returned (.tuple #[.slice A n c, .iface 129 (.pointer (some p))]) ∧ o = none) := by
  obtain ⟨⟨v, l, ho, rfl, hr, hl⟩ | ⟨ho, A, n, c, p, rfl⟩, _⟩ := h
  · obtain ⟨A, c, rfl⟩ := hr.shape
    exact .inl ⟨A, _, c, rfl, l, ho, hr, hl⟩
  · exact .inr ⟨A, n, c, p, rfl, ho⟩
theorem wantsO_over (d : List UInt8) (k : Int) (h : ¬ d.length ≤ 65536) : wantsO k d = none := by
  unfold wantsO; exact if_pos (Nat.lt_of_not_le h)
theorem wantsO_in (d : List UInt8) (k : Int) (h : d.length ≤ 65536) : wantsO k d = if k = 1 then some [] else if k = 2 then (getT d).map fun l => l.map wantI else if k = 3 then (getC d).map wantC else if k = 4 then (getL4 d).map wantL else none := by
  unfold wantsO; exact if_neg (Nat.not_lt_of_le h)
theorem wantsO_fit (d : List UInt8) (k : Int) (hk : k = 2 ∨ k = 3 ∨ k = 4) (h : d.length ≤ 65536) : wantsO k d = formO k d := by
  rw [wantsO_in d k h]
  rcases hk with rfl | rfl | rfl <;> rfl
theorem wantsO_none (d : List UInt8) (k : Int) (hk : k = 2 ∨ k = 3 ∨ k = 4) (h : formO k d = none) : wantsO k d = none := by
  by_cases hd : d.length ≤ 65536
  · rw [wantsO_fit d k hk hd, h]
  · exact wantsO_over d k hd
set_option maxRecDepth 100000 in
set_option maxHeartbeats 4000000 in
theorem wants_2 (d : List UInt8) (hs : d.length ≤ 100000) (w : World) (he : Eb w) (ht : Tb w) :
    Calls Tryz.prog 61 #[ObjV 2 d] w (WtPost (wantsO 2 d) w) := by
  have B0 := below_new w (.cells #[.int .i64 2, .string ⟨d.toArray⟩] 44)
  have hf := formWants_any 2 d hs _ (he.below B0) (ht.below B0)
  have HF := Lib.hid hf
  have HE := Lib.hid he; have HB0 := Lib.hid B0; have HS := Lib.hid hs
  have HQ1 : Hid (d.length ≤ 65536 → wantsO 2 d = formO 2 d) := Lib.hid (wantsO_fit d 2 (by decide))
  have HQ2 : Hid (¬ d.length ≤ 65536 → wantsO 2 d = none) := Lib.hid (wantsO_over d 2)
  have HQ3 : Hid (formO 2 d = none → wantsO 2 d = none) := Lib.hid (wantsO_none d 2 (by decide))
  have hblk : ∀ W, Below (w.alloc (.cells #[.int .i64 2, .string ⟨d.toArray⟩] 44)).heap.size (w.alloc (.cells #[.int .i64 2, .string ⟨d.toArray⟩] 44)) W → Below w.heap.size w W ∧ W.heap[w.heap.size]? = some (.cells #[.int .i64 2, .string ⟨d.toArray⟩] 44 (0, 0)) := fun W h => ⟨B0.trans (h.mono B0.size), (h.block _ (by simp)).trans (heap_alloc_new _ _)⟩
  have HBk := Lib.hid hblk
  have hwd := fun W => word_any 2 W
  unfold SV at hwd
  obtain ⟨kw, hkw⟩ : ∃ kw : ByteArray, kw = ⟨(kindW 2).toArray⟩ := ⟨_, rfl⟩
  rw [← hkw] at hwd
  have HWd := Lib.hid hwd
  have HWn := Lib.hid (fun W => within_nil (.string kw) W)
  have HWs := Lib.hid (fun (p : Addr) W => within_some kw (.iface 129 (.pointer (some p))) ⟨p, rfl⟩ W)
  unfold ObjV at HF ⊢
  clear hf he ht hs B0 hblk hwd hkw
  go_enter Tryz.func61, Tryz.ntmps61
  go_wp2_with fail
  refine HF.out.mono ?_
  intro e w1 h
  have l1 := h.2
  rcases h.ret with ⟨A, n, c, rfl, l, ho, hr, hl⟩ | ⟨A, n, c, p, rfl, ho⟩
  · obtain ⟨hb, hbk⟩ := HBk.out w1 l1
    have q0 : w1.cell? ⟨w.heap.size, 0, none⟩ = some (.int .i64 2) := cell_of_blk' hbk rfl
    have q1 : w1.cell? ⟨w.heap.size, 1, none⟩ = some (.string ⟨d.toArray⟩) := cell_of_blk' hbk rfl
    obtain ⟨pe, c0⟩ := (HE.out.below hb).er.over
    have HB := Lib.hid hb; have HR := Lib.hid hr; have HO := Lib.hid ho; have HL := Lib.hid hl; have HK := Lib.hid hbk
    clear h l1 hb hbk hr ho hl
    by_cases hd : d.length ≤ 65536
    · have hd2 : (d.length : Int) ≤ 65536 := by omega
      have HD := Lib.hid hd
      have HNd := Lib.hid (need_yes (.string ⟨#[100, 97, 116, 97]⟩) (.iface 235 pe) w1)
      clear hd
      go_wp2_with fail
      refine HNd.out.mono ?_
      rintro e w2 ⟨rfl, rfl⟩
      go_wp2_with fail
      refine (HWd.out w1).mono ?_
      rintro e w2 ⟨rfl, rfl⟩
      go_wp2_with fail
      refine (HWn.out w1).mono ?_
      rintro e w2 ⟨rfl, rfl⟩
      go_wp2_with fail
      go_ret2
      rw [HQ1.out HD.out]
      exact ⟨.inl ⟨_, l, HO.out, rfl, HR.out, HL.out.1, HL.out.2.mono HB0.out.size⟩, HB.out⟩
    · have hd2 : decide ((d.length : Int) ≤ 65536) = false := decide_eq_false (by omega)
      have hd3 : decide (d.length ≤ 65536) = false := decide_eq_false hd
      have HD := Lib.hid hd
      have HNd := Lib.hid (need_no ⟨#[100, 97, 116, 97]⟩ 235 pe w1)
      clear hd
      go_wp2_with fail
      refine HNd.out.mono ?_
      rintro e w2 ⟨rfl, hw2⟩
      have l2 : Below w1.heap.size w1 w2 := by rw [← hw2]; exact below_new w1 _
      have q2 : w2.cell? ⟨w.heap.size, 0, none⟩ = some (.int .i64 2) := cell_to q0 l2
      have HB2 := Lib.hid (HB.out.trans (l2.mono HB.out.size))
      clear hw2 l2 q0 q1 c0
      go_wp2_with fail
      refine (HWd.out _).mono ?_
      rintro e w3 ⟨rfl, rfl⟩
      go_wp2_with fail
      refine (HWs.out _ _).mono ?_
      rintro e w3 ⟨rfl, hw3⟩
      have HB3 : Hid (Below w.heap.size w w3) := Lib.hid (by rw [← hw3]; exact HB2.out.alloc HB2.out.size _)
      clear hw3
      go_wp2_with fail
      go_ret2
      rw [HQ2.out HD.out]
      exact ⟨.inr ⟨rfl, _, _, _, _, rfl⟩, HB3.out⟩
  · obtain ⟨hb, hbk⟩ := HBk.out w1 l1
    have q0 : w1.cell? ⟨w.heap.size, 0, none⟩ = some (.int .i64 2) := cell_of_blk' hbk rfl
    have HB := Lib.hid hb; have HO := Lib.hid ho
    clear h l1 hb hbk ho
    go_wp2_with fail
    refine (HWd.out _).mono ?_
    rintro e w2 ⟨rfl, rfl⟩
    go_wp2_with fail
    refine (HWs.out _ _).mono ?_
    rintro e w2 ⟨rfl, rfl⟩
    go_wp2_with fail
    go_ret2
    rw [HQ3.out HO.out]
    exact ⟨.inr ⟨rfl, _, _, _, _, rfl⟩, HB.out.alloc HB.out.size _⟩
set_option maxRecDepth 100000 in
set_option maxHeartbeats 4000000 in
theorem wants_3 (d : List UInt8) (hs : d.length ≤ 100000) (w : World) (he : Eb w) (ht : Tb w) :
    Calls Tryz.prog 61 #[ObjV 3 d] w (WtPost (wantsO 3 d) w) := by
  have B0 := below_new w (.cells #[.int .i64 3, .string ⟨d.toArray⟩] 44)
  have hf := formWants_any 3 d hs _ (he.below B0) (ht.below B0)
  have HF := Lib.hid hf
  have HE := Lib.hid he; have HB0 := Lib.hid B0; have HS := Lib.hid hs
  have HQ1 : Hid (d.length ≤ 65536 → wantsO 3 d = formO 3 d) := Lib.hid (wantsO_fit d 3 (by decide))
  have HQ2 : Hid (¬ d.length ≤ 65536 → wantsO 3 d = none) := Lib.hid (wantsO_over d 3)
  have HQ3 : Hid (formO 3 d = none → wantsO 3 d = none) := Lib.hid (wantsO_none d 3 (by decide))
  have hblk : ∀ W, Below (w.alloc (.cells #[.int .i64 3, .string ⟨d.toArray⟩] 44)).heap.size (w.alloc (.cells #[.int .i64 3, .string ⟨d.toArray⟩] 44)) W → Below w.heap.size w W ∧ W.heap[w.heap.size]? = some (.cells #[.int .i64 3, .string ⟨d.toArray⟩] 44 (0, 0)) := fun W h => ⟨B0.trans (h.mono B0.size), (h.block _ (by simp)).trans (heap_alloc_new _ _)⟩
  have HBk := Lib.hid hblk
  have hwd := fun W => word_any 3 W
  unfold SV at hwd
  obtain ⟨kw, hkw⟩ : ∃ kw : ByteArray, kw = ⟨(kindW 3).toArray⟩ := ⟨_, rfl⟩
  rw [← hkw] at hwd
  have HWd := Lib.hid hwd
  have HWn := Lib.hid (fun W => within_nil (.string kw) W)
  have HWs := Lib.hid (fun (p : Addr) W => within_some kw (.iface 129 (.pointer (some p))) ⟨p, rfl⟩ W)
  unfold ObjV at HF ⊢
  clear hf he ht hs B0 hblk hwd hkw
  go_enter Tryz.func61, Tryz.ntmps61
  go_wp2_with fail
  refine HF.out.mono ?_
  intro e w1 h
  have l1 := h.2
  rcases h.ret with ⟨A, n, c, rfl, l, ho, hr, hl⟩ | ⟨A, n, c, p, rfl, ho⟩
  · obtain ⟨hb, hbk⟩ := HBk.out w1 l1
    have q0 : w1.cell? ⟨w.heap.size, 0, none⟩ = some (.int .i64 3) := cell_of_blk' hbk rfl
    have q1 : w1.cell? ⟨w.heap.size, 1, none⟩ = some (.string ⟨d.toArray⟩) := cell_of_blk' hbk rfl
    obtain ⟨pe, c0⟩ := (HE.out.below hb).er.over
    have HB := Lib.hid hb; have HR := Lib.hid hr; have HO := Lib.hid ho; have HL := Lib.hid hl; have HK := Lib.hid hbk
    clear h l1 hb hbk hr ho hl
    by_cases hd : d.length ≤ 65536
    · have hd2 : (d.length : Int) ≤ 65536 := by omega
      have HD := Lib.hid hd
      have HNd := Lib.hid (need_yes (.string ⟨#[100, 97, 116, 97]⟩) (.iface 235 pe) w1)
      clear hd
      go_wp2_with fail
      refine HNd.out.mono ?_
      rintro e w2 ⟨rfl, rfl⟩
      go_wp2_with fail
      refine (HWd.out w1).mono ?_
      rintro e w2 ⟨rfl, rfl⟩
      go_wp2_with fail
      refine (HWn.out w1).mono ?_
      rintro e w2 ⟨rfl, rfl⟩
      go_wp2_with fail
      go_ret2
      rw [HQ1.out HD.out]
      exact ⟨.inl ⟨_, l, HO.out, rfl, HR.out, HL.out.1, HL.out.2.mono HB0.out.size⟩, HB.out⟩
    · have hd2 : decide ((d.length : Int) ≤ 65536) = false := decide_eq_false (by omega)
      have hd3 : decide (d.length ≤ 65536) = false := decide_eq_false hd
      have HD := Lib.hid hd
      have HNd := Lib.hid (need_no ⟨#[100, 97, 116, 97]⟩ 235 pe w1)
      clear hd
      go_wp2_with fail
      refine HNd.out.mono ?_
      rintro e w2 ⟨rfl, hw2⟩
      have l2 : Below w1.heap.size w1 w2 := by rw [← hw2]; exact below_new w1 _
      have q2 : w2.cell? ⟨w.heap.size, 0, none⟩ = some (.int .i64 3) := cell_to q0 l2
      have HB2 := Lib.hid (HB.out.trans (l2.mono HB.out.size))
      clear hw2 l2 q0 q1 c0
      go_wp2_with fail
      refine (HWd.out _).mono ?_
      rintro e w3 ⟨rfl, rfl⟩
      go_wp2_with fail
      refine (HWs.out _ _).mono ?_
      rintro e w3 ⟨rfl, hw3⟩
      have HB3 : Hid (Below w.heap.size w w3) := Lib.hid (by rw [← hw3]; exact HB2.out.alloc HB2.out.size _)
      clear hw3
      go_wp2_with fail
      go_ret2
      rw [HQ2.out HD.out]
      exact ⟨.inr ⟨rfl, _, _, _, _, rfl⟩, HB3.out⟩
  · obtain ⟨hb, hbk⟩ := HBk.out w1 l1
    have q0 : w1.cell? ⟨w.heap.size, 0, none⟩ = some (.int .i64 3) := cell_of_blk' hbk rfl
    have HB := Lib.hid hb; have HO := Lib.hid ho
    clear h l1 hb hbk ho
    go_wp2_with fail
    refine (HWd.out _).mono ?_
    rintro e w2 ⟨rfl, rfl⟩
    go_wp2_with fail
    refine (HWs.out _ _).mono ?_
    rintro e w2 ⟨rfl, rfl⟩
    go_wp2_with fail
    go_ret2
    rw [HQ3.out HO.out]
    exact ⟨.inr ⟨rfl, _, _, _, _, rfl⟩, HB.out.alloc HB.out.size _⟩
set_option maxRecDepth 100000 in
set_option maxHeartbeats 4000000 in
theorem wants_4 (d : List UInt8) (hs : d.length ≤ 100000) (w : World) (he : Eb w) (ht : Tb w) :
    Calls Tryz.prog 61 #[ObjV 4 d] w (WtPost (wantsO 4 d) w) := by
  have B0 := below_new w (.cells #[.int .i64 4, .string ⟨d.toArray⟩] 44)
  have hf := formWants_any 4 d hs _ (he.below B0) (ht.below B0)
  have HF := Lib.hid hf
  have HE := Lib.hid he; have HB0 := Lib.hid B0; have HS := Lib.hid hs
  have HQ1 : Hid (d.length ≤ 65536 → wantsO 4 d = formO 4 d) := Lib.hid (wantsO_fit d 4 (by decide))
  have HQ2 : Hid (¬ d.length ≤ 65536 → wantsO 4 d = none) := Lib.hid (wantsO_over d 4)
  have HQ3 : Hid (formO 4 d = none → wantsO 4 d = none) := Lib.hid (wantsO_none d 4 (by decide))
  have hblk : ∀ W, Below (w.alloc (.cells #[.int .i64 4, .string ⟨d.toArray⟩] 44)).heap.size (w.alloc (.cells #[.int .i64 4, .string ⟨d.toArray⟩] 44)) W → Below w.heap.size w W ∧ W.heap[w.heap.size]? = some (.cells #[.int .i64 4, .string ⟨d.toArray⟩] 44 (0, 0)) := fun W h => ⟨B0.trans (h.mono B0.size), (h.block _ (by simp)).trans (heap_alloc_new _ _)⟩
  have HBk := Lib.hid hblk
  have hwd := fun W => word_any 4 W
  unfold SV at hwd
  obtain ⟨kw, hkw⟩ : ∃ kw : ByteArray, kw = ⟨(kindW 4).toArray⟩ := ⟨_, rfl⟩
  rw [← hkw] at hwd
  have HWd := Lib.hid hwd
  have HWn := Lib.hid (fun W => within_nil (.string kw) W)
  have HWs := Lib.hid (fun (p : Addr) W => within_some kw (.iface 129 (.pointer (some p))) ⟨p, rfl⟩ W)
  unfold ObjV at HF ⊢
  clear hf he ht hs B0 hblk hwd hkw
  go_enter Tryz.func61, Tryz.ntmps61
  go_wp2_with fail
  refine HF.out.mono ?_
  intro e w1 h
  have l1 := h.2
  rcases h.ret with ⟨A, n, c, rfl, l, ho, hr, hl⟩ | ⟨A, n, c, p, rfl, ho⟩
  · obtain ⟨hb, hbk⟩ := HBk.out w1 l1
    have q0 : w1.cell? ⟨w.heap.size, 0, none⟩ = some (.int .i64 4) := cell_of_blk' hbk rfl
    have q1 : w1.cell? ⟨w.heap.size, 1, none⟩ = some (.string ⟨d.toArray⟩) := cell_of_blk' hbk rfl
    obtain ⟨pe, c0⟩ := (HE.out.below hb).er.over
    have HB := Lib.hid hb; have HR := Lib.hid hr; have HO := Lib.hid ho; have HL := Lib.hid hl; have HK := Lib.hid hbk
    clear h l1 hb hbk hr ho hl
    by_cases hd : d.length ≤ 65536
    · have hd2 : (d.length : Int) ≤ 65536 := by omega
      have HD := Lib.hid hd
      have HNd := Lib.hid (need_yes (.string ⟨#[100, 97, 116, 97]⟩) (.iface 235 pe) w1)
      clear hd
      go_wp2_with fail
      refine HNd.out.mono ?_
      rintro e w2 ⟨rfl, rfl⟩
      go_wp2_with fail
      refine (HWd.out w1).mono ?_
      rintro e w2 ⟨rfl, rfl⟩
      go_wp2_with fail
      refine (HWn.out w1).mono ?_
      rintro e w2 ⟨rfl, rfl⟩
      go_wp2_with fail
      go_ret2
      rw [HQ1.out HD.out]
      exact ⟨.inl ⟨_, l, HO.out, rfl, HR.out, HL.out.1, HL.out.2.mono HB0.out.size⟩, HB.out⟩
    · have hd2 : decide ((d.length : Int) ≤ 65536) = false := decide_eq_false (by omega)
      have hd3 : decide (d.length ≤ 65536) = false := decide_eq_false hd
      have HD := Lib.hid hd
      have HNd := Lib.hid (need_no ⟨#[100, 97, 116, 97]⟩ 235 pe w1)
      clear hd
      go_wp2_with fail
      refine HNd.out.mono ?_
      rintro e w2 ⟨rfl, hw2⟩
      have l2 : Below w1.heap.size w1 w2 := by rw [← hw2]; exact below_new w1 _
      have q2 : w2.cell? ⟨w.heap.size, 0, none⟩ = some (.int .i64 4) := cell_to q0 l2
      have HB2 := Lib.hid (HB.out.trans (l2.mono HB.out.size))
      clear hw2 l2 q0 q1 c0
      go_wp2_with fail
      refine (HWd.out _).mono ?_
      rintro e w3 ⟨rfl, rfl⟩
      go_wp2_with fail
      refine (HWs.out _ _).mono ?_
      rintro e w3 ⟨rfl, hw3⟩
      have HB3 : Hid (Below w.heap.size w w3) := Lib.hid (by rw [← hw3]; exact HB2.out.alloc HB2.out.size _)
      clear hw3
      go_wp2_with fail
      go_ret2
      rw [HQ2.out HD.out]
      exact ⟨.inr ⟨rfl, _, _, _, _, rfl⟩, HB3.out⟩
  · obtain ⟨hb, hbk⟩ := HBk.out w1 l1
    have q0 : w1.cell? ⟨w.heap.size, 0, none⟩ = some (.int .i64 4) := cell_of_blk' hbk rfl
    have HB := Lib.hid hb; have HO := Lib.hid ho
    clear h l1 hb hbk ho
    go_wp2_with fail
    refine (HWd.out _).mono ?_
    rintro e w2 ⟨rfl, rfl⟩
    go_wp2_with fail
    refine (HWs.out _ _).mono ?_
    rintro e w2 ⟨rfl, rfl⟩
    go_wp2_with fail
    go_ret2
    rw [HQ3.out HO.out]
    exact ⟨.inr ⟨rfl, _, _, _, _, rfl⟩, HB.out.alloc HB.out.size _⟩
end Go.Proofs.YtialgldmogigfaaGreatDoor
