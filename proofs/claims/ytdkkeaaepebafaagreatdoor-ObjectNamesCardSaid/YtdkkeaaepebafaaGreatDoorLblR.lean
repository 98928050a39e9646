/-
  readLabel, GetLabel, labelWants.
-/
import Derived.Test.YtdkkeaaepebafaaGreatDoorLblE
import Derived.Test.YtdkkeaaepebafaaGreatDoorTreeW
namespace Go.Proofs.YtdkkeaaepebafaaGreatDoor
open Go Go.RowKit Go.Shelf

def noLbl : Lbl := ⟨[], 0, [], []⟩
/-- What readLabel answers. -/
def RlPost (s : List UInt8) (w : World) (e : Ending) (w' : World) : Prop :=
  Below w.heap.size w w' ∧ ∃ l, (getL4 s = some l ∧ e = .returned (.tuple #[LblV l, .nilIface])) ∨ (getL4 s = none ∧ ∃ p, e = .returned (.tuple #[LblV l, .iface 92 (.pointer (some p))]))
theorem rawL_parts {s : List UInt8} {l : Lbl} (h : rawL s = some l) : l.id.length ≤ s.length ∧ l.name.length ≤ s.length ∧ l.text.length ≤ s.length := by
  unfold rawL at h
  cases h1 : lineP wObject s with
  | none => rw [h1] at h; cases h
  | some p =>
    obtain ⟨i, r1⟩ := p
    rw [h1] at h; simp only at h
    cases h2 : lineP wKind r1 with
    | none => rw [h2] at h; cases h
    | some p =>
      obtain ⟨k, r2⟩ := p
      rw [h2] at h; simp only at h
      cases h3 : lineP wName r2 with
      | none => rw [h3] at h; cases h
      | some p =>
        obtain ⟨n, r3⟩ := p
        rw [h3] at h; simp only at h
        obtain ⟨x, h4, rfl⟩ := Option.map_eq_some_iff.1 h
        have e1 := (lineP_some h1).1
        have e2 := (lineP_some h2).1
        have e3 := (lineP_some h3).1
        have e4 := tailP_some h4
        simp only
        rw [e1, e2, e3, e4]
        simp
        omega

set_option maxRecDepth 100000 in
set_option maxHeartbeats 4000000 in
theorem readLabel_any (s : List UInt8) (hs : s.length ≤ 100000) (w : World) (he : Er w) : Calls Tryz.prog 54 #[.string ⟨s.toArray⟩] w (RlPost s w) := by
  have HST := Lib.hid (lbl_step w he s)
  have HS := Lib.hid hs; have HE := Lib.hid he
  clear he hs
  go_enter Tryz.func54, Tryz.ntmps54
  go_wp2_with fail
  refine (line_mk _ _ _).mono ?_
  rintro e w1 ⟨rfl, rfl⟩
  go_wp2_with fail
  refine (line_mk _ _ _).mono ?_
  rintro e w1 ⟨rfl, rfl⟩
  go_wp2_with fail
  refine (line_mk _ _ _).mono ?_
  rintro e w1 ⟨rfl, rfl⟩
  go_wp2_with fail
  refine (past_mk _ _).mono ?_
  rintro e w1 ⟨rfl, rfl⟩
  go_wp2_with fail
  refine (read_gen 4 4 (w.heap.size + 10) (by decide) lblG (lblL w.heap.size) (lblP w s) (lblF w s) ?c1 ?c2 HST.out s _ ?c3).mono ?_
  case c1 =>
    rintro i r W hi ⟨_, di, kd, nm, E, _⟩
    refine cell_of_blk' E.b10 ?_
    match i, hi with
    | 0, _ => rfl
    | 1, _ => rfl
    | 2, _ => rfl
    | 3, _ => rfl
  case c2 =>
    intro i hi
    match i, hi with
    | 0, _ => exact enters_of Tryz.func99 (by kernel_rfl) rfl
    | 1, _ => exact enters_of Tryz.func99 (by kernel_rfl) rfl
    | 2, _ => exact enters_of Tryz.func99 (by kernel_rfl) rfl
    | 3, _ => exact enters_of Tryz.func102 (by kernel_rfl) rfl
  case c3 =>
    refine ⟨HS.out, [], [], [], ⟨?_, ?_, ?_, ?_, ?_, ?_, ?_, ?_, ?_, ?_, ?_, ?_⟩, rfl⟩
    · refine Below.alloc (Below.alloc (Below.alloc (Below.alloc (Below.alloc (Below.alloc (Below.alloc (Below.alloc (Below.alloc (Below.alloc (Below.alloc (Below.refl _ _) ?_ _) ?_ _) ?_ _) ?_ _) ?_ _) ?_ _) ?_ _) ?_ _) ?_ _) ?_ _) ?_ _ <;> first | omega | (simp only [World.size_alloc]; omega)
    all_goals (simp only [alloc_heapL, Array.getElem?_push, Array.size_push, Nat.add_assoc, Nat.reduceAdd]; simp [SV, wObject, wKind, wName])
  rintro e W (⟨r, rfl, hr, di, kd, nm, E, R⟩ | ⟨r, p, rfl, hg, hb, h0⟩)
  · have R2 : rawL s = some ⟨di, kindOfW kd, nm, r⟩ := R
    obtain ⟨p1, p2, p3⟩ := rawL_parts R2
    simp only at p1 p2 p3
    have hss := HS.out
    have hgc : getL4 s = if rightL ⟨di, kindOfW kd, nm, r⟩ then some ⟨di, kindOfW kd, nm, r⟩ else none := by unfold getL4; rw [R2]
    have HG := Lib.hid hgc
    have HKi := Lib.hid (kindOf_any kd W)
    obtain ⟨kv, hkv⟩ : ∃ kv, kv = kindOfW kd := ⟨_, rfl⟩
    rw [← hkv] at HG HKi
    obtain ⟨W1, hW1⟩ : ∃ W1, W1 = (W.setCell ⟨w.heap.size + 1, 1, none⟩ (.int .i64 kv)).setCell ⟨w.heap.size + 1, 3, none⟩ (.string ⟨r.toArray⟩) := ⟨_, rfl⟩
    have hc1 : W1.heap[w.heap.size + 1]? = some (.cells #[SV di, .int .i64 kv, SV nm, SV r] 42 (0, 0)) := by
      rw [hW1]; simp [World.setCell, Array.getElem?_modify, E.l, SV]
    have hr1 : W1.heap[w.heap.size]? = some (.cells #[.string ⟨#[]⟩, .int .i64 0, .string ⟨#[]⟩, .string ⟨#[]⟩] 42 (0, 0)) := by
      rw [hW1]; exact (Below.heap_setCell _ _ _ _ (fun e => by simp at e)).trans ((Below.heap_setCell _ _ _ _ (fun e => by simp at e)).trans E.r0)
    have hb1 : Below w.heap.size w W1 := by rw [hW1]; exact (E.below.setCell (Nat.le_add_right _ 1) _).setCell (Nat.le_add_right _ 1) _
    have xk : W.cell? ⟨w.heap.size + 2, 0, none⟩ = some (.string ⟨kd.toArray⟩) := cell_of_blk' E.k rfl
    have x1 : W.cell? ⟨w.heap.size + 1, 1, none⟩ = some (.int .i64 0) := cell_of_blk' E.l rfl
    have x3 : W.cell? ⟨w.heap.size + 1, 3, none⟩ = some (.string ⟨#[]⟩) := cell_of_blk' E.l rfl
    have z1 : W.frozen? ⟨w.heap.size + 1, 1, none⟩ = false := frozen_of_blk' E.l
    have z3 : W.frozen? ⟨w.heap.size + 1, 3, none⟩ = false := frozen_of_blk' E.l
    have HW1 := Lib.hid hW1
    have HC1 := Lib.hid hc1; have HR1 := Lib.hid hr1; have HB1 := Lib.hid hb1
    have hck := fun W' (hW' : Below W1.heap.size W1 W') => checkLabel_any ⟨di, kv, nm, r⟩ W' ⟨by simp only; omega, by simp only; omega, by simp only; omega⟩ ((HE.out.below hb1).below hW')
    unfold LblV at hck
    simp only at hck
    have HCK := Lib.hid hck
    clear E R R2 hgc hW1 hc1 hr1 hb1 hck hr p1 p2 p3 hss hkv
    have q0 : W1.cell? ⟨w.heap.size + 1, 0, none⟩ = some (.string ⟨di.toArray⟩) := cell_of_blk' HC1.out rfl
    have q1 : W1.cell? ⟨w.heap.size + 1, 1, none⟩ = some (.int .i64 kv) := cell_of_blk' HC1.out rfl
    have q2 : W1.cell? ⟨w.heap.size + 1, 2, none⟩ = some (.string ⟨nm.toArray⟩) := cell_of_blk' HC1.out rfl
    have q3 : W1.cell? ⟨w.heap.size + 1, 3, none⟩ = some (.string ⟨r.toArray⟩) := cell_of_blk' HC1.out rfl
    have hS0 := And.intro q0 (And.intro q1 (And.intro q2 q3))
    have hk : ∀ W', Below W1.heap.size W1 W' → (W'.cell? ⟨w.heap.size + 1, 0, none⟩ = some (.string ⟨di.toArray⟩) ∧ W'.cell? ⟨w.heap.size + 1, 1, none⟩ = some (.int .i64 kv) ∧ W'.cell? ⟨w.heap.size + 1, 2, none⟩ = some (.string ⟨nm.toArray⟩) ∧ W'.cell? ⟨w.heap.size + 1, 3, none⟩ = some (.string ⟨r.toArray⟩)) ∧
        (W'.cell? ⟨w.heap.size, 0, none⟩ = some (.string ⟨#[]⟩) ∧ W'.cell? ⟨w.heap.size, 1, none⟩ = some (.int .i64 0) ∧ W'.cell? ⟨w.heap.size, 2, none⟩ = some (.string ⟨#[]⟩) ∧ W'.cell? ⟨w.heap.size, 3, none⟩ = some (.string ⟨#[]⟩)) ∧
        (W'.frozen? ⟨w.heap.size, 0, none⟩ = false ∧ W'.frozen? ⟨w.heap.size, 1, none⟩ = false ∧ W'.frozen? ⟨w.heap.size, 2, none⟩ = false ∧ W'.frozen? ⟨w.heap.size, 3, none⟩ = false) := fun W' hW' => by
      have hc := (hW'.block _ (lt_heap HC1.out)).trans HC1.out
      have hr := (hW'.block _ (lt_heap HR1.out)).trans HR1.out
      exact ⟨⟨cell_of_blk' hc rfl, cell_of_blk' hc rfl, cell_of_blk' hc rfl, cell_of_blk' hc rfl⟩, ⟨cell_of_blk' hr rfl, cell_of_blk' hr rfl, cell_of_blk' hr rfl, cell_of_blk' hr rfl⟩, ⟨frozen_of_blk' hr, frozen_of_blk' hr, frozen_of_blk' hr, frozen_of_blk' hr⟩⟩
    have HK := Lib.hid hk
    clear hk
    unfold SV at HKi ⊢
    go_wp2_with fail
    refine HKi.out.mono ?_
    rintro e w1 ⟨rfl, rfl⟩
    go_wp2_with fail
    rw [← HW1.out]
    go_wp2_with fail
    go_region_held3 (fun W' => W'.cell? ⟨w.heap.size + 1, 0, none⟩ = some (.string ⟨di.toArray⟩) ∧ W'.cell? ⟨w.heap.size + 1, 1, none⟩ = some (.int .i64 kv) ∧ W'.cell? ⟨w.heap.size + 1, 2, none⟩ = some (.string ⟨nm.toArray⟩) ∧ W'.cell? ⟨w.heap.size + 1, 3, none⟩ = some (.string ⟨r.toArray⟩))
      (first | exact hS0 | assumption | go_keep)
      (first
        | (go_at_call 73; refine (HCK.out W1.drew (Below.refl _ _).drew).mono ?_; intro e w5 h5; have H5 := Lib.hid h5; obtain ⟨ev, rfl⟩ := h5.ret; obtain ⟨hS5, ⟨y0, y1, y2, y3⟩, ⟨z0, z1, z2, z3⟩⟩ := HK.out w5 (bdr h5.2); clear h5)
        | show False)
    obtain ⟨f0, f1, f2, f3⟩ := cells4 w5 w.heap.size (.string ⟨di.toArray⟩) (.int .i64 kv) (.string ⟨nm.toArray⟩) (.string ⟨r.toArray⟩) y0 y1 y2 y3
    go_wp2_with fail
    refine bodyPost_ret (v := .tuple #[LblV ⟨di, kv, nm, r⟩, ev]) (by simp [results, Tryz.results54, go_sem, f0, f1, f2, f3, LblV]) rfl ?_
    have hb5 := bdr H5.out.2
    have hbw := HB1.out.trans (hb5.mono HB1.out.size)
    refine ⟨below_set4 hbw (Nat.le_refl _) _ _ _ _, ⟨di, kv, nm, r⟩, ?_⟩
    rcases H5.out.1 with ⟨h1, h2⟩ | ⟨h1, p, h2⟩
    · cases h2; exact .inl ⟨by rw [HG.out, h1]; rfl, rfl⟩
    · cases h2; exact .inr ⟨by rw [HG.out, h1]; rfl, p, rfl⟩
  · obtain ⟨pb, po, psx⟩ := p
    have hgc : getL4 s = none := by unfold getL4; rw [hg]
    have HG := Lib.hid hgc
    have HB := Lib.hid hb
    have y0 : W.cell? ⟨w.heap.size, 0, none⟩ = some (.string ⟨#[]⟩) := cell_of_blk' h0 rfl
    have y1 : W.cell? ⟨w.heap.size, 1, none⟩ = some (.int .i64 0) := cell_of_blk' h0 rfl
    have y2 : W.cell? ⟨w.heap.size, 2, none⟩ = some (.string ⟨#[]⟩) := cell_of_blk' h0 rfl
    have y3 : W.cell? ⟨w.heap.size, 3, none⟩ = some (.string ⟨#[]⟩) := cell_of_blk' h0 rfl
    have z0 : W.frozen? ⟨w.heap.size, 0, none⟩ = false := frozen_of_blk' h0
    have z1 : W.frozen? ⟨w.heap.size, 1, none⟩ = false := frozen_of_blk' h0
    have z2 : W.frozen? ⟨w.heap.size, 2, none⟩ = false := frozen_of_blk' h0
    have z3 : W.frozen? ⟨w.heap.size, 3, none⟩ = false := frozen_of_blk' h0
    obtain ⟨f0, f1, f2, f3⟩ := cells4 W w.heap.size (.string ⟨#[]⟩) (.int .i64 0) (.string ⟨#[]⟩) (.string ⟨#[]⟩) y0 y1 y2 y3
    clear hg hgc hb h0
    go_wp2_with fail
    refine bodyPost_ret (v := .tuple #[LblV noLbl, .iface 92 (.pointer (some ⟨pb, po, psx⟩))]) (by simp [results, Tryz.results54, go_sem, f0, f1, f2, f3, LblV, noLbl]) rfl ?_
    exact ⟨below_set4 HB.out (Nat.le_refl _) _ _ _ _, noLbl, .inr ⟨HG.out, _, rfl⟩⟩

/-- What GetLabel answers. -/
def GlPost (o : Option Lbl) (w : World) (e : Ending) (w' : World) : Prop :=
  Below w.heap.size w w' ∧ e = .returned (.tuple #[LblV (o.getD noLbl), .bool o.isSome])
set_option maxRecDepth 100000 in
set_option maxHeartbeats 2000000 in
theorem GetLabel_any (s : List UInt8) (hs : s.length ≤ 100000) (w : World) (he : Er w) : Calls Tryz.prog 31 #[.string ⟨s.toArray⟩] w (GlPost (getL4 s) w) := by
  have B0 := below_new w (.cells #[.string ⟨#[]⟩, .int .i64 0, .string ⟨#[]⟩, .string ⟨#[]⟩] 42)
  have HR := Lib.hid (readLabel_any s hs _ (he.below B0))
  have hz : (w.alloc (.cells #[.string ⟨#[]⟩, .int .i64 0, .string ⟨#[]⟩, .string ⟨#[]⟩] 42)).heap.size = w.heap.size + 1 := by simp
  have HB0 := Lib.hid B0; have HE := Lib.hid he; have HZ := Lib.hid hz
  have hk : ∀ W, Below (w.alloc (.cells #[.string ⟨#[]⟩, .int .i64 0, .string ⟨#[]⟩, .string ⟨#[]⟩] 42)).heap.size (w.alloc (.cells #[.string ⟨#[]⟩, .int .i64 0, .string ⟨#[]⟩, .string ⟨#[]⟩] 42)) W → W.heap[w.heap.size]? = some (.cells #[.string ⟨#[]⟩, .int .i64 0, .string ⟨#[]⟩, .string ⟨#[]⟩] 42 (0, 0)) := fun W hW => (hW.block _ (by rw [HZ.out]; omega)).trans (heap_alloc_new _ _)
  have HK := Lib.hid hk
  clear he hs B0 hz hk
  go_enter Tryz.func31, Tryz.ntmps31
  go_wp2_with fail
  refine HR.out.mono ?_
  rintro e w1 ⟨l1, l, h⟩
  have hfin : ∃ ev l2, e = .returned (.tuple #[LblV l, ev]) ∧ l2 = (getL4 s).getD noLbl ∧ Calls Tryz.prog 53 #[LblV l, ev] w1 (RetBelow (.tuple #[LblV l2, .bool (getL4 s).isSome]) w1) := by
    rcases h with ⟨h1, rfl⟩ | ⟨h1, p, rfl⟩
    · exact ⟨_, l, rfl, by rw [h1]; rfl, by rw [h1]; exact toldL_nil _ _ _ _ w1⟩
    · exact ⟨_, noLbl, rfl, by rw [h1]; rfl, by rw [h1]; exact toldL_fault _ _ _ _ p w1 (HE.out.below (HB0.out.trans (l1.mono HB0.out.size))).et⟩
  obtain ⟨ev, l2, rfl, hc2, htold⟩ := hfin
  have HTo := Lib.hid htold; have HC2 := Lib.hid hc2; have HL1 := Lib.hid l1
  obtain ⟨di, kv, nm, tx⟩ := l
  obtain ⟨di2, kv2, nm2, tx2⟩ := l2
  unfold LblV at HTo ⊢
  simp only at HTo ⊢
  clear h htold hc2 l1
  go_wp2_with fail
  refine HTo.out.mono ?_
  rintro e w2 ⟨rfl, l2⟩
  have hb2 := HL1.out.trans (l2.mono HL1.out.size)
  have hr := HK.out w2 hb2
  have y0 : w2.cell? ⟨w.heap.size, 0, none⟩ = some (.string ⟨#[]⟩) := cell_of_blk' hr rfl
  have y1 : w2.cell? ⟨w.heap.size, 1, none⟩ = some (.int .i64 0) := cell_of_blk' hr rfl
  have y2 : w2.cell? ⟨w.heap.size, 2, none⟩ = some (.string ⟨#[]⟩) := cell_of_blk' hr rfl
  have y3 : w2.cell? ⟨w.heap.size, 3, none⟩ = some (.string ⟨#[]⟩) := cell_of_blk' hr rfl
  have z0 : w2.frozen? ⟨w.heap.size, 0, none⟩ = false := frozen_of_blk' hr
  have z1 : w2.frozen? ⟨w.heap.size, 1, none⟩ = false := frozen_of_blk' hr
  have z2 : w2.frozen? ⟨w.heap.size, 2, none⟩ = false := frozen_of_blk' hr
  have z3 : w2.frozen? ⟨w.heap.size, 3, none⟩ = false := frozen_of_blk' hr
  obtain ⟨f0, f1, f2, f3⟩ := cells4 w2 w.heap.size (.string ⟨di2.toArray⟩) (.int .i64 kv2) (.string ⟨nm2.toArray⟩) (.string ⟨tx2.toArray⟩) y0 y1 y2 y3
  have HB2 := Lib.hid (HB0.out.trans (hb2.mono HB0.out.size))
  clear hr hb2 l2
  go_wp2_with fail
  refine bodyPost_ret (v := .tuple #[LblV ⟨di2, kv2, nm2, tx2⟩, .bool (getL4 s).isSome]) (by simp [results, Tryz.results31, go_sem, f0, f1, f2, f3, LblV]) rfl ?_
  exact ⟨below_set4 HB2.out (Nat.le_refl _) _ _ _ _, by rw [HC2.out]⟩

end Go.Proofs.YtdkkeaaepebafaaGreatDoor
