/-
  An item, read.
-/
import Derived.Test.YtngphfogomchfaaGreatDoorC07
import Derived.Test.YtngphfogomchfaaGreatDoorC10

namespace Go.Proofs.YtngphfogomchfaaGreatDoor
open Go Go.RowKit Go.Shelf
/-- The blocks that readItem lays, from N on; what an item and its mode hold may turn. -/
structure ItmEnv (w : World) (W : World) (md nm di : List UInt8) : Prop where
  below : Below w.heap.size w W
  r0 : W.heap[w.heap.size]? = some (.cells #[.int .i64 0, .string ⟨#[]⟩, .string ⟨#[]⟩] 59 (0, 0))
  it : W.heap[w.heap.size + 1]? = some (.cells #[.int .i64 0, SV nm, SV di] 59 (0, 0))
  mo : W.heap[w.heap.size + 2]? = some (.cells #[SV md] 9 (0, 0))
  b3 : W.heap[w.heap.size + 3]? = some (.cells #[.int .i64 1] 3 (0, 0))
  b4 : W.heap[w.heap.size + 4]? = some (.cells #[.pointer (some ⟨w.heap.size + 2, 0, none⟩)] 217 (0, 0))
  b5 : W.heap[w.heap.size + 5]? = some (.cells #[.string ⟨#[32]⟩] 9 (0, 0))
  b6 : W.heap[w.heap.size + 6]? = some (.cells #[.string ⟨#[0]⟩] 9 (0, 0))
  b7 : W.heap[w.heap.size + 7]? = some (.cells #[.pointer (some ⟨w.heap.size + 1, 1, none⟩)] 217 (0, 0))
  b8 : W.heap[w.heap.size + 8]? = some (.cells #[.int .i64 64] 3 (0, 0))
  b9 : W.heap[w.heap.size + 9]? = some (.cells #[.pointer (some ⟨w.heap.size + 1, 2, none⟩)] 217 (0, 0))
  b10 : W.heap[w.heap.size + 10]? = some (.cells #[.func (.func 173) #[] #[.pointer (some ⟨w.heap.size + 3, 0, none⟩), .pointer (some ⟨w.heap.size + 4, 0, none⟩)],
    .func (.func 161) #[] #[.pointer (some ⟨w.heap.size + 5, 0, none⟩)],
    .func (.func 174) #[] #[.pointer (some ⟨w.heap.size + 6, 0, none⟩), .pointer (some ⟨w.heap.size + 7, 0, none⟩)],
    .func (.func 173) #[] #[.pointer (some ⟨w.heap.size + 8, 0, none⟩), .pointer (some ⟨w.heap.size + 9, 0, none⟩)]] 215 (0, 0))
theorem below_turn {w W W' : World} {tb : Nat} (h : Below w.heap.size w W) (hg : W.grownBy W' (some tb)) (ht : w.heap.size ≤ tb) : Below w.heap.size w W' :=
  h.grown hg h.size (fun k e => by cases e; exact ht)
theorem ItmEnv.mode {w W W' : World} {md nm di x : List UInt8} (h : ItmEnv w W md nm di) (ht : Turned W W' (w.heap.size + 2) 0 (SV x)) : ItmEnv w W' x nm di := by
  have k : ∀ j, j ≠ 2 → ∀ o, W.heap[w.heap.size + j]? = some o → W'.heap[w.heap.size + j]? = some o := fun j hj o ho => (ht.1.block _ (lt_heap ho) (fun e => hj (by simp at e; omega))).trans ho
  exact ⟨below_turn h.below ht.1 (by omega), k 0 (by omega) _ h.r0, k 1 (by omega) _ h.it, by have := ht.2 _ _ h.mo; simpa using this, k 3 (by omega) _ h.b3, k 4 (by omega) _ h.b4, k 5 (by omega) _ h.b5, k 6 (by omega) _ h.b6, k 7 (by omega) _ h.b7, k 8 (by omega) _ h.b8, k 9 (by omega) _ h.b9, k 10 (by omega) _ h.b10⟩
theorem ItmEnv.nameT {w W W' : World} {md nm di x : List UInt8} (h : ItmEnv w W md nm di) (ht : Turned W W' (w.heap.size + 1) 1 (SV x)) : ItmEnv w W' md x di := by
  have k : ∀ j, j ≠ 1 → ∀ o, W.heap[w.heap.size + j]? = some o → W'.heap[w.heap.size + j]? = some o := fun j hj o ho => (ht.1.block _ (lt_heap ho) (fun e => hj (by simp at e; omega))).trans ho
  exact ⟨below_turn h.below ht.1 (by omega), k 0 (by omega) _ h.r0, by have := ht.2 _ _ h.it; simpa using this, k 2 (by omega) _ h.mo, k 3 (by omega) _ h.b3, k 4 (by omega) _ h.b4, k 5 (by omega) _ h.b5, k 6 (by omega) _ h.b6, k 7 (by omega) _ h.b7, k 8 (by omega) _ h.b8, k 9 (by omega) _ h.b9, k 10 (by omega) _ h.b10⟩
theorem ItmEnv.idT {w W W' : World} {md nm di x : List UInt8} (h : ItmEnv w W md nm di) (ht : Turned W W' (w.heap.size + 1) 2 (SV x)) : ItmEnv w W' md nm x := by
  have k : ∀ j, j ≠ 1 → ∀ o, W.heap[w.heap.size + j]? = some o → W'.heap[w.heap.size + j]? = some o := fun j hj o ho => (ht.1.block _ (lt_heap ho) (fun e => hj (by simp at e; omega))).trans ho
  exact ⟨below_turn h.below ht.1 (by omega), k 0 (by omega) _ h.r0, by have := ht.2 _ _ h.it; simpa using this, k 2 (by omega) _ h.mo, k 3 (by omega) _ h.b3, k 4 (by omega) _ h.b4, k 5 (by omega) _ h.b5, k 6 (by omega) _ h.b6, k 7 (by omega) _ h.b7, k 8 (by omega) _ h.b8, k 9 (by omega) _ h.b9, k 10 (by omega) _ h.b10⟩
/-- How far the steps have come. -/
def itmRel (s0 : List UInt8) : Nat → List UInt8 → List UInt8 → List UInt8 → List UInt8 → Prop
  | 0, s, _, _, _ => s = s0
  | 1, s, md, _, _ => ∃ c, s0 = c :: s ∧ md = [c]
  | 2, s, md, _, _ => ∃ c, s0 = c :: 32 :: s ∧ md = [c]
  | 3, s, md, nm, _ => ∃ c q, s0 = c :: 32 :: q ∧ md = [c] ∧ cutAt 0 q = some (nm, s)
  | _, s, md, nm, di => ∃ c q r, s0 = c :: 32 :: q ∧ md = [c] ∧ cutAt 0 q = some (nm, r) ∧ 64 ≤ r.length ∧ di = r.take 64 ∧ s = r.drop 64
def itmP (w : World) (s0 : List UInt8) (i : Nat) (s : List UInt8) (W : World) : Prop := s.length ≤ 1000000 ∧ ∃ md nm di, ItmEnv w W md nm di ∧ itmRel s0 i s md nm di
def itmF (w : World) (s0 : List UInt8) (_ : Value) (W : World) : Prop := getI s0 = none ∧ Below w.heap.size w W ∧ W.heap[w.heap.size]? = some (.cells #[.int .i64 0, .string ⟨#[]⟩, .string ⟨#[]⟩] 59 (0, 0))
def itmG : Nat → FuncId
  | 0 => 173
  | 1 => 161
  | 2 => 174
  | _ => 173
def itmL (N : Nat) : Nat → Array Value
  | 0 => #[.pointer (some ⟨N + 3, 0, none⟩), .pointer (some ⟨N + 4, 0, none⟩)]
  | 1 => #[.pointer (some ⟨N + 5, 0, none⟩)]
  | 2 => #[.pointer (some ⟨N + 6, 0, none⟩), .pointer (some ⟨N + 7, 0, none⟩)]
  | _ => #[.pointer (some ⟨N + 8, 0, none⟩), .pointer (some ⟨N + 9, 0, none⟩)]
theorem cell_of {W : World} {b i : Nat} {cs : Array Value} {t : TypeId} {v : Value} (h : W.heap[b]? = some (.cells cs t (0, 0))) (hv : cs[i]? = some v) : W.cell? ⟨b, i, none⟩ = some v := (cell_of_row W b i cs t (0, 0) h).trans hv
theorem frozen_of {W : World} {b i : Nat} {cs : Array Value} {t : TypeId} (h : W.heap[b]? = some (.cells cs t (0, 0))) : W.frozen? ⟨b, i, none⟩ = false := by
  simp [World.frozen?, h]
theorem itm_step (w : World) (he : Er w) (s0 : List UInt8) : ∀ i s W, i < 4 → itmP w s0 i s W → Calls Tryz.prog (itmG i) (#[.string ⟨s.toArray⟩] ++ itmL w.heap.size i) W (StepPost (itmP w s0 (i + 1)) (itmF w s0)) := by
  have hgl : 1 < w.heap.size := by
    obtain ⟨a, h⟩ := he.wrong; exact World.block_lt_of_cell? w _ h
  intro i s W hi hP
  obtain ⟨hs, md, nm, di, E, R⟩ := hP
  have heW := he.below E.below
  match i, hi, R with
  | 0, _, R =>
    have e0 : s = s0 := R
    subst e0
    cases s with
    | nil =>
      refine (some_no [] 1 (by simp) (w.heap.size + 3) _ W (cell_of E.b3 rfl) heW).mono ?_
      rintro e w' ⟨⟨p, rfl⟩, hb⟩
      exact .inr ⟨_, p, rfl, rfl, E.below.trans (hb.mono E.below.size), (hb.block _ (lt_heap E.r0)).trans E.r0⟩
    | cons c s =>
      refine (some_yes (c :: s) 1 (by simp) (w.heap.size + 3) (w.heap.size + 4) (w.heap.size + 2) 0 _ W (cell_of E.b3 rfl) (cell_of E.b4 rfl) (cell_of E.mo rfl) (frozen_of E.mo) (by omega)).mono ?_
      rintro e w' ⟨rfl, ht⟩
      exact .inl ⟨s, rfl, by simp at hs; omega, _, _, _, E.mode ht, c, rfl, rfl⟩
  | 1, _, R =>
    obtain ⟨c, e0, e1⟩ := R
    by_cases hp : ([32] : List UInt8).isPrefixOf s = true
    · refine (past_yes s [32] (w.heap.size + 5) W (cell_of E.b5 rfl) heW hp).mono ?_
      rintro e w' ⟨rfl, rfl⟩
      obtain ⟨q, hq⟩ := pre_iff.1 hp
      refine .inl ⟨q, by rw [hq]; rfl, by rw [hq] at hs; simp at hs; omega, _, _, _, E, c, by rw [e0, hq]; rfl, e1⟩
    · obtain ⟨a, b, _, _, c3⟩ := heW.two
      refine (past_no s [32] (w.heap.size + 5) W (cell_of E.b5 rfl) _ c3 (Bool.eq_false_iff.2 hp)).mono ?_
      rintro e w' ⟨rfl, rfl⟩
      refine .inr ⟨_, _, rfl, ?_, E.below.trans ((below_new W _).mono E.below.size), ((below_new W _).block _ (lt_heap E.r0)).trans E.r0⟩
      rw [e0]
      cases s with
      | nil => rfl
      | cons b s =>
        rw [getI, if_neg]
        intro h; subst h; exact hp (by simp)
  | 2, _, R =>
    obtain ⟨c, e0, e1⟩ := R
    cases hc : cutAt 0 s with
    | none =>
      obtain ⟨ew, c1⟩ := heW.wrong
      refine (until_no s hs 0 (w.heap.size + 6) (w.heap.size + 7) (w.heap.size + 1) 1 _ W (cell_of E.b6 rfl) (cell_of E.b7 rfl) (cell_of E.it rfl) (frozen_of E.it) ew c1 (by omega) hc).mono ?_
      rintro e w' ⟨rfl, ht, _⟩
      refine .inr ⟨_, _, rfl, ?_, (E.nameT ht).below, (E.nameT ht).r0⟩
      rw [e0, getI, if_pos rfl, hc]
    | some p =>
      obtain ⟨a, r⟩ := p
      refine (until_yes s a r hs 0 (w.heap.size + 6) (w.heap.size + 7) (w.heap.size + 1) 1 _ W (cell_of E.b6 rfl) (cell_of E.b7 rfl) (cell_of E.it rfl) (frozen_of E.it) heW (by omega) hc).mono ?_
      rintro e w' ⟨rfl, ht⟩
      exact .inl ⟨r, rfl, by have := (cutAt_some hc).1; rw [this] at hs; simp at hs; omega, _, _, _, E.nameT ht, c, s, e0, e1, hc⟩
  | 3, _, R =>
    obtain ⟨c, q, e0, e1, hc⟩ := R
    by_cases hl : 64 ≤ s.length
    · refine (some_yes s 64 hl (w.heap.size + 8) (w.heap.size + 9) (w.heap.size + 1) 2 _ W (cell_of E.b8 rfl) (cell_of E.b9 rfl) (cell_of E.it rfl) (frozen_of E.it) (by omega)).mono ?_
      rintro e w' ⟨rfl, ht⟩
      exact .inl ⟨_, rfl, by rw [List.length_drop]; omega, _, _, _, E.idT ht, c, q, s, e0, e1, hc, hl, rfl, rfl⟩
    · refine (some_no s 64 (by omega) (w.heap.size + 8) _ W (cell_of E.b8 rfl) heW).mono ?_
      rintro e w' ⟨⟨p, rfl⟩, hb⟩
      refine .inr ⟨_, p, rfl, ?_, E.below.trans (hb.mono E.below.size), (hb.block _ (lt_heap E.r0)).trans E.r0⟩
      rw [e0, getI, if_pos rfl, hc]
      show (if 64 ≤ s.length then _ else _) = _
      rw [if_neg hl]
end Go.Proofs.YtngphfogomchfaaGreatDoor
namespace Go.Proofs.YtngphfogomchfaaGreatDoor
open Go Go.RowKit Go.Shelf
theorem alloc_heap (w : World) (o : Obj) : (w.alloc o).heap = w.heap.push o := rfl
/-- What readItem answers. -/
def ItmPost (o : Option (Itm × List UInt8)) (w : World) (e : Ending) (w' : World) : Prop :=
  (match o with
  | some (x, r) => e = .returned (.tuple #[ItV x, SV r, .nilIface])
  | none => ∃ p, e = .returned (.tuple #[.agg #[.int .i64 0, .string ⟨#[]⟩, .string ⟨#[]⟩], .string ⟨#[]⟩, .iface 134 (.pointer (some p))])) ∧ Below w.heap.size w w'
theorem cells3' (W : World) (n : Nat) (a b c : Value) {a' b' c' : Value} (h0 : W.cell? ⟨n, 0, none⟩ = some a') (h1 : W.cell? ⟨n, 1, none⟩ = some b') (h2 : W.cell? ⟨n, 2, none⟩ = some c') :
    (W.setCell ⟨n, 0, none⟩ a).cell? ⟨n, 0, none⟩ = some a ∧ ((W.setCell ⟨n, 0, none⟩ a).setCell ⟨n, 1, none⟩ b).cell? ⟨n, 1, none⟩ = some b ∧ (((W.setCell ⟨n, 0, none⟩ a).setCell ⟨n, 1, none⟩ b).setCell ⟨n, 2, none⟩ c).cell? ⟨n, 2, none⟩ = some c := by
  refine ⟨?_, ?_, ?_⟩
  · simp [go_sem, h0]
  · simp [go_sem, h1]
  · simp [go_sem, h2]
theorem cells3 (W : World) (n : Nat) (p : Addr) (x a b c : Value) {a' b' c' : Value} (hp : p.block ≠ n) (h0 : W.cell? ⟨n, 0, none⟩ = some a') (h1 : W.cell? ⟨n, 1, none⟩ = some b') (h2 : W.cell? ⟨n, 2, none⟩ = some c') :
    ((W.setCell p x).setCell ⟨n, 0, none⟩ a).cell? ⟨n, 0, none⟩ = some a ∧ (((W.setCell p x).setCell ⟨n, 0, none⟩ a).setCell ⟨n, 1, none⟩ b).cell? ⟨n, 1, none⟩ = some b ∧ ((((W.setCell p x).setCell ⟨n, 0, none⟩ a).setCell ⟨n, 1, none⟩ b).setCell ⟨n, 2, none⟩ c).cell? ⟨n, 2, none⟩ = some c := by
  have hc : ∀ i, (W.setCell p x).cell? ⟨n, i, none⟩ = W.cell? ⟨n, i, none⟩ := fun i => World.cell?_setCell_far _ _ _ _ hp
  exact cells3' _ n a b c ((hc 0).trans h0) ((hc 1).trans h1) ((hc 2).trans h2)
set_option maxRecDepth 100000 in
set_option maxHeartbeats 4000000 in
theorem readItem_any (s : List UInt8) (hs : s.length ≤ 1000000) (w : World) (he : Er w) : Calls Tryz.prog 137 #[.string ⟨s.toArray⟩] w (ItmPost (getI s) w) := by
  have HST := Lib.hid (itm_step w he s)
  have HS := Lib.hid hs
  clear he hs
  go_enter Tryz.func137, Tryz.ntmps137
  go_wp2_with fail
  refine (some_mk _ _ _).mono ?_
  rintro e w1 ⟨rfl, rfl⟩
  go_wp2_with fail
  refine (past_mk _ _).mono ?_
  rintro e w1 ⟨rfl, rfl⟩
  go_wp2_with fail
  refine (until_mk _ _ _).mono ?_
  rintro e w1 ⟨rfl, rfl⟩
  go_wp2_with fail
  refine (some_mk _ _ _).mono ?_
  rintro e w1 ⟨rfl, rfl⟩
  go_wp2_with fail
  refine (read_gen 4 4 (w.heap.size + 10) (by decide) itmG (itmL w.heap.size) (itmP w s) (itmF w s) ?c1 ?c2 HST.out s _ ?c3).mono ?_
  case c1 =>
    rintro i r W hi ⟨_, md, nm, di, E, _⟩
    refine cell_of E.b10 ?_
    match i, hi with
    | 0, _ => rfl
    | 1, _ => rfl
    | 2, _ => rfl
    | 3, _ => rfl
  case c2 =>
    intro i hi
    match i, hi with
    | 0, _ => exact enters_of Tryz.func173 (by kernel_rfl) rfl
    | 1, _ => exact enters_of Tryz.func161 (by kernel_rfl) rfl
    | 2, _ => exact enters_of Tryz.func174 (by kernel_rfl) rfl
    | 3, _ => exact enters_of Tryz.func173 (by kernel_rfl) rfl
  case c3 =>
    refine ⟨HS.out, [], [], [], ⟨?_, ?_, ?_, ?_, ?_, ?_, ?_, ?_, ?_, ?_, ?_, ?_⟩, rfl⟩
    · refine Below.alloc (Below.alloc (Below.alloc (Below.alloc (Below.alloc (Below.alloc (Below.alloc (Below.alloc (Below.alloc (Below.alloc (Below.alloc (Below.refl _ _) ?_ _) ?_ _) ?_ _) ?_ _) ?_ _) ?_ _) ?_ _) ?_ _) ?_ _) ?_ _) ?_ _ <;> first | omega | (simp only [World.size_alloc]; omega)
    all_goals (simp only [alloc_heap, Array.getElem?_push, Array.size_push, Nat.add_assoc, Nat.reduceAdd]; simp [SV])
  rintro e W (⟨r, rfl, _, md, nm, di, E, R⟩ | ⟨r, p, rfl, hg, hb, h0⟩)
  · obtain ⟨c, q, t, e0, e1, hc, hl, rfl, rfl⟩ := R
    subst e1
    have hg : getI s = some (⟨(c.toNat : Int) - 48, nm, t.take 64⟩, t.drop 64) := by
      rw [e0, getI, if_pos rfl, hc]
      show (if 64 ≤ t.length then _ else _) = _
      rw [if_pos hl]
    have B := Lib.hid E.below
    have x0 : W.cell? ⟨w.heap.size + 1, 0, none⟩ = some (.int .i64 0) := cell_of E.it rfl
    have x1 : W.cell? ⟨w.heap.size + 1, 1, none⟩ = some (SV nm) := cell_of E.it rfl
    have x2 : W.cell? ⟨w.heap.size + 1, 2, none⟩ = some (SV (t.take 64)) := cell_of E.it rfl
    have z1 : ∀ i, W.frozen? ⟨w.heap.size + 1, i, none⟩ = false := fun i => frozen_of E.it
    have y0 : W.cell? ⟨w.heap.size, 0, none⟩ = some (.int .i64 0) := cell_of E.r0 rfl
    have y1 : W.cell? ⟨w.heap.size, 1, none⟩ = some (.string ⟨#[]⟩) := cell_of E.r0 rfl
    have y2 : W.cell? ⟨w.heap.size, 2, none⟩ = some (.string ⟨#[]⟩) := cell_of E.r0 rfl
    have z0 : ∀ i, W.frozen? ⟨w.heap.size, i, none⟩ = false := fun i => frozen_of E.r0
    have m0 : W.cell? ⟨w.heap.size + 2, 0, none⟩ = some (.string ⟨#[c]⟩) := cell_of E.mo rfl
    have hcl : (c.toNat : Int) < 256 := by have := c.toNat_lt; omega
    have hcl0 : 0 ≤ (c.toNat : Int) := by omega
    have ge : ∀ h, (⟨#[c]⟩ : ByteArray)[0]'h = c := fun _ => rfl
    have z00 := z0 0; have z01 := z0 1; have z02 := z0 2; have z10 := z1 0
    generalize t.take 64 = di at x2 hg ⊢
    generalize t.drop 64 = r at hg ⊢
    have HG := Lib.hid hg
    unfold SV at x1 x2 m0 ⊢
    clear E hg hc e0 hl z0 z1
    have f0 := cells3 W w.heap.size ⟨w.heap.size + 1, 0, none⟩ (.int .i64 ((c.toNat : Int) - 48)) (.int .i64 ((c.toNat : Int) - 48)) (.string ⟨nm.toArray⟩) (.string ⟨di.toArray⟩) (by simp) y0 y1 y2
    obtain ⟨f0, f1, f2⟩ := f0
    go_wp2_with fail
    refine bodyPost_ret (v := .tuple #[.agg #[.int .i64 ((c.toNat : Int) - 48), .string ⟨nm.toArray⟩, .string ⟨di.toArray⟩], .string ⟨r.toArray⟩, .nilIface]) (by simp [results, Tryz.results137, go_sem, f0, f1, f2]) rfl ?_
    rw [HG.out]
    exact ⟨rfl, (((B.out.setCell (Nat.le_add_right _ 1) _).setCell (Nat.le_refl _) _).setCell (Nat.le_refl _) _).setCell (Nat.le_refl _) _⟩
  · obtain ⟨pb, po, ps⟩ := p
    have HG := Lib.hid hg
    have B := Lib.hid hb
    have y0 : W.cell? ⟨w.heap.size, 0, none⟩ = some (.int .i64 0) := cell_of h0 rfl
    have y1 : W.cell? ⟨w.heap.size, 1, none⟩ = some (.string ⟨#[]⟩) := cell_of h0 rfl
    have y2 : W.cell? ⟨w.heap.size, 2, none⟩ = some (.string ⟨#[]⟩) := cell_of h0 rfl
    have z0 : ∀ i, W.frozen? ⟨w.heap.size, i, none⟩ = false := fun i => frozen_of h0
    have z00 := z0 0; have z01 := z0 1; have z02 := z0 2
    clear hg hb h0 z0
    have f0 := cells3' W w.heap.size (.int .i64 0) (.string ⟨#[]⟩) (.string ⟨#[]⟩) y0 y1 y2
    obtain ⟨f0, f1, f2⟩ := f0
    go_wp2_with fail
    refine bodyPost_ret (v := .tuple #[.agg #[.int .i64 0, .string ⟨#[]⟩, .string ⟨#[]⟩], .string ⟨#[]⟩, .iface 134 (.pointer (some ⟨pb, po, ps⟩))]) (by simp [results, Tryz.results137, go_sem, f0, f1, f2]) rfl ?_
    rw [HG.out]
    exact ⟨⟨_, rfl⟩, ((B.out.setCell (Nat.le_refl _) _).setCell (Nat.le_refl _) _).setCell (Nat.le_refl _) _⟩
end Go.Proofs.YtngphfogomchfaaGreatDoor
