/-
  The reader: next, line.
  Slices of bytes that are read, that are joined; what the calls ask of the listed variables.
  fits, whole, Get.
  Put, the program's and the document's.
  Text, the program's and the document's.
  Decimal.
  write's closures: say, sayEach.
-/
import Derived.Lib.SlBytesConst
import Derived.Test.YtnboagmibhllpaaGreatDoorC10
import Derived.Below
import Derived.Laws.OwnMore
import Derived.Deep.Draws
import Derived.Laws.Rows
import Derived.Laws.AppendOwnNone
import Derived.Laws.IdiomStrings
import Derived.Deep.QuietTactic
import Derived.BigQuiet
import Derived.IntWalk
import Derived.Lib.Hide
import Derived.Lib.IndexLaws
import Derived.Lib.LaidTab
import Derived.Test.YtnboagmibhllpaaGreatDoorC06
import Derived.Test.YtnboagmibhllpaaGreatDoorLay
import Derived.Lib.ItoaMem
import Derived.Lib.AppendIntMem
import Derived.Lib.AtoiAllCases
import Derived.Test.YtnboagmibhllpaaGreatDoorC02

namespace Go.Proofs.YtnboagmibhllpaaGreatDoor.Ro
open Go.Proofs.YtnboagmibhllpaaGreatDoor
open Go Go.RowKit

/-- The value of an error, or none. -/
def ErrV (v : Value) : Prop := v = .nilIface ∨ ∃ t q, v = .iface t q
set_option maxHeartbeats 1000000 in
theorem next_end {w : World} {a : Nat} {A : Option Addr} {c : Nat} {k : Int} {E : ErA} (h : w.heap[a]? = some (.cells #[.slice A 0 c, .int .i64 k, .nilIface] 82 (0, 0))) (hE : Er E w) (f : Value) : Calls Tryz.prog 98 #[.pointer (some ⟨a, 0, none⟩), f] w fun e w' => e = .returned (ev E.fin) ∧ w = w' := by
  have c0 : w.cell? ⟨a, 0, none⟩ = some (.slice A 0 c) := (cell_of_row w a 0 _ _ _ h).trans rfl
  have e0 := hE.fin
  unfold ev at e0 ⊢
  clear h hE
  go_enter Tryz.func98, Tryz.ntmps98
  go_wp2
  go_ret
  exact ⟨rfl, rfl⟩
set_option maxHeartbeats 4000000 in
set_option maxRecDepth 100000 in
theorem next_form {w0 w : World} {a : Nat} {A : Option Addr} {n c : Nat} {k : Int} {E : ErA} {s : Bs} (h : w.heap[a]? = some (.cells #[.slice A n c, .int .i64 k, .nilIface] 82 (0, 0))) (hE : Er E w0) (hr : Rb w0 (.slice A n c) s) (hn : n = s.length) (hl : s.length ≤ 1000000) (low : Below w0.heap.size w0 w) (h0 : s ≠ []) (hc : cutAt 10 s = none) (f : Value) :
    Calls Tryz.prog 98 #[.pointer (some ⟨a, 0, none⟩), f] w fun e w' => e = .returned (ev E.form) ∧ Below w.heap.size w w' := by
  have kc := fun (w : World) (C : Array Value) (n c : Nat) => Lib.run_convert_bytes_const (P := Tryz.prog) w 26 5 C n c Tryz.underlying26 Tryz.underlying5
  have h0' : 0 < s.length := by rcases s with _ | ⟨x, s⟩; exact absurd rfl h0; simp
  obtain ⟨g, o, rfl⟩ : ∃ g o, A = some ⟨g, o, none⟩ := by
    rcases hr with ⟨_, e⟩ | ⟨g, o, c', e, _⟩
    · exact absurd e h0
    · cases e; exact ⟨g, o, rfl⟩
  have c0 : w.cell? ⟨a, 0, none⟩ = some (.slice (some ⟨g, o, none⟩) n c) := (cell_of_row w a 0 _ _ _ h).trans rfl
  have hne : ((n : Int) == 0) = false := by simp; omega
  obtain ⟨wb, hwb⟩ : ∃ y, y = w.alloc (.cells #[.int .u8 10] 5 (1, 2)) := ⟨_, rfl⟩
  have lb : Below w.heap.size w wb := by rw [hwb]; exact below_new _ _
  have hcb : wb.cell? ⟨w.heap.size, 0, none⟩ = some (.int .u8 10) := by rw [hwb]; exact (cell_of_row _ _ 0 _ _ _ (heap_alloc_new w _)).trans rfl
  have HC := Lib.hid (bCut_p hr (low.trans (lb.mono low.size)) h0' hl hcb)
  have HB := Lib.hid lb; have HW := Lib.hid hwb; have Hc := Lib.hid hc; have HE := Lib.hid hE; have HL := Lib.hid low
  clear h hr hn hl h0 h0' hc hwb lb hcb hE low
  unfold ev
  go_enter Tryz.func98, Tryz.ntmps98
  go_wp2_with fail
  rw [← HW.out]
  refine HC.out.mono ?_
  rintro e w2 ⟨(⟨_, A1, n1, c1, A2, n2, c2, rfl⟩ | ⟨l, r, A1, n1, c1, A2, n2, c2, h1, _⟩), l2⟩
  case inr => rw [Hc.out] at h1; cases h1
  have e0 := (HE.out.below (HL.out.trans ((HB.out.trans (l2.mono HB.out.size)).mono HL.out.size))).form
  have L2 := Lib.hid (HB.out.trans (l2.mono HB.out.size))
  unfold ev at e0
  clear l2 HC HW HB kc c0
  go_wp2_with fail
  go_ret
  exact ⟨rfl, L2.out⟩
/-- What next makes of a line that there is. -/
def NextP (w0 : World) (a : Nat) (r : Bs) (k : Nat) (Q : Value → World → Prop) (e : Ending) (w' : World) : Prop :=
  ∃ v, e = .returned v ∧ ErrV v ∧ Q v w' ∧ Below w0.heap.size w0 w' ∧ ∃ A n c, w'.heap[a]? = some (.cells #[.slice A n c, .int .i64 ((k : Nat) : Int), .nilIface] 82 (0, 0)) ∧ n = r.length ∧ Rb w0 (.slice A n c) r
set_option maxHeartbeats 4000000 in
set_option maxRecDepth 100000 in
theorem next_take {w0 w : World} {a : Nat} {A : Option Addr} {n c k : Nat} {s l r : Bs} (h : w.heap[a]? = some (.cells #[.slice A n c, .int .i64 (k : Int), .nilIface] 82 (0, 0))) (hr : Rb w0 (.slice A n c) s) (hn : n = s.length) (hk : k + r.length ≤ 1000000) (hl : s.length ≤ 1000000) (low : Below w0.heap.size w0 w) (lo : w0.heap.size ≤ a) (hc : cutAt 10 s = some (l, r))
    (g : FuncId) (lb : Array Value) (eg : ∀ args w, (callFunc g args).run Tryz.prog w = .ok (.enter g args) w) (Q : Value → World → Prop)
    (ht : ∀ W, Rd w0 W a r → But (fun k => k = a) w W → Calls Tryz.prog g (#[.string ⟨l.toArray⟩] ++ lb) W fun e W' => ∃ v, e = .returned v ∧ ErrV v ∧ Ch w0 a W W' ∧ Q v W') :
    Calls Tryz.prog 98 #[.pointer (some ⟨a, 0, none⟩), .func (.func g) #[] lb] w (NextP w0 a r k Q) := by
  have kc := fun (w : World) (C : Array Value) (n c : Nat) => Lib.run_convert_bytes_const (P := Tryz.prog) w 26 5 C n c Tryz.underlying26 Tryz.underlying5
  obtain ⟨es, _⟩ := cutAt_some hc
  have h0 : s ≠ [] := by rw [es]; simp
  have h0' : 0 < s.length := by rw [es, List.length_append, List.length_cons]; omega
  obtain ⟨gg, o, rfl⟩ : ∃ g o, A = some ⟨g, o, none⟩ := by
    rcases hr with ⟨_, e⟩ | ⟨g, o, c', e, _⟩
    · exact absurd e h0
    · cases e; exact ⟨g, o, rfl⟩
  have c0 : w.cell? ⟨a, 0, none⟩ = some (.slice (some ⟨gg, o, none⟩) n c) := (cell_of_row w a 0 _ _ _ h).trans rfl
  have hne : ((n : Int) == 0) = false := by simp; omega
  obtain ⟨wb, hwb⟩ : ∃ y, y = w.alloc (.cells #[.int .u8 10] 5 (1, 2)) := ⟨_, rfl⟩
  have lbw : Below w.heap.size w wb := by rw [hwb]; exact below_new _ _
  have hcb : wb.cell? ⟨w.heap.size, 0, none⟩ = some (.int .u8 10) := by rw [hwb]; exact (cell_of_row _ _ 0 _ _ _ (heap_alloc_new w _)).trans rfl
  have HC := Lib.hid (bCut_p hr (low.trans (lbw.mono low.size)) h0' hl hcb)
  have HB := Lib.hid lbw; have HW := Lib.hid hwb; have Hc := Lib.hid hc; have HL := Lib.hid low; have HH := Lib.hid h; have HT := Lib.hid ht; have HLo := Lib.hid lo; have Hk := Lib.hid hk
  clear h hr hn hl h0 h0' hc hwb lbw hcb low es ht lo hk
  go_enter Tryz.func98, Tryz.ntmps98
  go_wp2_with fail
  rw [← HW.out]
  refine HC.out.mono ?_
  rintro e w2 ⟨(⟨h1, _⟩ | ⟨l', r', A1, n1, c1, A2, n2, c2, h1, rfl, hn1, hn2, hr1, hr2⟩), l2⟩
  case inl => rw [Hc.out] at h1; cases h1
  rw [Hc.out] at h1
  obtain ⟨rfl, rfl⟩ : l = l' ∧ r = r' := by cases h1; exact ⟨rfl, rfl⟩
  have b2 : Below w.heap.size w w2 := HB.out.trans (l2.mono HB.out.size)
  have hh2 := (b2.block a (lt_heap HH.out)).trans HH.out
  have c02 : w2.cell? ⟨a, 0, none⟩ = some (.slice (some ⟨gg, o, none⟩) n c) := (cell_of_row w2 a 0 _ _ _ hh2).trans rfl
  have f02 : w2.frozen? ⟨a, 0, none⟩ = false := by unfold World.frozen?; simp only [hh2]; rfl
  obtain ⟨w3, hw3⟩ : ∃ y, y = w2.setCell ⟨a, 0, none⟩ (.slice A2 n2 c2) := ⟨_, rfl⟩
  have t3 : But (fun k => k = a) w w3 := (But.of_new b2).trans (by rw [hw3]; exact but_set _ a 0 _)
  have low3 : Below w0.heap.size w0 w3 := HL.out.trans (t3.below (fun k _ hk => by have := HLo.out; omega) HL.out.size)
  have hh3 : w3.heap[a]? = some (.cells #[.slice A2 n2 c2, .int .i64 (k : Int), .nilIface] 82 (0, 0)) := by rw [hw3]; exact (blk_set hh2 _).trans rfl
  have rd3 : Rd w0 w3 a r := ⟨⟨A2, n2, c2, k, hh3, hn2, hr2, Hk.out⟩, low3, HLo.out⟩
  have HCall := Lib.hid (HT.out w3 rd3 t3)
  have hcv := (hr1.below low3 (Nat.le_refl _)).conv
  have HF : Hid (∀ v W', ErrV v → Ch w0 a w3 W' → Q v W' → NextP w0 a r k Q (.returned v) W') := Lib.hid fun v W' h1 h2 h3 => ⟨v, rfl, h1, h3, (rd3.ch h2).low, A2, n2, c2, (h2.block a (lt_heap hh3) (fun hs => hs.2.1 rfl)).trans hh3, hn2, hr2⟩
  have HW3 := Lib.hid hw3; have HCv := Lib.hid hcv
  clear hn1 hn2 hr1 hr2 b2 hh2 t3 low3 hh3 rd3 h1 l2 hw3 hcv HC HW HB kc c0
  go_upto_region 7 with fail
  rw [← HW3.out]
  have hcv := HCv.out
  clear HW3 HCv c02 f02
  go_wp2_with (go_at_fn g; refine HCall.out.mono ?_; rintro e w4 ⟨v, rfl, h1, h2, h3⟩; have H4 := Lib.hid (HF.out v w4 h1 h2 h3); clear h1 h2 h3 hcv)
  go_ret
  exact H4.out

/-! ### line -/
set_option maxHeartbeats 1000000 in
theorem line_has {w0 w : World} {a : Nat} {v : Value} (h : RdE w0 w a v) (f : Value) : Calls Tryz.prog 72 #[.pointer (some ⟨a, 0, none⟩), f] w fun e w' => e = .returned (.tuple #[]) ∧ w = w' := by
  obtain ⟨A, n, c, k, p, j, h1, h2⟩ := h.blk
  have c2 : w.cell? ⟨a, 2, none⟩ = some (.iface 146 (.pointer (some ⟨p, 0, none⟩))) := (cell_of_row w a 2 _ _ _ h1).trans rfl
  clear h1 h2 h
  go_enter Tryz.func72, Tryz.ntmps72
  go_wp2
  (try simp only [Exit.inBlock, Exit.then]); refine bodyPost_ret (results_none rfl _ _ _) rfl ?_
  exact ⟨rfl, rfl⟩
/-- One line more is counted. -/
theorem at_one {w : World} {a k : Nat} {A : Option Addr} {n c : Nat} (h : w.heap[a]? = some (.cells #[.slice A n c, .int .i64 (k : Int), .nilIface] 82 (0, 0))) :
    (w.setCell ⟨a, 1, none⟩ (.int .i64 ((k : Int) + 1))).heap[a]? = some (.cells #[.slice A n c, .int .i64 ((k + 1 : Nat) : Int), .nilIface] 82 (0, 0)) := (blk_set h _).trans rfl
def LineE (w0 w : World) (a : Nat) (v : Value) (e : Ending) (w' : World) : Prop := e = .returned (.tuple #[]) ∧ RdE w0 w' a v ∧ But (fun k => k = a) w w'
set_option maxHeartbeats 4000000 in
set_option maxRecDepth 100000 in
theorem line_end {w0 w : World} {a : Nat} {E : ErA} {s : Bs} (h : Rd w0 w a s) (hE : Er E w0) (hc : cutAt 10 s = none) (f : Value) : Calls Tryz.prog 72 #[.pointer (some ⟨a, 0, none⟩), f] w (LineE w0 w a (if s = [] then ev E.fin else ev E.form)) := by
  obtain ⟨A, n, c, k, hk, hn, hr, hb⟩ := h.blk
  have c2 : w.cell? ⟨a, 2, none⟩ = some .nilIface := (cell_of_row w a 2 _ _ _ hk).trans rfl
  have c1 : w.cell? ⟨a, 1, none⟩ = some (.int .i64 (k : Int)) := (cell_of_row w a 1 _ _ _ hk).trans rfl
  have f1 : w.frozen? ⟨a, 1, none⟩ = false := by unfold World.frozen?; simp only [hk]; rfl
  have hkb : k ≤ 1000000 := by omega
  obtain ⟨w1, hw1⟩ : ∃ y, y = w.setCell ⟨a, 1, none⟩ (.int .i64 ((k : Int) + 1)) := ⟨_, rfl⟩
  have h1 := at_one hk
  have t1 := but_set w a 1 (.int .i64 ((k : Int) + 1))
  rw [← hw1] at h1 t1
  have low1 : Below w0.heap.size w0 w1 := h.low.trans (t1.below (fun k _ hk => by have := h.lo; omega) h.low.size)
  obtain ⟨v, hv⟩ : ∃ v, v = if s = [] then ev E.fin else ev E.form := ⟨_, rfl⟩
  obtain ⟨ea, hea⟩ : ∃ x, v = ev x := by
    by_cases hs : s = []
    · exact ⟨E.fin, by rw [hv, if_pos hs]⟩
    · exact ⟨E.form, by rw [hv, if_neg hs]⟩
  have HN : Hid (Calls Tryz.prog 98 #[.pointer (some ⟨a, 0, none⟩), f] w1 fun e w' => e = .returned (ev ea) ∧ Below w1.heap.size w1 w') := Lib.hid (by
    rw [← hea, hv]
    by_cases hs : s = []
    · rw [if_pos hs]
      have hn0 : n = 0 := by rw [hn, hs]; rfl
      subst hn0
      exact (next_end h1 (hE.below low1) f).mono fun e w' he => ⟨he.1, he.2 ▸ Below.refl _ _⟩
    · rw [if_neg hs]
      exact next_form h1 hE hr hn (by omega) low1 hs hc f)
  rw [← hv, hea]
  have HW := Lib.hid hw1; have H1 := Lib.hid h1; have T1 := Lib.hid t1; have HLow := Lib.hid low1; have HLo := Lib.hid h.lo
  unfold ev at HN ⊢
  clear hk hn hr hb h1 t1 low1 hv hea hw1 h hE hc
  go_enter Tryz.func72, Tryz.ntmps72
  go_upto_region 2 with fail
  rw [← HW.out]
  clear c1 c2 f1 HW
  go_wp2_with fail
  refine HN.out.mono ?_
  rintro e w2 ⟨rfl, l2⟩
  have h2 := (l2.block a (lt_heap H1.out)).trans H1.out
  have HK := Lib.hid (keep_err (t := 206) (q := .pointer (some ea)) h2)
  have HM : Hid (∀ w', w' = (w2.alloc (.cells #[.int .i64 ((k + 1 : Nat) : Int), .iface 206 (.pointer (some ea))] 148)).setCell ⟨a, 2, none⟩ (.iface 146 (.pointer (some ⟨w2.heap.size, 0, none⟩))) → LineE w0 w a (.iface 206 (.pointer (some ea))) (.returned (.tuple #[])) w') := Lib.hid fun w' hw' => by
    obtain ⟨r1, r2⟩ := RdE.mk' h2 (HLow.out.trans (l2.mono HLow.out.size)) HLo.out hw'
    exact ⟨rfl, r1, (T1.out.trans (But.of_new l2)).trans r2⟩
  clear l2 h2 HN
  go_wp2_with fail
  refine HK.out.mono ?_
  rintro e w3 ⟨rfl, hw3⟩
  have H3 := Lib.hid (HM.out w3 hw3)
  clear hw3 HM HK
  go_wp2_with fail
  go_end0
  exact H3.out
/-- What line makes of a line that there is. -/
def LineP (w0 : World) (a : Nat) (r : Bs) (Q : Value → World → Prop) (e : Ending) (w' : World) : Prop :=
  e = .returned (.tuple #[]) ∧ ∃ v W', Q v W' ∧ But (fun k => k = a) W' w' ∧ ((v = .nilIface ∧ Rd w0 w' a r) ∨ (v ≠ .nilIface ∧ RdE w0 w' a v))
set_option maxHeartbeats 4000000 in
set_option maxRecDepth 100000 in
theorem line_take {w0 w : World} {a : Nat} {s l r : Bs} (h : Rd w0 w a s) (hc : cutAt 10 s = some (l, r)) (g : FuncId) (lb : Array Value) (eg : ∀ args w, (callFunc g args).run Tryz.prog w = .ok (.enter g args) w) (Q : Value → World → Prop)
    (ht : ∀ W, Rd w0 W a r → But (fun k => k = a) w W → Calls Tryz.prog g (#[.string ⟨l.toArray⟩] ++ lb) W fun e W' => ∃ v, e = .returned v ∧ ErrV v ∧ Ch w0 a W W' ∧ Q v W') :
    Calls Tryz.prog 72 #[.pointer (some ⟨a, 0, none⟩), .func (.func g) #[] lb] w (LineP w0 a r Q) := by
  obtain ⟨A, n, c, k, hk, hn, hr, hb⟩ := h.blk
  have c2 : w.cell? ⟨a, 2, none⟩ = some .nilIface := (cell_of_row w a 2 _ _ _ hk).trans rfl
  have c1 : w.cell? ⟨a, 1, none⟩ = some (.int .i64 (k : Int)) := (cell_of_row w a 1 _ _ _ hk).trans rfl
  have f1 : w.frozen? ⟨a, 1, none⟩ = false := by unfold World.frozen?; simp only [hk]; rfl
  have hkb : k ≤ 1000000 := by omega
  obtain ⟨w1, hw1⟩ : ∃ y, y = w.setCell ⟨a, 1, none⟩ (.int .i64 ((k : Int) + 1)) := ⟨_, rfl⟩
  have h1 := at_one hk
  have t1 := but_set w a 1 (.int .i64 ((k : Int) + 1))
  rw [← hw1] at h1 t1
  have low1 : Below w0.heap.size w0 w1 := h.low.trans (t1.below (fun k _ hk => by have := h.lo; omega) h.low.size)
  obtain ⟨es, _⟩ := cutAt_some hc
  have hsl : s.length = l.length + 1 + r.length := by rw [es]; simp; omega
  have HN := Lib.hid (next_take h1 hr hn (by omega) (by omega) low1 h.lo hc g lb eg Q (fun W h2 h3 => ht W h2 (t1.trans h3)))
  have HW := Lib.hid hw1; have HLo := Lib.hid h.lo; have Hk := Lib.hid (show k + 1 + r.length ≤ 1000000 by omega)
  clear hk hn hr hb h1 t1 low1 hw1 h hc ht es hsl
  go_enter Tryz.func72, Tryz.ntmps72
  go_upto_region 2 with fail
  rw [← HW.out]
  clear c1 c2 f1 HW
  go_wp2_with fail
  refine HN.out.mono ?_
  rintro e w2 ⟨v, rfl, hev, hq, low2, A2, n2, c2, hk2, hn2, hr2⟩
  have HQ := Lib.hid hq; have HL2 := Lib.hid low2; have HK2 := Lib.hid hk2; have HR2 := Lib.hid (And.intro hn2 hr2)
  clear hq low2 hk2 hn2 hr2 HN
  rcases hev with rfl | ⟨t, q, rfl⟩
  · have HKp := Lib.hid (keep_nil HK2.out)
    go_wp2_with fail
    refine HKp.out.mono ?_
    rintro e w3 ⟨rfl, rfl⟩
    go_wp2_with fail
    go_end0
    exact ⟨rfl, _, _, HQ.out, But.refl _ _, .inl ⟨rfl, ⟨A2, n2, c2, k + 1, HK2.out, HR2.out.1, HR2.out.2, Hk.out⟩, HL2.out, HLo.out⟩⟩
  · have HKp := Lib.hid (keep_err (t := t) (q := q) HK2.out)
    go_wp2_with fail
    refine HKp.out.mono ?_
    rintro e w3 ⟨rfl, hw3⟩
    have H3 := Lib.hid (RdE.mk' HK2.out HL2.out HLo.out hw3)
    clear hw3 HKp
    go_wp2_with fail
    go_end0
    exact ⟨rfl, _, _, HQ.out, H3.out.2, .inr ⟨by simp, H3.out.1⟩⟩
end Go.Proofs.YtnboagmibhllpaaGreatDoor.Ro


namespace Go.Proofs.YtnboagmibhllpaaGreatDoor.Nu
open Go Go.RowKit
def SV (l : List UInt8) : Value := .string ⟨l.toArray⟩
theorem ret_bool {a b : Bool} (h : a = b) : Ending.returned (.bool a) = .returned (.bool b) := by rw [h]
theorem add_none (g o j : Nat) : (⟨g, o, none⟩ : Addr).add j = ⟨g, o + j, none⟩ := by unfold Addr.add; split <;> simp_all
theorem below_new (w : World) (o : Obj) : Below w.heap.size w (w.alloc o) := (Below.refl _ w).alloc (Nat.le_refl _) o
/-- The slice value v holds the bytes l. -/
def Rb (w : World) (v : Value) (l : List UInt8) : Prop :=
  ((∃ A, v = .slice A 0 0) ∧ l = []) ∨ ∃ g o c, v = .slice (some ⟨g, o, none⟩) l.length c ∧ l.length ≤ c ∧ g < w.heap.size ∧ ∀ j, j < l.length → w.cell? ⟨g, o + j, none⟩ = some (.int .u8 ((l.getD j 0).toNat : Int))
theorem Rb.below {w w' : World} {v : Value} {l : List UInt8} {b : Nat} (h : Rb w v l) (hb : Below b w w') (hlt : w.heap.size ≤ b) : Rb w' v l := by
  rcases h with h | ⟨g, o, c, rfl, hc, hg, hcell⟩
  · exact .inl h
  · exact .inr ⟨g, o, c, rfl, hc, Nat.lt_of_lt_of_le hg hb.size, fun j hj => by rw [hb.cell (p := ⟨g, o + j, none⟩) (by show g < b; omega)]; exact hcell j hj⟩
theorem Rb.conv {w : World} {v : Value} {l : List UInt8} (h : Rb w v l) : (convert 26 9 v).run Tryz.prog w = .ok (.string ⟨l.toArray⟩) w := by
  rcases h with ⟨⟨A, rfl⟩, rfl⟩ | ⟨g, o, c, rfl, _, _, hc⟩
  · cases A with
    | none =>
      rw [run_convert_bytes_string w _ _ _ none 0 0 Tryz.underlying26 Tryz.underlying5 Tryz.underlying9]
      simp [Conv.bytesToString]; rfl
    | some a => exact run_convert_bytes_back w _ _ _ a 0 [] Tryz.underlying26 Tryz.underlying5 Tryz.underlying9 fun j hj => absurd hj (Nat.not_lt_zero _)
  · refine run_convert_bytes_back w _ _ _ ⟨g, o, none⟩ c l Tryz.underlying26 Tryz.underlying5 Tryz.underlying9 fun j hj => ?_
    rw [add_none, hc j hj, List.getD_eq_getElem?_getD, List.getElem?_eq_getElem hj]; rfl
theorem rb_one (w : World) (c : UInt8) : Rb (w.alloc (.cells #[.int .u8 (c.toNat : Int)] 5)) (.slice (some ⟨w.heap.size, 0, none⟩) 1 1) [c] :=
  .inr ⟨w.heap.size, 0, 1, rfl, Nat.le_refl _, by simp, fun j hj => by
    have h0 : j = 0 := by simpa using hj
    subst h0
    rw [Nat.zero_add, cell_of_row (w.alloc _) w.heap.size 0 _ _ _ (heap_alloc_new w _)]; rfl⟩
theorem append_S (p q : List UInt8) : (⟨p.toArray⟩ : ByteArray) ++ (⟨q.toArray⟩ : ByteArray) = ⟨(p ++ q).toArray⟩ := by
  apply ByteArray.ext
  rw [ByteArray.data_append]
  apply Array.ext'
  simp
/-- What the calls ask of the listed variables: the table of the powers of ten; two errors. -/
structure Pr (w : World) : Prop where
  tab : Lib.TabIs Tryz.prog w "internal/strconv.uint64pow10" .u64 Lib.pow10Tab
  syn : ∃ ev, w.cell? ⟨6, 0, none⟩ = some ev ∧ (ev = .nilIface ∨ ∃ te pe, ev = .iface te pe)
  rng : ∃ ev, w.cell? ⟨7, 0, none⟩ = some ev ∧ (ev = .nilIface ∨ ∃ te pe, ev = .iface te pe)
theorem block_lt {w : World} {a : Addr} {v : Value} (h : w.cell? a = some v) : a.block < w.heap.size := Lib.lt_of_cell h
theorem Pr.below {w w' : World} (h : Pr w) (hb : Below w.heap.size w w') : Pr w' := by
  obtain ⟨h1, ⟨e2, h2, k2⟩, e3, h3, k3⟩ := h
  refine ⟨?_, ⟨e2, (hb.cell (block_lt h2)).trans h2, k2⟩, e3, (hb.cell (block_lt h3)).trans h3, k3⟩
  have hg : Tryz.prog.globalNamed "internal/strconv.uint64pow10" = some 5 := by kernel_rfl
  have hlt : 5 < w.heap.size := block_lt (h1.cell hg 0 (by rw [Lib.pow10Tab_length]; decide))
  unfold Lib.TabIs World.var? at h1 ⊢
  rw [hg] at h1 ⊢
  simp only [Option.bind_some] at h1 ⊢
  rw [hb.block _ hlt]
  exact h1
end Go.Proofs.YtnboagmibhllpaaGreatDoor.Nu


namespace Go.Proofs.YtnboagmibhllpaaGreatDoor.Nu
open Go Go.RowKit
def fitsB (n : Int) : Bool := decide (0 ≤ n) && decide (n ≤ 1099511627776)
set_option maxHeartbeats 400000 in
theorem fits_any (n : Int) (w : World) : Calls Tryz.prog 127 #[.int .i64 n] w fun e w' => e = .returned (.bool (fitsB n)) ∧ w = w' := by
  unfold fitsB
  go_enter Tryz.func127, Tryz.ntmps127
  go_wp2
  all_goals (go_ret; refine ⟨ret_bool ?_, rfl⟩; first | rfl | (rw [Bool.eq_iff_iff]; simp; done) | (rw [Bool.eq_iff_iff]; simp; omega) | (simp; omega))
end Go.Proofs.YtnboagmibhllpaaGreatDoor.Nu


namespace Go.Proofs.YtnboagmibhllpaaGreatDoor.Nu
open Go Go.RowKit
theorem fitsB_iff (n : Int) : fitsB n = true ↔ 0 ≤ n ∧ n ≤ 1099511627776 := by unfold fitsB; simp
theorem byte_of {n : Nat} (h : n < 256) : ((UInt8.ofNat n).toNat : Int) = (n : Int) := by rw [UInt8.toNat_ofNat']; omega
end Go.Proofs.YtnboagmibhllpaaGreatDoor.Nu


namespace Go.Proofs.YtnboagmibhllpaaGreatDoor.Nu
open Go Go.RowKit
/-- A number's decimals; nothing below 0. -/
def textL (n : Int) : List UInt8 := if n < 0 then [] else Lib.decDigits n.toNat
theorem textL_nat (n : Nat) : textL (n : Int) = Lib.decDigits n := by unfold textL; rw [if_neg (by omega), Int.toNat_natCast]
set_option maxHeartbeats 400000 in
theorem Text_any (n : Int) (h0 : -9223372036854775808 ≤ n) (h1 : n ≤ 9223372036854775807) (w : World) (hp : Pr w) :
    Calls Tryz.prog 49 #[.int .i64 n] w fun e w' => e = .returned (SV (textL n)) ∧ Below w.heap.size w w' := by
  have HI := Lib.hid (Any.strconv_Itoa Tryz.itoaA n h0 h1 w hp.tab)
  clear hp
  by_cases h : n < 0
  · rw [show textL n = [] from if_pos h]
    unfold SV
    clear HI
    go_enter Tryz.func49, Tryz.ntmps49
    go_wp2
    go_ret
    exact ⟨rfl, Below.refl _ _⟩
  · have HT : Hid (Lib.itoa n = textL n) := Lib.hid (by unfold textL Lib.itoa; rw [if_neg h, if_neg h])
    rw [HT.out] at HI
    generalize textL n = t at HI ⊢
    clear HT
    unfold SV
    go_enter Tryz.func49, Tryz.ntmps49
    go_wp2_with fail
    refine HI.out.mono ?_
    rintro e w' ⟨rfl, k, os, rfl⟩
    go_wp2
    go_ret
    exact ⟨rfl, Lib.below_grow _ _ (Nat.le_refl _) _ _⟩
end Go.Proofs.YtnboagmibhllpaaGreatDoor.Nu


namespace Go.Proofs.YtnboagmibhllpaaGreatDoor.Nu
open Go Go.RowKit
def dN (r : Option Nat) : Nat := match r with | some n => n | none => 0
/-- What Decimal answers. -/
def decV (r : Option Nat) : Value := .tuple #[.int .i64 (dN r : Int), .bool r.isSome]
theorem decV_some (n : Nat) : decV (some n) = .tuple #[.int .i64 (n : Int), .bool true] := rfl
theorem decV_none : decV none = .tuple #[.int .i64 0, .bool false] := rfl
theorem decL_ok {s : List UInt8} {v : Int} (h : Lib.atoiAll s = .ok v) : decL s = if fitsB v = true ∧ textL v = s then some v.toNat else none := by
  unfold decL
  rw [h]
  by_cases hf : fitsB v = true
  · obtain ⟨a, b⟩ := (fitsB_iff v).1 hf
    have : textL v = Lib.decDigits v.toNat := by unfold textL; rw [if_neg (by omega)]
    rw [this]
    by_cases hs : Lib.decDigits v.toNat = s
    · rw [if_pos ⟨hf, hs⟩]
      exact if_pos ⟨a, b, hs⟩
    · rw [if_neg (fun h => hs h.2)]
      exact if_neg (fun h => hs h.2.2)
  · rw [if_neg (fun h => hf h.1)]
    exact if_neg (fun h => hf ((fitsB_iff v).2 ⟨h.1, h.2.1⟩))
set_option maxRecDepth 100000 in
set_option maxHeartbeats 1000000 in
theorem Decimal_any (s : List UInt8) (hs : s.length ≤ 1000000) (w : World) (hp : Pr w) :
    Calls Tryz.prog 100 #[SV s] w fun e w' => e = .returned (decV (decL s)) ∧ Below w.heap.size w w' := by
  unfold SV
  rcases ha : Lib.atoiAll s with v | _ | _
  · obtain ⟨b0, b1⟩ := Lib.atoiAll_bounds ha
    have HA := Lib.hid (Any.strconv_Atoi_ok Tryz.atoiA ⟨s.toArray⟩ (by show s.length ≤ _; omega) v ha w)
    rw [decL_ok ha]
    clear ha
    have HF := Lib.hid (fits_any v)
    have Hp := Lib.hid hp
    clear hp
    cases hf : fitsB v with
    | false =>
      rw [hf] at HF
      rw [if_neg (fun h => by cases h.1), decV_none]
      clear hf
      go_enter Tryz.func100, Tryz.ntmps100
      go_wp2_with fail
      refine HA.out.mono ?_
      rintro e w1 ⟨rfl, hw⟩
      have l1 : Below w.heap.size w w1 := by
        rcases hw with rfl | ⟨t, rfl⟩
        · exact Below.refl _ _
        · exact Lib.bytesWorld_below _ _ _
      clear hw
      go_wp2_with ((with_reducible refine (HF.out _).mono ?_); rintro e w' ⟨rfl, rfl⟩)
      go_ret2
      exact ⟨rfl, l1⟩
    | true =>
      rw [hf] at HF
      have HT := Lib.hid (Text_any v b0 b1)
      by_cases hts : textL v = s
      · rw [if_pos ⟨rfl, hts⟩, decV_some]
        have hv : Hid ((v.toNat : Int) = v) := Lib.hid (by have := ((fitsB_iff v).1 hf).1; omega)
        rw [hv.out]
        rw [hts] at HT
        unfold SV at HT
        clear hf hts hv
        go_enter Tryz.func100, Tryz.ntmps100
        go_wp2_with fail
        refine HA.out.mono ?_
        rintro e w1 ⟨rfl, hw⟩
        have l1 : Below w.heap.size w w1 := by
          rcases hw with rfl | ⟨t, rfl⟩
          · exact Below.refl _ _
          · exact Lib.bytesWorld_below _ _ _
        clear hw
        go_wp2_with fail
        refine (HF.out _).mono ?_
        rintro e w' ⟨rfl, rfl⟩
        go_wp2_with fail
        refine (HT.out _ (Hp.out.below l1)).mono ?_
        rintro e w2 ⟨rfl, l2⟩
        go_wp2
        go_ret2
        exact ⟨rfl, l1.trans (l2.mono l1.size)⟩
      · rw [if_neg (fun h => hts h.2), decV_none]
        obtain ⟨t, ht⟩ : ∃ t, t = textL v := ⟨_, rfl⟩
        rw [← ht] at HT hts
        have e1 : (t == s) = false := by rw [beq_eq_false_iff_ne]; exact hts
        have e2 : (t != s) = true := by simp [bne, e1]
        unfold SV at HT
        clear hf hts ht
        go_enter Tryz.func100, Tryz.ntmps100
        go_wp2_with fail
        refine HA.out.mono ?_
        rintro e w1 ⟨rfl, hw⟩
        have l1 : Below w.heap.size w w1 := by
          rcases hw with rfl | ⟨t, rfl⟩
          · exact Below.refl _ _
          · exact Lib.bytesWorld_below _ _ _
        clear hw
        go_wp2_with fail
        refine (HF.out _).mono ?_
        rintro e w' ⟨rfl, rfl⟩
        go_wp2_with fail
        refine (HT.out _ (Hp.out.below l1)).mono ?_
        rintro e w2 ⟨rfl, l2⟩
        go_wp2
        go_ret2
        exact ⟨rfl, l1.trans (l2.mono l1.size)⟩
  · rw [show decL s = none by unfold decL; rw [ha], decV_none]
    obtain ⟨ev, hv, hev⟩ := hp.syn
    have HA := Lib.hid (Any.strconv_Atoi_syntax Tryz.atoiA ⟨s.toArray⟩ (by show s.length ≤ _; omega) ha ev w hv hev)
    clear ha hv hev hp
    go_enter Tryz.func100, Tryz.ntmps100
    go_wp2_with fail
    refine HA.out.mono ?_
    rintro e w1 ⟨N, rfl, hN, hb, l1⟩
    clear hb
    go_wp2
    go_ret2
    exact ⟨rfl, l1⟩
  · rw [show decL s = none by unfold decL; rw [ha], decV_none]
    obtain ⟨ev, hv, hev⟩ := hp.rng
    have HA := Lib.hid (Any.strconv_Atoi_range Tryz.atoiA ⟨s.toArray⟩ (by show s.length ≤ _; omega) ha ev w hv hev)
    clear ha hv hev hp
    go_enter Tryz.func100, Tryz.ntmps100
    go_wp2_with fail
    refine HA.out.mono ?_
    rintro e w1 ⟨N, rfl, hN, hb, l1⟩
    clear hb
    go_wp2
    go_ret2
    exact ⟨rfl, l1⟩
end Go.Proofs.YtnboagmibhllpaaGreatDoor.Nu


namespace Go.Proofs.YtnboagmibhllpaaGreatDoor.Ro
open Go.Proofs.YtnboagmibhllpaaGreatDoor
open Go.Proofs.YtnboagmibhllpaaGreatDoor.Rf (BoolB Ref nameB linesL lineL RefsR)
open Go Go.RowKit

theorem Tryz.joinX : Go.Proofs.Builder.Extra Tryz.prog Tryz.joinA_ren := {
  sizeBuilder := by kernel_rfl
  liesBuilder := by kernel_rfl
  t5 := Tryz.underlying5
  a5 := Tryz.isAgg5
  z5 := Tryz.sizeOf5
  v5 := Tryz.zeroValue5
  infoByte := by kernel_rfl
  cellsByte := by kernel_rfl
  sizeByte := by kernel_rfl
  neB5 := by decide }
def joinL (ws : List Bs) : Bs := Lib.join ws [32]
theorem Join_p {w : World} {g o N c : Nat} {ws : List Bs} (hN : N = ws.length) (hv : StrsR w (.slice (some ⟨g, o, none⟩) N c) ws) (h0 : 0 < N) (hl : N ≤ 1000000) (hj : (joinL ws).length ≤ 10000000) :
    Calls Tryz.prog 47 #[.slice (some ⟨g, o, none⟩) N c, .string ⟨#[32]⟩] w fun e w' => e = .returned (SV (joinL ws)) ∧ Below w.heap.size w w' := by
  subst hN
  rcases hv with ⟨_, h⟩ | ⟨g', o', c', e, hc, hg, hcell⟩
  · rw [h] at h0; simp at h0
  cases e
  have em : (ws.map fun s => (⟨s.toArray⟩ : ByteArray)).map (·.data.toList) = ws := by
    rw [List.map_map]; exact (List.map_congr_left fun x _ => rfl).trans (List.map_id _)
  have h := Any.strings_Join Tryz.joinA Tryz.joinX g o c (ws.map fun s => (⟨s.toArray⟩ : ByteArray)) ⟨#[32]⟩ w (fun j x hx => by
    rw [List.getElem?_map] at hx
    cases hy : ws[j]? with
    | none => rw [hy] at hx; cases hx
    | some y =>
      rw [hy] at hx
      cases hx
      have h := hcell j (List.getElem?_eq_some_iff.1 hy).1 y hy 0 (by omega)
      rw [Nat.mul_one, Nat.add_zero] at h
      exact h) hg (by simp; omega) (by simp; exact hc) (by rw [em]; show (joinL ws).length ≤ _; omega)
  rw [em, List.length_map] at h
  exact h
theorem bdB {S : Nat → Prop} {w w' : World} (h : Below w.heap.size w w') : But S w w' := But.of_new h
theorem l_By (W : World) (b o : Nat) (A : Option Addr) (n c : Nat) (h : W.cell? ⟨b, o, none⟩ = some (.slice A n c)) : (Instr.loadAt 26 (.pointer (some ⟨b, o, none⟩))).run Tryz.prog W = .ok (.slice A n c) W := by simp [go_sem, h]
theorem st_B (W : World) (b i : Nat) (A : Option Addr) (n c : Nat) (u : Value) (h : W.cell? ⟨b, i, none⟩ = some u) (hf : W.frozen? ⟨b, i, none⟩ = false) : (Instr.storeAt 26 (.pointer (some ⟨b, i, none⟩)) (.slice A n c)).run Tryz.prog W = .ok () (W.setCell ⟨b, i, none⟩ (.slice A n c)) := by
  simp [go_sem, h, hf]
theorem add_S (W : World) (a b t : Bs) (ht : t = a ++ b) (ha : a.length ≤ 10000000) (hb : b.length ≤ 10000000) : (binOp .add 9 (.string ⟨a.toArray⟩) (.string ⟨b.toArray⟩)).run Tryz.prog W = .ok (.string ⟨t.toArray⟩) W := by
  subst ht
  rw [← append_S]
  have h : a.length + b.length ≤ 9223372036854775807 := by omega
  go_simp
/-- What say answers. -/
def SayP (bb base : Nat) (r : Bs) (w : World) (e : Ending) (w' : World) : Prop := e = .returned (.tuple #[]) ∧ Bf w' bb base r ∧ Wt bb base w w'
set_option maxRecDepth 100000 in
set_option maxHeartbeats 4000000 in
theorem say_p {w : World} {bb base N : Nat} {l : Bs} (h : Bf w bb base l) (hbs : base ≤ w.heap.size) {v : Value} {ws : List Bs} (hv : StrsR w v ws) (hN : N = ws.length) (h0 : 0 < N) (hN1 : N ≤ 100) (hj : (joinL ws).length ≤ 1000000) (hll : l.length ≤ 10000000) {r : Bs} (hr : r = l ++ (joinL ws ++ [10])) :
    Calls Tryz.prog 46 #[v, .pointer (some ⟨bb, 0, none⟩)] w (SayP bb base r w) := by
  obtain ⟨g, o, c, rfl, _, hg⟩ := hv.pos (by omega)
  rw [← hN] at hv ⊢
  obtain ⟨A, n, q, hk, ho, hn, hbb⟩ := h
  obtain ⟨j, hj2⟩ : ∃ j, j = joinL ws := ⟨_, rfl⟩
  obtain ⟨m, hm⟩ : ∃ m, m = j ++ [10] := ⟨_, rfl⟩
  have HJ : Hid (∀ W, Below w.heap.size w W → Calls Tryz.prog 47 #[.slice (some ⟨g, o, none⟩) N c, .string ⟨#[32]⟩] W fun e w' => e = .returned (.string ⟨j.toArray⟩) ∧ Below W.heap.size W w') := Lib.hid fun W hW => by
    rw [hj2]; exact Join_p hN (RdK.below hv hW (Nat.le_refl _)) h0 (by omega) (by omega)
  have HM : Hid (∀ W, (binOp .add 9 (.string ⟨j.toArray⟩) (.string ⟨#[10]⟩)).run Tryz.prog W = .ok (.string ⟨m.toArray⟩) W) := Lib.hid fun W => add_S W j [10] m hm (by rw [hj2]; omega) (by simp)
  have HL : Hid (l.length + m.length ≤ 140737488355328) := Lib.hid (by rw [hm, hj2]; simp; omega)
  have HR : Hid (r = l ++ m) := Lib.hid (by rw [hr, hm, hj2])
  -- over any world that stands behind
  obtain ⟨w1, hw1⟩ : ∃ z, z = w.drew := ⟨_, rfl⟩
  have hb1 : Below w.heap.size w w1 := by rw [hw1]; exact bdr (Below.refl _ _) 1
  have HK : Hid (w1.heap[bb]? = some (.cells #[.slice A n q] 26 (0, 0))) := Lib.hid ((hb1.block bb (lt_heap hk)).trans hk)
  have HO : Hid (Ow w1 base (.slice A n q) l) := Lib.hid (ho.below hb1 (Nat.le_refl _))
  have HZ : Hid (base ≤ w1.heap.size) := Lib.hid (Nat.le_trans hbs hb1.size)
  have HBB := Lib.hid hbb
  have HB1 := Lib.hid hb1
  have HW1 := Lib.hid hw1
  have CK : Hid (∀ W, Below w1.heap.size w1 W → W.cell? ⟨bb, 0, none⟩ = some (.slice A n q)) := Lib.hid fun W hW => (hW.cell (p := ⟨bb, 0, none⟩) (lt_heap HK.out)).trans ((cell_of_row w1 bb 0 _ _ _ HK.out).trans rfl)
  clear hk ho hn hbb hv hj hr hm hj2 hN hbs hg hll hb1 hw1
  go_enter Tryz.func46, Tryz.ntmps46
  go_upto_region 0 with fail
  refine held_start (fun _ => True) (by kernel_rfl) ?_
  rw [← HW1.out]
  refine held_take 1 (.slice (some ⟨g, o, none⟩) N c) rfl (by kernel_rfl) (by kernel_rfl) (by kernel_rfl) (fun _ _ _ h => h) (by kernel_rfl) (fun W hW => by kernel_rfl) trivial ?_
  refine held_two (i := 0) (j := 2) (by kernel_rfl) ?_ ?_
  · refine held_op (.slice A n q) w1 rfl (by kernel_rfl) (y_load (sv := .pointer (some ⟨bb, 0, none⟩)) rfl (by kernel_rfl) (l_By w1 bb 0 A n q (CK.out w1 (Below.refl _ _)))) trivial ?_
    refine held_one_call (i := 2) 47 #[.slice (some ⟨g, o, none⟩) N c, .string ⟨#[32]⟩] (by kernel_rfl) rfl (by kernel_rfl) (by kernel_rfl) ?_
    refine (HJ.out w1 HB1.out).mono ?_
    rintro e w7 ⟨rfl, hb7⟩
    refine ⟨_, rfl, trivial, ?_⟩
    refine held_take 3 (.string ⟨m.toArray⟩) rfl (by kernel_rfl) (by kernel_rfl) (by kernel_rfl) (fun _ _ _ h => h) (by kernel_rfl) (fun W hW => y_bin (x := .string ⟨j.toArray⟩) (y := .string ⟨#[10]⟩) rfl (by kernel_rfl) (by kernel_rfl) rfl (HM.out W)) trivial ?_
    obtain ⟨v8, w8, r8, o8, g8⟩ := run_appS (HO.out.below hb7 (Nat.le_refl _)) m HL.out (Nat.le_trans HZ.out hb7.size) 26
    obtain ⟨b8, t8, c8, f8⟩ := Bf.app ((hb7.block bb (lt_heap HK.out)).trans HK.out) (HO.out.below hb7 (Nat.le_refl _)) HBB.out o8 g8
    obtain ⟨A8, n8, q8, rfl, -⟩ := Ow.slice o8
    have H8 := Lib.hid (show SayP bb base r w (.returned (.tuple #[])) (w8.setCell ⟨bb, 0, none⟩ (.slice A8 n8 q8)) from ⟨rfl, by rw [HR.out]; exact b8, ((Wt.new HB1.out).trans (Wt.new hb7)).trans t8⟩)
    have hs8 := st_B w8 bb 0 A8 n8 q8 _ c8 f8
    refine held_one (i := 4) (by kernel_rfl) (held_op (.slice A8 n8 q8) w8 rfl (by kernel_rfl) (y_appendS (s := .tmp 3) (y := .tmp 6) rfl (by kernel_rfl) (by kernel_rfl) r8) trivial ?_)
    refine held_one (i := 5) (by kernel_rfl) (held_store (w8.setCell ⟨bb, 0, none⟩ (.slice A8 n8 q8)) rfl (by kernel_rfl) (y_store (sv := .pointer (some ⟨bb, 0, none⟩)) (xv := .slice A8 n8 q8) rfl (by kernel_rfl) (by kernel_rfl) hs8) trivial ?_)
    refine held_done _ (by kernel_rfl) ?_
    clear hs8 r8 o8 g8 b8 t8 c8 f8 hb7
    go_simp
    go_wp2
    go_end0
    exact H8.out
  · refine held_call 47 #[.slice (some ⟨g, o, none⟩) N c, .string ⟨#[32]⟩] rfl (by kernel_rfl) (by kernel_rfl) ?_
    refine (HJ.out w1 HB1.out).mono ?_
    rintro e w7 ⟨rfl, hb7⟩
    refine ⟨_, rfl, trivial, ?_⟩
    refine held_take 3 (.string ⟨m.toArray⟩) rfl (by kernel_rfl) (by kernel_rfl) (by kernel_rfl) (fun _ _ _ h => h) (by kernel_rfl) (fun W hW => y_bin (x := .string ⟨j.toArray⟩) (y := .string ⟨#[10]⟩) rfl (by kernel_rfl) (by kernel_rfl) rfl (HM.out W)) trivial ?_
    refine held_one (i := 0) (by kernel_rfl) (held_op (.slice A n q) w7 rfl (by kernel_rfl) (y_load (sv := .pointer (some ⟨bb, 0, none⟩)) rfl (by kernel_rfl) (l_By w7 bb 0 A n q (CK.out w7 hb7))) trivial ?_)
    obtain ⟨v8, w8, r8, o8, g8⟩ := run_appS (HO.out.below hb7 (Nat.le_refl _)) m HL.out (Nat.le_trans HZ.out hb7.size) 26
    obtain ⟨b8, t8, c8, f8⟩ := Bf.app ((hb7.block bb (lt_heap HK.out)).trans HK.out) (HO.out.below hb7 (Nat.le_refl _)) HBB.out o8 g8
    obtain ⟨A8, n8, q8, rfl, -⟩ := Ow.slice o8
    have H8 := Lib.hid (show SayP bb base r w (.returned (.tuple #[])) (w8.setCell ⟨bb, 0, none⟩ (.slice A8 n8 q8)) from ⟨rfl, by rw [HR.out]; exact b8, ((Wt.new HB1.out).trans (Wt.new hb7)).trans t8⟩)
    have hs8 := st_B w8 bb 0 A8 n8 q8 _ c8 f8
    refine held_one (i := 4) (by kernel_rfl) (held_op (.slice A8 n8 q8) w8 rfl (by kernel_rfl) (y_appendS (s := .tmp 3) (y := .tmp 6) rfl (by kernel_rfl) (by kernel_rfl) r8) trivial ?_)
    refine held_one (i := 5) (by kernel_rfl) (held_store (w8.setCell ⟨bb, 0, none⟩ (.slice A8 n8 q8)) rfl (by kernel_rfl) (y_store (sv := .pointer (some ⟨bb, 0, none⟩)) (xv := .slice A8 n8 q8) rfl (by kernel_rfl) (by kernel_rfl) hs8) trivial ?_)
    refine held_done _ (by kernel_rfl) ?_
    clear hs8 r8 o8 g8 b8 t8 c8 f8 hb7
    go_simp
    go_wp2
    go_end0
    exact H8.out

/-! ### sayEach -/
theorem packsL_snoc {l : List Bs} {k : Nat} {x : Bs} (hx : l[k]? = some x) : packsL (l.take (k + 1)) = packsL (l.take k) ++ (x ++ [10]) := by
  unfold packsL
  rw [List.take_add_one, hx, Option.toList_some, List.flatMap_append]; simp
theorem packsL_len {l : List Bs} (h : ∀ x ∈ l, x.length ≤ 1000) : (packsL l).length ≤ 1001 * l.length := by
  induction l with
  | nil => simp [packsL]
  | cons x l ih =>
    have h1 := h x List.mem_cons_self
    have h2 := ih fun y hy => h y (List.mem_cons_of_mem _ hy)
    rw [packsL_cons, List.length_append, List.length_cons, List.length_cons]; omega
theorem strs_one (w : World) (s : Bs) : StrsR (w.alloc (.cells #[.string ⟨s.toArray⟩] 9)) (.slice (some ⟨w.heap.size, 0, none⟩) 1 1) [s] := Rf.row_new strC_len w _ _ _ rfl _ rfl
set_option maxRecDepth 100000 in
set_option maxHeartbeats 4000000 in
theorem sayEach_p' {w : World} {bb base sb : Nat} {l : Bs} (h : Bf w bb base l) (hbs : base ≤ w.heap.size) {v : Value} {ws : List Bs} (hv : StrsR w v ws) (hw : ∀ x ∈ ws, x.length ≤ 1000) (hl : ws.length ≤ 1000) (hll : l.length ≤ 1000000) (hnb : ∀ g, v.ownBlock = some g → 0 < ws.length → g ≠ bb ∧ (g < base ∨ ¬ IsBy w g))
    (hs : w.heap[sb]? = some (.cells #[.func (.func 46) #[] #[.pointer (some ⟨bb, 0, none⟩)]] 77 (0, 0))) (hsb : sb ≠ bb) (hsl : sb < base) {r : Bs} (hr : r = l ++ packsL ws) :
    Calls Tryz.prog 48 #[v, .pointer (some ⟨sb, 0, none⟩)] w (SayP bb base r w) := by
  obtain ⟨A, c, rfl⟩ := hv.shape
  obtain ⟨N, hN⟩ : ∃ N, N = ws.length := ⟨_, rfl⟩
  rw [← hN] at hv hl hnb ⊢
  have HV := Lib.hid hv; have HN := Lib.hid hN; have HW := Lib.hid hw; have HB := Lib.hid h; have HNb := Lib.hid hnb; have HS := Lib.hid hs; have HR := Lib.hid hr; have HZ := Lib.hid hbs; have HLL := Lib.hid hll
  have HSb := Lib.hid (And.intro hsb hsl)
  clear hv hN hw h hnb hs hr hbs hll hsb hsl
  go_enter Tryz.func48, Tryz.ntmps48
  go_wp2_with fail
  go_loopw [7] (fun i wr => ∃ k : Nat, k ≤ N ∧ i = .int .i64 k ∧ Hid (Bf wr bb base (l ++ packsL (ws.take k))) ∧ Hid (Wt bb base w wr)) (fun i _ => N - (intOf i).toNat)
  case atStart => exact ⟨0, Nat.zero_le _, rfl, Lib.hid (by have := HB.out; simpa [packsL] using this), Lib.hid (Wt.refl _ _ _)⟩
  case round =>
    obtain ⟨k, hk, rfl, hB, hT⟩ := hrel
    by_cases hlt : k < N
    case neg =>
      have hkN : k = N := by omega
      have HF : Hid (SayP bb base r w (.returned (.tuple #[])) wr) := Lib.hid ⟨rfl, by have h := hB.out; rw [hkN, HN.out, List.take_length] at h; rw [HR.out]; exact h, hT.out⟩
      clear hkN hB hT
      go_wp2_with fail
      go_end0
      exact HF.out
    have hV : StrsR wr (.slice A N c) ws := RdK.but2 HV.out hT.out (fun h0 g hg hS => by
      obtain ⟨h1, h2⟩ := HNb.out g hg (by rw [HN.out]; exact h0)
      rcases hS with h | ⟨h, h3, h4, h5⟩
      · exact h1 h
      · rcases h2 with h2 | h2
        · omega
        · exact h2 ⟨h3, h4, h5⟩)
    obtain ⟨g, o, c', e, _, hg⟩ := hV.pos (by have := HN.out; omega)
    obtain rfl : A = some ⟨g, o, none⟩ := by rw [← HN.out] at e; cases e; rfl
    clear e
    obtain ⟨x, hx⟩ : ∃ x, ws[k]? = some x := ⟨_, List.getElem?_eq_getElem (by have := HN.out; omega)⟩
    have cx := StrsR.cell hV k (by have := HN.out; omega)
    rw [List.getD_eq_getElem?_getD, hx] at cx
    have c0 : wr.cell? ⟨g, o + k, none⟩ = some (.string ⟨x.toArray⟩) := cx
    clear cx
    have hsb := hT.out.keep HS.out HSb.out.1 (.inl HSb.out.2)
    have c1 : wr.cell? ⟨sb, 0, none⟩ = some (.func (.func 46) #[] #[.pointer (some ⟨bb, 0, none⟩)]) := (cell_of_row wr sb 0 _ _ _ hsb).trans rfl
    have hxl := HW.out x (List.mem_of_getElem? hx)
    have hpl : (packsL (ws.take k)).length ≤ 1001 * 1000 := by
      have h1 := packsL_len (l := ws.take k) (fun y hy => HW.out y (List.mem_of_mem_take hy))
      rw [List.length_take] at h1
      refine Nat.le_trans h1 (Nat.mul_le_mul_left _ ?_)
      omega
    have l1 := below_new wr (.cells #[.string ⟨x.toArray⟩] 9)
    have ej : joinL [x] = x := Lib.join_one x [32]
    have HC := Lib.hid (say_p (r := l ++ packsL (ws.take (k + 1))) (hB.out.below l1 (Nat.le_refl _)) (Nat.le_trans HZ.out (Nat.le_trans hT.out.size l1.size)) (strs_one wr x) (N := 1) rfl (by decide) (by decide) (by rw [ej]; omega) (by rw [List.length_append]; have := HLL.out; omega) (by rw [packsL_snoc hx, ej, List.append_assoc]))
    have HT2 : Hid (Wt bb base w (wr.alloc (.cells #[.string ⟨x.toArray⟩] 9))) := Lib.hid (hT.out.trans (Wt.new l1))
    clear hV hg hx hsb hxl hpl l1 ej hB hT
    go_wp2_with fail
    refine HC.out.mono ?_
    rintro e w2 ⟨rfl, b2, t2⟩
    have B2 := Lib.hid b2
    have T2 := Lib.hid (HT2.out.trans t2)
    clear b2 t2 c0 c1 HC HT2
    go_wp2_with fail
    go_roundw
    case rel => exact ⟨k + 1, by omega, by go_num, B2, T2⟩
    case measure => simp [intOf]; omega
end Go.Proofs.YtnboagmibhllpaaGreatDoor.Ro
