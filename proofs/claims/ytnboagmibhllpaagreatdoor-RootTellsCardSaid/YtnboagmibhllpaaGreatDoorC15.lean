/-
  mayFollow, areForks, Right.
  The reader: what a fork's first line makes.
  Forks of one's own: their row, and the rows of refs and packs that they hold.
-/
import Derived.Test.YtnboagmibhllpaaGreatDoorC09
import Derived.Test.YtnboagmibhllpaaGreatDoorC13
import Derived.Test.YtnboagmibhllpaaGreatDoorC14

namespace Go.Proofs.YtnboagmibhllpaaGreatDoor.Ro
open Go.Proofs.YtnboagmibhllpaaGreatDoor
open Go.Proofs.YtnboagmibhllpaaGreatDoor.Rf (BoolB Ref nameB linesL lineL RefsR OwR OwS Fit rightB rightB_yes rightB_no)
open Go Go.RowKit

def risesB (ahead : List Fk) (name : Bs) : Bool := match ahead.getLast? with | none => true | some f => decide (f.name < name)
def mayB (ahead : List Fk) (name head : Bs) : Bool := risesB ahead name && (forkB name && headB head)
theorem mayB_iff {ahead : List Fk} {name head : Bs} : mayB ahead name head = true ↔ follows ahead name head := by
  unfold mayB follows risesB
  cases h : ahead.getLast? with
  | none => simp
  | some f => simp
set_option maxRecDepth 100000 in
set_option maxHeartbeats 4000000 in
theorem mayFollow_p (ahead : List Fk) (v : Value) (x : Fc) (w : World) (hv : FksR w v ahead) (hl : ahead.length ≤ 1000000) (hn : x.name.length ≤ maxLen) (hh : x.head.length ≤ maxLen) (hr : ∃ A n c, x.rv = .slice A n c) (hp : ∃ A n c, x.pv = .slice A n c) :
    Calls Tryz.prog 62 #[v, fkV x] w (BoolB (mayB ahead x.name x.head) w) := by
  obtain ⟨A, c, rfl⟩ := hv.shape
  obtain ⟨N, hN⟩ : ∃ N, N = ahead.length := ⟨_, rfl⟩
  rw [← hN] at hv hl ⊢
  obtain ⟨nm, lk, hd, rv, pv⟩ := x
  obtain ⟨Ar, nr, cr, rfl⟩ := hr
  obtain ⟨Ap, np, cp, rfl⟩ := hp
  simp only at hn hh ⊢
  obtain ⟨b, hb⟩ : ∃ b, b = mayB ahead nm hd := ⟨_, rfl⟩
  rw [← hb]
  obtain ⟨wB, hwB⟩ : ∃ z, z = w.alloc (.cells #[.string ⟨nm.toArray⟩, .bool lk, .string ⟨hd.toArray⟩, .slice Ar nr cr, .slice Ap np cp] 42) := ⟨_, rfl⟩
  have lB : Below w.heap.size w wB := by rw [hwB]; exact below_new _ _
  have c0 : wB.cell? ⟨w.heap.size, 0, none⟩ = some (.string ⟨nm.toArray⟩) := by rw [hwB]; simp
  have c2 : wB.cell? ⟨w.heap.size, 2, none⟩ = some (.string ⟨hd.toArray⟩) := by rw [hwB]; simp
  have sB : w.heap.size < wB.heap.size := by rw [hwB]; simp
  have C0 : Hid (∀ W, Below wB.heap.size wB W → W.cell? ⟨w.heap.size, 0, none⟩ = some (.string ⟨nm.toArray⟩)) := Lib.hid fun W h => (h.cell (p := ⟨w.heap.size, 0, none⟩) sB).trans c0
  have C2 : Hid (∀ W, Below wB.heap.size wB W → W.cell? ⟨w.heap.size, 2, none⟩ = some (.string ⟨hd.toArray⟩)) := Lib.hid fun W h => (h.cell (p := ⟨w.heap.size, 2, none⟩) sB).trans c2
  have HN : Hid (∀ W, Calls Tryz.prog 19 #[.string ⟨nm.toArray⟩] W fun e w' => e = .returned (.bool (forkB nm)) ∧ W = w') := Lib.hid fun W => forkNamed_any nm W hn
  have HH : Hid (∀ W, Calls Tryz.prog 87 #[.string ⟨hd.toArray⟩] W (BoolB (headB hd) W)) := Lib.hid fun W => isHead_any hd W hh
  have HWB := Lib.hid hwB; have LB := Lib.hid lB
  have LD : Hid (Below wB.heap.size wB wB.drew) := Lib.hid (bdr (Below.refl _ _) 1)
  -- behind the first region
  have HB : Hid (b = (risesB ahead nm && (forkB nm && headB hd))) := Lib.hid hb
  have HR : Hid (risesB ahead nm = true ∨ risesB ahead nm = false) := Lib.hid (by cases risesB ahead nm <;> simp)
  obtain ⟨q, hq⟩ : ∃ q, q = risesB ahead nm := ⟨_, rfl⟩
  have HQ := Lib.hid hq
  rw [← hq] at HB
  have HV : Hid (FksR wB (.slice A N c) ahead) := Lib.hid (hv.below lB (Nat.le_refl _))
  have HNn := Lib.hid hN
  clear hb hwB lB c0 c2 hn hh hq hv hN HR
  unfold fkV fkC SV
  go_enter Tryz.func62, Tryz.ntmps62
  go_upto_region 1 with fail
  rw [← HWB.out]
  by_cases h0 : N = 0
  · subst h0
    have hqt : q = true := by
      rw [HQ.out, List.length_eq_zero_iff.1 HNn.out.symm]; rfl
    subst hqt
    clear HQ HNn HV HWB
    refine AnyB.start (by kernel_rfl) ?_
    refine AnyB.take 0 (.slice A 0 c) rfl (by kernel_rfl) (by kernel_rfl) (by kernel_rfl) (fun _ _ _ h => h) (by kernel_rfl) (fun W hW => by kernel_rfl) ?_
    refine AnyB.take 1 (.int .i64 0) rfl (by kernel_rfl) (by kernel_rfl) (by kernel_rfl) (fun _ _ _ h => h) (by kernel_rfl) (fun W hW => by kernel_rfl) ?_
    refine AnyB.take 2 (.bool true) rfl (by kernel_rfl) (by kernel_rfl) (by kernel_rfl) (fun _ _ _ h => h) (by kernel_rfl) (fun W hW => by kernel_rfl) ?_
    refine AnyB.take 3 (.bool true) rfl (by kernel_rfl) (by kernel_rfl) (by kernel_rfl) (fun _ _ _ h => h) (by kernel_rfl) (fun W hW => by kernel_rfl) ?_
    refine AnyB.skip 4 rfl (by kernel_rfl) (by kernel_rfl) (by kernel_rfl) (fun _ _ _ h => h) (by kernel_rfl) ?_
    refine AnyB.skip 5 rfl (by kernel_rfl) (by kernel_rfl) (by kernel_rfl) (fun _ _ _ h => h) (by kernel_rfl) ?_
    refine AnyB.skip 6 rfl (by kernel_rfl) (by kernel_rfl) (by kernel_rfl) (fun _ _ _ h => h) (by kernel_rfl) ?_
    refine AnyB.skip 7 rfl (by kernel_rfl) (by kernel_rfl) (by kernel_rfl) (fun _ _ _ h => h) (by kernel_rfl) ?_
    refine AnyB.skip 8 rfl (by kernel_rfl) (by kernel_rfl) (by kernel_rfl) (fun _ _ _ h => h) (by kernel_rfl) ?_
    refine AnyB.skip 9 rfl (by kernel_rfl) (by kernel_rfl) (by kernel_rfl) (fun _ _ _ h => h) (by kernel_rfl) ?_
    refine AnyB.skip 10 rfl (by kernel_rfl) (by kernel_rfl) (by kernel_rfl) (fun _ _ _ h => h) (by kernel_rfl) ?_
    refine AnyB.skip 11 rfl (by kernel_rfl) (by kernel_rfl) (by kernel_rfl) (fun _ _ _ h => h) (by kernel_rfl) ?_
    refine AnyB.skip 12 rfl (by kernel_rfl) (by kernel_rfl) (by kernel_rfl) (fun _ _ _ h => h) (by kernel_rfl) ?_
    refine AnyB.skip 13 rfl (by kernel_rfl) (by kernel_rfl) (by kernel_rfl) (fun _ _ _ h => h) (by kernel_rfl) ?_
    refine AnyB.take 14 (.bool true) rfl (by kernel_rfl) (by kernel_rfl) (by kernel_rfl) (fun _ _ _ h => h) (by kernel_rfl) (fun W hW => by kernel_rfl) ?_
    refine AnyB.take 15 (.bool true) rfl (by kernel_rfl) (by kernel_rfl) (by kernel_rfl) (fun _ _ _ h => h) (by kernel_rfl) (fun W hW => by kernel_rfl) ?_
    refine AnyB.done _ (by kernel_rfl) ?_
    go_simp
    obtain ⟨wC, hwC⟩ : ∃ z, z = wB.drew := ⟨_, rfl⟩
    rw [← hwC]
    have LC : Hid (Below wB.heap.size wB wC) := Lib.hid (by rw [hwC]; exact LD.out)
    have c0 := C0.out wC LC.out; have c2 := C2.out wC LC.out
    have hfin := fun (W : World) (h : Below wC.heap.size wC W) => LB.out.trans ((LC.out.trans (h.mono LC.out.size)).mono LB.out.size)
    have HFin := Lib.hid hfin
    clear hfin hwC LD
    cases hf : forkB nm with
    | false =>
      rw [hf] at HN HB
      have HB2 : Hid (b = false) := Lib.hid (by rw [HB.out]; rfl)
      clear hf HB HH
      go_wp2_with fail
      refine (HN.out _).mono ?_
      rintro e w7 ⟨rfl, rfl⟩
      go_wp2_with fail
      go_ret
      exact ⟨ret_bool HB2.out.symm, HFin.out wC (Below.refl _ _)⟩
    | true =>
      rw [hf] at HN HB
      have HB2 : Hid (b = headB hd) := Lib.hid (by rw [HB.out]; rfl)
      clear hf HB
      go_wp2_with fail
      refine (HN.out _).mono ?_
      rintro e w7 ⟨rfl, rfl⟩
      go_wp2_with fail
      refine (HH.out _).mono ?_
      rintro e w8 ⟨rfl, hb8⟩
      have H8 := Lib.hid hb8
      clear hb8 c0 c2
      go_wp2_with fail
      go_ret
      exact ⟨ret_bool HB2.out.symm, HFin.out _ H8.out⟩
  · obtain ⟨j, rfl⟩ : ∃ j, N = j + 1 := ⟨N - 1, by omega⟩
    obtain ⟨g, o, c', e, _, hg⟩ := HV.out.pos (by have := HNn.out; omega)
    obtain rfl : A = some ⟨g, o, none⟩ := by rw [← HNn.out] at e; cases e; rfl
    clear e
    obtain ⟨lf, hlf⟩ : ∃ f, ahead[j]? = some f := ⟨_, List.getElem?_eq_getElem (by have := HNn.out; omega)⟩
    have hgl : ahead.getLast? = some lf := by rw [List.getLast?_eq_getElem?, ← HNn.out]; exact hlf
    obtain ⟨lx, hlx, cl, _⟩ := HV.out.at hlf
    obtain ⟨ln, hln⟩ : ∃ ln, ln = lx.name := ⟨_, rfl⟩
    rw [← hln] at cl
    have HL : Hid (decide (ln < nm) = q) := Lib.hid (by
      rw [HQ.out, hln, hlx.name]; unfold risesB; rw [hgl])
    have CL : Hid (∀ W, Below wB.heap.size wB W → W.cell? ⟨g, o + j * 5, none⟩ = some (.string ⟨ln.toArray⟩)) := Lib.hid fun W h => (h.cell (p := ⟨g, o + j * 5, none⟩) hg).trans cl
    have hj : j ≤ 1000000 := by omega
    clear HQ HNn HV HWB h0 hl hg hlf hgl cl hln hlx
    refine AnyB.start (by kernel_rfl) ?_
    refine AnyB.take 0 (.slice (some ⟨g, o, none⟩) (j + 1) c) rfl (by kernel_rfl) (by kernel_rfl) (by kernel_rfl) (fun _ _ _ h => h) (by kernel_rfl) (fun W hW => by kernel_rfl) ?_
    refine AnyB.take 1 (.int .i64 ((j + 1 : Nat) : Int)) rfl (by kernel_rfl) (by kernel_rfl) (by kernel_rfl) (fun _ _ _ h => h) (by kernel_rfl) (fun W hW => by kernel_rfl) ?_
    refine AnyB.take 2 (.bool false) rfl (by kernel_rfl) (by kernel_rfl) (by kernel_rfl) (fun _ _ _ h => h) (by kernel_rfl) (fun W hW => y_bin (x := .int .i64 ((j + 1 : Nat) : Int)) (y := .int .i64 0) rfl (by kernel_rfl) (by kernel_rfl) rfl (eql_z W j)) ?_
    refine AnyB.take 3 (.bool false) rfl (by kernel_rfl) (by kernel_rfl) (by kernel_rfl) (fun _ _ _ h => h) (by kernel_rfl) (fun W hW => by kernel_rfl) ?_
    refine AnyB.take 4 (.slice (some ⟨g, o, none⟩) (j + 1) c) rfl (by kernel_rfl) (by kernel_rfl) (by kernel_rfl) (fun _ _ _ h => h) (by kernel_rfl) (fun W hW => by kernel_rfl) ?_
    refine AnyB.take 5 (.slice (some ⟨g, o, none⟩) (j + 1) c) rfl (by kernel_rfl) (by kernel_rfl) (by kernel_rfl) (fun _ _ _ h => h) (by kernel_rfl) (fun W hW => by kernel_rfl) ?_
    refine AnyB.take 6 (.int .i64 ((j + 1 : Nat) : Int)) rfl (by kernel_rfl) (by kernel_rfl) (by kernel_rfl) (fun _ _ _ h => h) (by kernel_rfl) (fun W hW => by kernel_rfl) ?_
    refine AnyB.take 7 (.int .i64 (j : Int)) rfl (by kernel_rfl) (by kernel_rfl) (by kernel_rfl) (fun _ _ _ h => h) (by kernel_rfl) (fun W hW => y_bin (x := .int .i64 ((j + 1 : Nat) : Int)) (y := .int .i64 1) rfl (by kernel_rfl) (by kernel_rfl) rfl (sub_one W j hj)) ?_
    refine AnyB.take 8 (.pointer (some ⟨g, o + j * 5, none⟩)) rfl (by kernel_rfl) (by kernel_rfl) (by kernel_rfl) (fun _ _ _ h => h) (by kernel_rfl) (fun W hW => y_index (sv := .slice (some ⟨g, o, none⟩) (j + 1) c) (iv := .int .i64 (j : Int)) rfl (by kernel_rfl) (by kernel_rfl) (at_f W g o (j + 1) c j (Nat.lt_succ_self j))) ?_
    refine AnyB.take 9 (.pointer (some ⟨g, o + j * 5, none⟩)) rfl (by kernel_rfl) (by kernel_rfl) (by kernel_rfl) (fun _ _ _ h => h) (by kernel_rfl) (fun W hW => y_field (sv := .pointer (some ⟨g, o + j * 5, none⟩)) rfl (by kernel_rfl) (f_f0 W g (o + j * 5))) ?_
    refine AnyB.take 10 (.string ⟨ln.toArray⟩) rfl (by kernel_rfl) (by kernel_rfl) (by kernel_rfl) (fun _ _ _ h => h) (by kernel_rfl) (fun W hW => y_load (sv := .pointer (some ⟨g, o + j * 5, none⟩)) rfl (by kernel_rfl) (l_S W g (o + j * 5) ln (CL.out W (LD.out.trans (hW.mono LD.out.size))))) ?_
    refine AnyB.take 11 (.pointer (some ⟨w.heap.size, 0, none⟩)) rfl (by kernel_rfl) (by kernel_rfl) (by kernel_rfl) (fun _ _ _ h => h) (by kernel_rfl) (fun W hW => y_field (sv := .pointer (some ⟨w.heap.size, 0, none⟩)) rfl (by kernel_rfl) (f_f0z W w.heap.size)) ?_
    refine AnyB.take 12 (.string ⟨nm.toArray⟩) rfl (by kernel_rfl) (by kernel_rfl) (by kernel_rfl) (fun _ _ _ h => h) (by kernel_rfl) (fun W hW => y_load (sv := .pointer (some ⟨w.heap.size, 0, none⟩)) rfl (by kernel_rfl) (l_S W w.heap.size 0 nm (C0.out W (LD.out.trans (hW.mono LD.out.size))))) ?_
    refine AnyB.take 13 (.bool q) rfl (by kernel_rfl) (by kernel_rfl) (by kernel_rfl) (fun _ _ _ h => h) (by kernel_rfl) (fun W hW => y_bin (x := .string ⟨ln.toArray⟩) (y := .string ⟨nm.toArray⟩) rfl (by kernel_rfl) (by kernel_rfl) rfl (lss_S W ln nm q HL.out)) ?_
    refine AnyB.take 14 (.bool q) rfl (by kernel_rfl) (by kernel_rfl) (by kernel_rfl) (fun _ _ _ h => h) (by kernel_rfl) (fun W hW => by kernel_rfl) ?_
    refine AnyB.take 15 (.bool q) rfl (by kernel_rfl) (by kernel_rfl) (by kernel_rfl) (fun _ _ _ h => h) (by kernel_rfl) (fun W hW => by kernel_rfl) ?_
    refine AnyB.done _ (by kernel_rfl) ?_
    go_simp
    obtain ⟨wC, hwC⟩ : ∃ z, z = wB.drew := ⟨_, rfl⟩
    rw [← hwC]
    have LC : Hid (Below wB.heap.size wB wC) := Lib.hid (by rw [hwC]; exact LD.out)
    have c0 := C0.out wC LC.out; have c2 := C2.out wC LC.out
    have hfin := fun (W : World) (h : Below wC.heap.size wC W) => LB.out.trans ((LC.out.trans (h.mono LC.out.size)).mono LB.out.size)
    have HFin := Lib.hid hfin
    clear hfin hwC LD
    cases q with
    | false =>
      have HB2 : Hid (b = false) := Lib.hid (by rw [HB.out]; rfl)
      clear HB HN HH
      go_wp2_with fail
      go_ret
      exact ⟨ret_bool HB2.out.symm, HFin.out wC (Below.refl _ _)⟩
    | true =>
      cases hf : forkB nm with
      | false =>
        rw [hf] at HN HB
        have HB2 : Hid (b = false) := Lib.hid (by rw [HB.out]; rfl)
        clear hf HB HH
        go_wp2_with fail
        refine (HN.out _).mono ?_
        rintro e w7 ⟨rfl, rfl⟩
        go_wp2_with fail
        go_ret
        exact ⟨ret_bool HB2.out.symm, HFin.out wC (Below.refl _ _)⟩
      | true =>
        rw [hf] at HN HB
        have HB2 : Hid (b = headB hd) := Lib.hid (by rw [HB.out]; rfl)
        clear hf HB
        go_wp2_with fail
        refine (HN.out _).mono ?_
        rintro e w7 ⟨rfl, rfl⟩
        go_wp2_with fail
        refine (HH.out _).mono ?_
        rintro e w8 ⟨rfl, hb8⟩
        have H8 := Lib.hid hb8
        clear hb8 c0 c2
        go_wp2_with fail
        go_ret
        exact ⟨ret_bool HB2.out.symm, HFin.out _ H8.out⟩
end Go.Proofs.YtnboagmibhllpaaGreatDoor.Ro


namespace Go.Proofs.YtnboagmibhllpaaGreatDoor.Ro
open Go.Proofs.YtnboagmibhllpaaGreatDoor
open Go.Proofs.YtnboagmibhllpaaGreatDoor.Rf (BoolB)
open Go Go.RowKit

theorem Row7.ofB {w : World} {g : Nat} (h : w.heap[g]? = some (.cells op0 109 (0, 0))) : Row7 w g := Row7.of h
def Fk1P (ahead : List Fk) (l : Bs) (bo : Nat) (w : World) (e : Ending) (w' : World) : Prop :=
  ∃ v, e = .returned v ∧ But (fun k => k = bo) w w' ∧ ∃ o : Op, w'.heap[bo]? = some (.cells o.cs 109 (0, 0)) ∧ o.refs ≤ 64 ∧ o.packs ≤ 24 ∧
    ((openO l = some o ∧ follows ahead o.name o.head ∧ v = .nilIface) ∨ ((openO l = none ∨ ∃ q, openO l = some q ∧ ¬ follows ahead q.name q.head) ∧ ∃ x, v = ev x))
theorem open_len {l : Bs} {o : Op} (h : openO l = some o) : o.name.length ≤ l.length ∧ o.head.length ≤ l.length := by
  have e := congrArg List.length (openO_some h).1
  unfold openB at e
  simp only [List.length_append, List.length_cons] at e
  omega
set_option maxHeartbeats 8000000 in
set_option maxRecDepth 100000 in
theorem fk1_p {w : World} {E : ErA} (hp : PrA E w) {bo ba : Nat} {A : Option Addr} {n c : Nat} {ahead : List Fk} (h1 : w.heap[bo]? = some (.cells op0 109 (0, 0))) (h2 : w.heap[ba]? = some (.cells #[.slice A n c] 23 (0, 0))) (hv : ∀ W, But (fun k => k = bo) w W → FksR W (.slice A n c) ahead) (hP : ∀ W, But (fun k => k = bo) w W → Er E W) (ha : ahead.length ≤ 1000000) (hne : ba ≠ bo) (l : Bs) (hl : l.length ≤ 1000000) :
    Calls Tryz.prog 78 #[.string ⟨l.toArray⟩, .pointer (some ⟨bo, 0, none⟩), .pointer (some ⟨ba, 0, none⟩)] w (Fk1P ahead l bo w) := by
  have HOp := Lib.hid (open_p hp l hl)
  have H1 := Lib.hid h1; have H2 := Lib.hid h2; have HV := Lib.hid hv; have HE := Lib.hid hP; have HA := Lib.hid ha; have HL := Lib.hid hl
  clear h1 h2 hv hP hp ha
  go_enter Tryz.func78, Tryz.ntmps78
  go_upto_region 1 with fail
  go_wp2_with fail
  refine HOp.out.mono ?_
  rintro e w1 ⟨hv, l1⟩
  have hb1 := (l1.block _ (lt_heap H1.out)).trans H1.out
  obtain ⟨c0, g0, c1, g1, c2, g2, c3, g3, c4, g4, c5, g5, c6, g6⟩ := Row7.of hb1
  have L1 := Lib.hid l1
  have B1 := Lib.hid hb1
  clear hb1 l1 HOp
  rcases hv with ⟨o, u, rfl⟩ | ⟨u, x, rfl⟩
  · have hq := openO_some u
    have hql := open_len u
    have hS7 : But (fun k => k = bo) w (set7 w1 bo (.string ⟨o.name.toArray⟩) (.bool o.linked) (.string ⟨o.head.toArray⟩) (.slice none 0 0) (.slice none 0 0) (.int .i64 (o.refs : Int)) (.int .i64 (o.packs : Int))) := (But.of_new L1.out).trans (set7_but _ _ _ _ _ _ _ _ _)
    have hb2 := set7_blk B1.out (.string ⟨o.name.toArray⟩) (.bool o.linked) (.string ⟨o.head.toArray⟩) (.slice none 0 0) (.slice none 0 0) (.int .i64 (o.refs : Int)) (.int .i64 (o.packs : Int))
    obtain ⟨w2, hw2⟩ : ∃ y, y = set7 w1 bo (.string ⟨o.name.toArray⟩) (.bool o.linked) (.string ⟨o.head.toArray⟩) (.slice none 0 0) (.slice none 0 0) (.int .i64 (o.refs : Int)) (.int .i64 (o.packs : Int)) := ⟨_, rfl⟩
    rw [← hw2] at hS7 hb2
    unfold set7 at hw2
    have HW2 := Lib.hid hw2
    have B2 := Lib.hid hb2; have T2 := Lib.hid hS7; have U := Lib.hid u; have HQ := Lib.hid hq; have HQL := Lib.hid hql
    unfold Op.cs opC
    clear hq hql hS7 hb2 hw2 u
    go_upto_region 4 with fail
    rw [← HW2.out]
    clear HW2 c0 g0 c1 g1 c2 g2 c3 g3 c4 g4 c5 g5 c6 g6
    have hk2 : w2.heap[ba]? = some (.cells #[.slice A n c] 23 (0, 0)) := (T2.out.block ba (lt_heap H2.out) hne).trans H2.out
    have hc2 : w2.cell? ⟨ba, 0, none⟩ = some (.slice A n c) := (cell_of_row w2 ba 0 _ _ _ hk2).trans rfl
    have ew := (HE.out w2 T2.out).wrong
    have CA : Hid (∀ W, Below w2.heap.size w2 W → W.cell? ⟨ba, 0, none⟩ = some (.slice A n c)) := Lib.hid fun W h => cellL hc2 h
    have CD : ∀ j v, (opC o.name o.linked o.head o.refs o.packs)[j]? = some v → Hid (∀ W, Below w2.heap.size w2 W → W.cell? ⟨bo, j, none⟩ = some v) := fun j v hj => Lib.hid fun W h => cellL ((cell_of_row w2 bo j _ _ _ B2.out).trans hj) h
    have D0 := CD 0 _ rfl; have D1 := CD 1 _ rfl; have D2 := CD 2 _ rfl; have D3 := CD 3 _ rfl; have D4 := CD 4 _ rfl
    obtain ⟨x, hx⟩ : ∃ x, x = E.wrong := ⟨_, rfl⟩
    rw [← hx] at ew
    obtain ⟨b, hbb⟩ : ∃ b, b = mayB ahead o.name o.head := ⟨_, rfl⟩
    obtain ⟨nv, hnv⟩ : ∃ v, v = if b = true then .nilIface else ev x := ⟨_, rfl⟩
    have HNd : Hid (∀ W, Calls Tryz.prog 77 #[.bool b, .iface 206 (.pointer (some x))] W fun e w' => e = .returned nv ∧ W = w') := Lib.hid fun W => need_p b x nv hnv W
    have hv2 := HV.out w2 T2.out
    have HM : Hid (∀ W, Below w2.heap.size w2 W → Calls Tryz.prog 62 #[.slice A n c, .agg #[.string ⟨o.name.toArray⟩, .bool o.linked, .string ⟨o.head.toArray⟩, .slice none 0 0, .slice none 0 0]] W (BoolB b W)) := Lib.hid fun W h => by
      rw [hbb]
      exact mayFollow_p ahead _ ⟨o.name, o.linked, o.head, .slice none 0 0, .slice none 0 0⟩ W (hv2.below h (Nat.le_refl _)) HA.out (by show o.name.length ≤ maxLen; have := HQL.out.1; unfold maxLen; omega) (by show o.head.length ≤ maxLen; have := HQL.out.2; unfold maxLen; omega) ⟨_, _, _, rfl⟩ ⟨_, _, _, rfl⟩
    unfold ev at ew
    have EW : Hid (∀ W, Below w2.heap.size w2 W → W.cell? ⟨1, 0, none⟩ = some (.iface 206 (.pointer (some x)))) := Lib.hid fun W h => cellL ew h
    have HF : Hid (∀ W, Below w2.heap.size w2 W → Fk1P ahead l bo w (.returned nv) W) := Lib.hid fun W h => by
      refine ⟨nv, rfl, T2.out.trans (But.of_new h), o, (h.block bo (lt_heap B2.out)).trans B2.out, HQ.out.2.1, HQ.out.2.2, ?_⟩
      cases b with
      | true => exact .inl ⟨U.out, mayB_iff.1 hbb.symm, hnv⟩
      | false => exact .inr ⟨.inr ⟨o, U.out, fun hf => by rw [mayB_iff.2 hf] at hbb; cases hbb⟩, x, hnv⟩
    have LD : Hid (Below w2.heap.size w2 w2.drew) := Lib.hid (bdr (Below.refl _ _) 1)
    clear hk2 hc2 ew CD hx hbb hnv hv2 HV HE HA HL H1 H2 L1 B1 B2 T2 U HQ HQL hl hne
    refine AnyB.start (by kernel_rfl) ?_
    refine AnyB.take 0 (.slice A n c) rfl (by kernel_rfl) (by kernel_rfl) (by kernel_rfl) (fun _ _ _ h => h) (by kernel_rfl) (fun W hW => y_load (sv := .pointer (some ⟨ba, 0, none⟩)) rfl (by kernel_rfl) (l_Fl W ba 0 A n c (CA.out W (LD.out.trans (hW.mono LD.out.size))))) ?_
    refine AnyB.take 1 (.pointer (some ⟨bo, 0, none⟩)) rfl (by kernel_rfl) (by kernel_rfl) (by kernel_rfl) (fun _ _ _ h => h) (by kernel_rfl) (fun W hW => by kernel_rfl) ?_
    refine AnyB.take 2 (.agg #[.string ⟨o.name.toArray⟩, .bool o.linked, .string ⟨o.head.toArray⟩, .slice none 0 0, .slice none 0 0]) rfl (by kernel_rfl) (by kernel_rfl) (by kernel_rfl) (fun _ _ _ h => h) (by kernel_rfl) (fun W hW => y_load (sv := .pointer (some ⟨bo, 0, none⟩)) rfl (by kernel_rfl) (l_Fk W bo 0 _ _ _ _ _ (D0.out W (LD.out.trans (hW.mono LD.out.size))) (D1.out W (LD.out.trans (hW.mono LD.out.size))) (D2.out W (LD.out.trans (hW.mono LD.out.size))) (D3.out W (LD.out.trans (hW.mono LD.out.size))) (D4.out W (LD.out.trans (hW.mono LD.out.size))))) ?_
    refine AnyB.take 4 (.iface 206 (.pointer (some x))) rfl (by kernel_rfl) (by kernel_rfl) (by kernel_rfl) (fun _ _ _ h => h) (by kernel_rfl) (fun W hW => y_load (sv := .pointer (some ⟨1, 0, none⟩)) rfl (by kernel_rfl) (l_Er W 1 _ _ (EW.out W (LD.out.trans (hW.mono LD.out.size))))) ?_
    refine AnyB.call 3 62 #[.slice A n c, .agg #[.string ⟨o.name.toArray⟩, .bool o.linked, .string ⟨o.head.toArray⟩, .slice none 0 0, .slice none 0 0]] (by kernel_rfl) rfl (by kernel_rfl) (by kernel_rfl) ?_
    refine (HM.out _ LD.out).mono ?_
    rintro e w7 ⟨rfl, hb7⟩
    have LD1 := Lib.hid (LD.out.trans (hb7.mono LD.out.size))
    refine ⟨_, rfl, hb7, ?_⟩
    refine AnyB.call 5 77 #[.bool b, .iface 206 (.pointer (some x))] (by kernel_rfl) rfl (by kernel_rfl) (by kernel_rfl) ?_
    refine (HNd.out _).mono ?_
    rintro e w8 ⟨rfl, rfl⟩
    have LD2 := LD1
    refine ⟨_, rfl, Below.refl _ _, ?_⟩
    refine AnyB.take 6 (nv) rfl (by kernel_rfl) (by kernel_rfl) (by kernel_rfl) (fun _ _ _ h => h) (by kernel_rfl) (fun W hW => by kernel_rfl) ?_
    refine AnyB.done _ (by kernel_rfl) ?_
    go_simp
    clear LD LD1 HM HNd EW CA D0 D1 D2 D3 D4
    go_wp2_with fail
    go_ret
    exact HF.out _ LD2.out
  · obtain ⟨w2, hw2⟩ : ∃ y, y = zero7 w1 bo := ⟨_, rfl⟩
    have HF : Hid (Fk1P ahead l bo w (.returned (ev x)) w2) := Lib.hid ⟨ev x, rfl, by rw [hw2]; exact (But.of_new L1.out).trans (set7_but _ _ _ _ _ _ _ _ _), ⟨[], false, [], 0, 0⟩, by rw [hw2]; exact set7_blk B1.out _ _ _ _ _ _ _, Nat.zero_le _, Nat.zero_le _, .inr ⟨.inl u, x, rfl⟩⟩
    unfold zero7 set7 at hw2
    have HW2 := Lib.hid hw2
    unfold op0 ev at *
    clear hw2 u
    go_wp2_with fail
    go_ret
    rw [← HW2.out]
    exact HF.out
end Go.Proofs.YtnboagmibhllpaaGreatDoor.Ro


namespace Go.Proofs.YtnboagmibhllpaaGreatDoor.Ro
open Go.Proofs.YtnboagmibhllpaaGreatDoor
open Go.Proofs.YtnboagmibhllpaaGreatDoor.Rf (BoolB Ref RefsR OwR OwS refC elRef)
open Go Go.RowKit

structure Fs where
  name : Bs
  linked : Bool
  head : Bs
  rA : Option Addr
  rn : Nat
  rc : Nat
  pA : Option Addr
  pn : Nat
  pc : Nat
def Fs.rv (x : Fs) : Value := .slice x.rA x.rn x.rc
def Fs.pv (x : Fs) : Value := .slice x.pA x.pn x.pc
def Fs.fc (x : Fs) : Fc := ⟨x.name, x.linked, x.head, x.rv, x.pv⟩
def fsC (x : Fs) : List Value := fkC x.fc
theorem fsC_len (x : Fs) : (fsC x).length = 5 := rfl
theorem elFork : ElK (α := Fs) 23 42 5 88 fsC where
  ut := Tryz.underlying23
  info := ⟨.agg #[.string ⟨#[]⟩, .bool false, .string ⟨#[]⟩, .slice none 0 0, .slice none 0 0], by kernel_rfl, rfl⟩
  pos := by decide
  len := fun _ => rfl
  one := fun x u hu => by
    simp [fsC, fkC, Fs.fc, Fs.rv, Fs.pv] at hu
    rcases hu with rfl | rfl | rfl | rfl | rfl <;> rfl
structure FkO (w : World) (base : Nat) (x : Fs) (f : Fk) : Prop where
  name : x.name = f.name
  linked : x.linked = f.linked
  head : x.head = f.head
  refs : OwR w base x.rv f.refs
  packs : OwS w base x.pv f.packs
theorem FkO.but {w w' : World} {base : Nat} {x : Fs} {f : Fk} {S : Nat → Prop} (h : FkO w base x f) (hb : But S w w') (hS : ∀ g, base ≤ g → (IsT 9 w g ∨ IsT 75 w g) → ¬ S g) : FkO w' base x f :=
  ⟨h.name, h.linked, h.head, row_but h.refs hb (fun g hg => hS g (own_block h.refs hg).1 (.inr ((own_block h.refs hg).2.2.elim fun cur hc => ⟨cur, _, hc⟩))),
    row_but h.packs hb (fun g hg => hS g (own_block h.packs hg).1 (.inl ((own_block h.packs hg).2.2.elim fun cur hc => ⟨cur, _, hc⟩)))⟩
theorem FkO.mono {w : World} {base b : Nat} {x : Fs} {f : Fk} (h : FkO w base x f) (hb : b ≤ base) : FkO w b x f := ⟨h.name, h.linked, h.head, h.refs.mono hb, h.packs.mono hb⟩
theorem FkO.rd {w : World} {base : Nat} {x : Fs} {f : Fk} (h : FkO w base x f) : FkR w x.fc f := ⟨h.name, h.linked, h.head, OwK.rd Rf.refC_len h.refs, OwK.rd strC_len h.packs⟩
def FksO (w : World) (base : Nat) (v : Value) (l : List Fk) : Prop := ∃ xs : List Fs, OwK 42 5 fsC w base v xs ∧ xs.length = l.length ∧ ∀ (k : Nat) (x : Fs) (f : Fk), xs[k]? = some x → l[k]? = some f → FkO w base x f
def IsE (w : World) (g : Nat) : Prop := IsT 9 w g ∨ IsT 75 w g ∨ IsT 42 w g
theorem FksO.but {w w' : World} {base : Nat} {v : Value} {l : List Fk} {S : Nat → Prop} (h : FksO w base v l) (hb : But S w w') (hS : ∀ g, base ≤ g → IsE w g → ¬ S g) : FksO w' base v l := by
  obtain ⟨xs, h1, h2, h3⟩ := h
  refine ⟨xs, row_but h1 hb (fun g hg => hS g (own_block h1 hg).1 (.inr (.inr ((own_block h1 hg).2.2.elim fun cur hc => ⟨cur, _, hc⟩)))), h2, fun k x f hx hf => (h3 k x f hx hf).but hb fun g hg ht => hS g hg ?_⟩
  rcases ht with ht | ht
  · exact .inl ht
  · exact .inr (.inl ht)
theorem FksO.nil (w : World) (base : Nat) : FksO w base (.slice none 0 0) [] := ⟨[], OwK.nil _ _ _ _ _, rfl, fun k x f hx => by simp at hx⟩
theorem FksO.shape {w : World} {base : Nat} {v : Value} {l : List Fk} (h : FksO w base v l) : ∃ A n c, v = .slice A n c ∧ n = l.length := by
  obtain ⟨xs, h1, h2, _⟩ := h
  obtain ⟨A, n, c, e, hn⟩ := Rf.OwK.shape h1
  exact ⟨A, n, c, e, by omega⟩
theorem rd_map {α β : Type} {k : Nat} {f : β → List Value} (g : α → β) {w : World} {v : Value} {xs : List α} (h : RdK k (fun x => f (g x)) w v xs) : RdK k f w v (xs.map g) := by
  rcases h with ⟨h, rfl⟩ | ⟨b, o, c, e, hc, hb, hcell⟩
  · exact .inl ⟨h, rfl⟩
  · refine .inr ⟨b, o, c, by rw [e, List.length_map], by rw [List.length_map]; exact hc, hb, fun j hj x hx i hi => ?_⟩
    rw [List.length_map] at hj
    rw [List.getElem?_map] at hx
    cases hy : xs[j]? with
    | none => rw [hy] at hx; cases hx
    | some y =>
      rw [hy] at hx
      cases hx
      exact hcell j hj y hy i hi
theorem FksO.rd {w : World} {base : Nat} {v : Value} {l : List Fk} (h : FksO w base v l) : FksR w v l := by
  obtain ⟨xs, h1, h2, h3⟩ := h
  refine ⟨xs.map Fs.fc, rd_map Fs.fc (OwK.rd fsC_len h1), by rw [List.length_map, h2], fun k x f hx hf => ?_⟩
  rw [List.getElem?_map] at hx
  cases hy : xs[k]? with
  | none => rw [hy] at hx; cases hx
  | some y =>
    rw [hy] at hx
    cases hx
    exact (h3 k y f hy hf).rd
/-- One more. -/
theorem FksO.snoc {w w' : World} {base : Nat} {v v' : Value} {l : List Fk} {xs : List Fs} {x : Fs} {f : Fk} (h1 : OwK 42 5 fsC w base v xs) (h2 : xs.length = l.length) (h3 : ∀ (k : Nat) (x : Fs) (f : Fk), xs[k]? = some x → l[k]? = some f → FkO w base x f) (hx : FkO w base x f) (ho : OwK 42 5 fsC w' base v' (xs ++ [x])) (hg : w.grownBy w' v.ownBlock) : FksO w' base v' (l ++ [f]) := by
  have hS : ∀ g, base ≤ g → (IsT 9 w g ∨ IsT 75 w g) → ¬ (v.ownBlock = some g) := fun g _ ht e => by
    obtain ⟨_, _, cur, hc⟩ := own_block h1 e
    rcases ht with ⟨cs, fr, ht⟩ | ⟨cs, fr, ht⟩ <;> (rw [hc] at ht; cases ht)
  have hb : But (fun k => v.ownBlock = some k) w w' := (But.of_grown hg).mono fun k _ h => h
  refine ⟨xs ++ [x], ho, by simp [h2], fun k y g hy hgg => ?_⟩
  rcases Nat.lt_or_ge k xs.length with hk | hk
  · rw [List.getElem?_append_left hk] at hy
    rw [List.getElem?_append_left (by omega)] at hgg
    exact (h3 k y g hy hgg).but hb hS
  · rw [List.getElem?_append_right hk] at hy
    rw [List.getElem?_append_right (by omega)] at hgg
    obtain rfl : k = xs.length := by
      have := (List.getElem?_eq_some_iff.1 hy).1; simp at this; omega
    simp at hy
    rw [← h2] at hgg
    simp at hgg
    subst hy; subst hgg
    exact hx.but hb hS
end Go.Proofs.YtnboagmibhllpaaGreatDoor.Ro
