/-
  The reader: the first line of a fork.
  A whole list behind one of one's own.
-/
import Derived.Laws.ResultCell
import Derived.Laws.Rows
import Derived.Test.YtnboagmibhllpaaGreatDoorC10
import Derived.Test.YtnboagmibhllpaaGreatDoorC12
import Derived.Test.YtnboagmibhllpaaGreatDoorC08

namespace Go.Proofs.YtnboagmibhllpaaGreatDoor.Ro
open Go.Proofs.YtnboagmibhllpaaGreatDoor
open Go Go.RowKit

theorem results_two {P : Program} {fn : Func} {p u : Tmp} {ty : TypeId} (h : fn.results = #[.cell p ty, .tmp u]) (tmps : Array Value) (w : World) (g : Nat) (t : TypeId) (cs : Array Value) (fr : Nat × Nat) (d : TypeDesc)
    (hp : tmps.getD p undef = .pointer (some ⟨g, 0, none⟩)) (hg : w.heap[g]? = some (.cells cs t fr))
    (hu : P.underlying ty = some d) (hd : (match d with | .struct _ | .array _ _ => true | _ => false) = true) (hi : (P.info? ty).map (·.size) = some cs.size) {x : Value} (hx : tmps.getD u undef = x) :
    (results fn tmps).run P w = .ok (.tuple #[.agg cs, x]) w := by
  rw [results_cell_tmp h, hp, hx]
  simp [asAddr, Result.andThen, run_loadVar_row w g t ty cs fr d hg hu hd hi]
def opC (name : Bs) (linked : Bool) (head : Bs) (a b : Nat) : Array Value := #[.string ⟨name.toArray⟩, .bool linked, .string ⟨head.toArray⟩, .slice none 0 0, .slice none 0 0, .int .i64 (a : Int), .int .i64 (b : Int)]
def Op.cs (o : Op) : Array Value := opC o.name o.linked o.head o.refs o.packs
def op0 : Array Value := #[.string ⟨#[]⟩, .bool false, .string ⟨#[]⟩, .slice none 0 0, .slice none 0 0, .int .i64 0, .int .i64 0]
def OpenP (s : Bs) (w : World) (e : Ending) (w' : World) : Prop :=
  ((∃ o : Op, openO s = some o ∧ e = .returned (.tuple #[.agg o.cs, .nilIface])) ∨ (openO s = none ∧ ∃ x, e = .returned (.tuple #[.agg op0, ev x]))) ∧ Below w.heap.size w w'
/-- A row of seven, cell by cell. -/
structure Row7 (w : World) (g : Nat) : Prop where
  c0 : w.cell? ⟨g, 0, none⟩ = some (.string ⟨#[]⟩)
  f0 : w.frozen? ⟨g, 0, none⟩ = false
  c1 : w.cell? ⟨g, 1, none⟩ = some (.bool false)
  f1 : w.frozen? ⟨g, 1, none⟩ = false
  c2 : w.cell? ⟨g, 2, none⟩ = some (.string ⟨#[]⟩)
  f2 : w.frozen? ⟨g, 2, none⟩ = false
  c3 : w.cell? ⟨g, 3, none⟩ = some (.slice none 0 0)
  f3 : w.frozen? ⟨g, 3, none⟩ = false
  c4 : w.cell? ⟨g, 4, none⟩ = some (.slice none 0 0)
  f4 : w.frozen? ⟨g, 4, none⟩ = false
  c5 : w.cell? ⟨g, 5, none⟩ = some (.int .i64 0)
  f5 : w.frozen? ⟨g, 5, none⟩ = false
  c6 : w.cell? ⟨g, 6, none⟩ = some (.int .i64 0)
  f6 : w.frozen? ⟨g, 6, none⟩ = false
theorem Row7.of {w : World} {g : Nat} (h : w.heap[g]? = some (.cells op0 109 (0, 0))) : Row7 w g := by
  have f : ∀ j, w.frozen? ⟨g, j, none⟩ = false := fun j => by unfold World.frozen?; simp only [h]; rfl
  exact ⟨(cell_of_row w g 0 _ _ _ h).trans rfl, f 0, (cell_of_row w g 1 _ _ _ h).trans rfl, f 1, (cell_of_row w g 2 _ _ _ h).trans rfl, f 2, (cell_of_row w g 3 _ _ _ h).trans rfl, f 3, (cell_of_row w g 4 _ _ _ h).trans rfl, f 4, (cell_of_row w g 5 _ _ _ h).trans rfl, f 5, (cell_of_row w g 6 _ _ _ h).trans rfl, f 6⟩
theorem open_six {s : Bs} {a b c d e f : Bs} (h : words s = [a, b, c, d, e, f]) : openO s = if a = bFork ∧ bond (c == bLinked) = c then (match upO 64 e, upO 24 f with | some x, some y => some ⟨b, c == bLinked, d, x, y⟩ | _, _ => none) else none := by
  unfold openO; rw [h]
  rfl
theorem open_not {s : Bs} (h : (words s).length ≠ 6) : openO s = none := by
  unfold openO
  split
  · rename_i h6; rw [h6] at h; exact absurd rfl h
  · rfl
theorem six_of {l : List Bs} (h : l.length = 6) : ∃ a b c d e f, l = [a, b, c, d, e, f] := by
  match l, h with
  | [a, b, c, d, e, f], _ => exact ⟨a, b, c, d, e, f, rfl⟩
/-- What the cells of the pieces hold. -/
theorem strs_cell {w : World} {g n N : Nat} {l : List Bs} (h : StrsR w (.slice (some ⟨g, 0, none⟩) n N) l) (j : Nat) {x : Bs} (hx : l[j]? = some x) : w.cell? ⟨g, j, none⟩ = some (.string ⟨x.toArray⟩) := by
  rcases h with ⟨_, e⟩ | ⟨g', o', c', e, _, _, hc⟩
  · rw [e] at hx; simp at hx
  · cases e
    have hj := (List.getElem?_eq_some_iff.1 hx).1
    have := hc j hj x hx 0 (by decide)
    rw [Nat.zero_add, Nat.mul_one, Nat.add_zero] at this
    exact this
def set7 (w : World) (g : Nat) (a b c d e f h : Value) : World := ((((((w.setCell ⟨g, 0, none⟩ a).setCell ⟨g, 1, none⟩ b).setCell ⟨g, 2, none⟩ c).setCell ⟨g, 3, none⟩ d).setCell ⟨g, 4, none⟩ e).setCell ⟨g, 5, none⟩ f).setCell ⟨g, 6, none⟩ h
theorem set7_blk {w : World} {g : Nat} {t : TypeId} {fr : Nat × Nat} (h : w.heap[g]? = some (.cells op0 t fr)) (a b c d e f x : Value) : (set7 w g a b c d e f x).heap[g]? = some (.cells #[a, b, c, d, e, f, x] t fr) :=
  (blk_set (blk_set (blk_set (blk_set (blk_set (blk_set (blk_set h a) b) c) d) e) f) x).trans rfl
theorem set7_but (w : World) (g : Nat) (a b c d e f x : Value) : But (fun k => k = g) w (set7 w g a b c d e f x) :=
  ((((((but_set w g 0 a).trans (but_set _ g 1 b)).trans (but_set _ g 2 c)).trans (but_set _ g 3 d)).trans (but_set _ g 4 e)).trans (but_set _ g 5 f)).trans (but_set _ g 6 x)
theorem bytes_eq_iff (a b : Bs) : ((⟨a.toArray⟩ : ByteArray) = ⟨b.toArray⟩) ↔ a = b :=
  ⟨fun h => by have := congrArg (fun x : ByteArray => x.data.toList) h; simpa using this, fun h => by rw [h]⟩
def zero7 (w : World) (g : Nat) : World := set7 w g (.string ⟨#[]⟩) (.bool false) (.string ⟨#[]⟩) (.slice none 0 0) (.slice none 0 0) (.int .i64 0) (.int .i64 0)
theorem dr_blk {w : World} {g : Nat} {o : Option Obj} (h : w.heap[g]? = o) : w.drew.heap[g]? = o := h
theorem dr_low {B : Nat} {w w' : World} (h : Below B w w') : Below B w w'.drew := ⟨h.os, h.tape, h.output, h.size, h.block⟩
/-- The end at an error. -/
theorem open_bad {s : Bs} {w w1 w2 : World} {x : Addr} (hN : openO s = none) (hl : Below w.heap.size w w1) (hb : w1.heap[w.heap.size]? = some (.cells op0 109 (0, 0))) (hw : w2 = zero7 w1 w.heap.size) :
    OpenP s w (.returned (.tuple #[.agg op0, ev x])) w2 ∧ w2.heap[w.heap.size]? = some (.cells op0 109 (0, 0)) := by
  subst hw
  exact ⟨⟨.inr ⟨hN, x, rfl⟩, hl.trans ((set7_but _ _ _ _ _ _ _ _ _).below (fun k _ h => by omega) hl.size)⟩, set7_blk hb _ _ _ _ _ _ _⟩
theorem open_badD {s : Bs} {w w1 w2 : World} {x : Addr} (hN : openO s = none) (hl : Below w.heap.size w w1) (hb : w1.heap[w.heap.size]? = some (.cells op0 109 (0, 0))) (hw : w2 = (zero7 w1 w.heap.size).drew) :
    OpenP s w (.returned (.tuple #[.agg op0, ev x])) w2 ∧ w2.heap[w.heap.size]? = some (.cells op0 109 (0, 0)) := by
  obtain ⟨h1, h2⟩ := open_bad (x := x) hN hl hb rfl
  rw [hw]
  exact ⟨⟨h1.1, dr_low h1.2⟩, dr_blk h2⟩
theorem open_good {s : Bs} {w w1 w2 : World} {o : Op} (hN : openO s = some o) (hl : Below w.heap.size w w1) (hb : w1.heap[w.heap.size]? = some (.cells op0 109 (0, 0))) {a b c d e f g : Value} (ho : o.cs = #[a, b, c, d, e, f, g]) (hw : w2 = set7 w1 w.heap.size a b c d e f g) :
    OpenP s w (.returned (.tuple #[.agg #[a, b, c, d, e, f, g], .nilIface])) w2 ∧ w2.heap[w.heap.size]? = some (.cells #[a, b, c, d, e, f, g] 109 (0, 0)) := by
  subst hw
  exact ⟨⟨.inl ⟨o, hN, by rw [ho]⟩, hl.trans ((set7_but _ _ _ _ _ _ _ _ _).below (fun k _ h => by omega) hl.size)⟩, set7_blk hb _ _ _ _ _ _ _⟩
theorem join_mem_len : ∀ {l : List Bs} {x : Bs}, x ∈ l → x.length ≤ (join l).length
  | [a], x, h => by rw [List.mem_singleton.1 h]; exact Nat.le_refl _
  | a :: b :: l, x, h => by
    show x.length ≤ (a ++ 32 :: join (b :: l)).length
    rw [List.length_append, List.length_cons]
    rcases List.mem_cons.1 h with h | h
    · rw [h]; omega
    · have := join_mem_len h; omega
theorem words_mem_len : ∀ {s x : Bs}, x ∈ words s → x.length ≤ s.length := by
  intro s x hx
  have h := join_words s
  rw [← h]
  exact join_mem_len hx
set_option maxHeartbeats 8000000 in
set_option maxRecDepth 100000 in
theorem open_p {w : World} {E : ErA} (hp : PrA E w) (s : Bs) (hs : s.length ≤ 1000000) : Calls Tryz.prog 79 #[.string ⟨s.toArray⟩] w (OpenP s w) := by
  obtain ⟨wa, hwa⟩ : ∃ y, y = w.alloc (.cells op0 109) := ⟨_, rfl⟩
  have la : Below w.heap.size w wa := by rw [hwa]; exact below_new _ _
  have hba : wa.heap[w.heap.size]? = some (.cells op0 109 (0, 0)) := by rw [hwa]; exact heap_alloc_new _ _
  have HS := Lib.hid (splitN_p s hs wa)
  have hp0 := hp.er.form
  have HA := Lib.hid la; have HB := Lib.hid hba; have HP := Lib.hid (hp.below la)
  unfold op0 at hwa
  have HW := Lib.hid hwa
  clear la hba hwa hp
  go_enter Tryz.func79, Tryz.ntmps79
  go_upto_region 1 with fail
  rw [← HW.out]
  clear HW
  go_upto_region 2 with fail
  refine HS.out.mono ?_
  rintro e w1 ⟨ps, n, N, rfl, hn, hn7, hr, h6, h6', l1⟩
  have hb1 : w1.heap[w.heap.size]? = some (.cells op0 109 (0, 0)) := (l1.block _ (lt_heap HB.out)).trans HB.out
  have hpw := HP.out.below l1
  have e0 := hpw.er.form
  unfold ev at e0
  have hz : 0 < w.heap.size := World.block_lt_of_cell? _ _ hp0
  have hsw := HA.out.size
  clear hp0
  have hne1 : ¬ w.heap.size = 0 := by omega
  have hne2 : ¬ 0 = w.heap.size := by omega
  obtain ⟨c0, g0, c1, g1, c2, g2, c3, g3, c4, g4, c5, g5, c6, g6⟩ := Row7.of hb1
  have B1 := Lib.hid hb1
  have L1 : Hid (Below w.heap.size w w1) := Lib.hid (HA.out.trans (l1.mono HA.out.size))
  have LB := Lib.hid (Nat.le_trans HA.out.size l1.size)
  by_cases hn6 : n = 6
  case neg =>
    have hni : ¬ (n : Int) = 6 := by omega
    have HN : Hid (openO s = none) := Lib.hid (open_not fun h => hn6 (h6' h))
    clear hn hn7 hr h6 h6' l1 HS hb1 hpw
    go_upto_region 3 with fail
    go_region
    go_wp2_with fail
    obtain ⟨wz, hwz⟩ : ∃ y, y = (zero7 w1 w.heap.size).drew := ⟨_, rfl⟩
    obtain ⟨hz1, hz2⟩ := open_badD (x := E.form) HN.out (L1.out) (B1.out) hwz
    have HZ := Lib.hid hz1
    clear hz1
    unfold zero7 set7 at hwz
    rw [← hwz]
    unfold ev at HZ
    exact bodyPost_ret (v := .tuple #[.agg op0, .iface 206 (.pointer (some (E.form)))]) (results_two  rfl _ _ w.heap.size 109 op0 (0, 0) _ rfl hz2 Tryz.underlying109 rfl (by kernel_rfl) rfl) rfl HZ.out
  case pos =>
    subst hn6
    obtain ⟨a, b, c, d, e, f, hps⟩ := six_of hn.symm
    subst hps
    have hw6 := h6 rfl
    have k0 := strs_cell hr 0 (x := a) rfl; have k1 := strs_cell hr 1 (x := b) rfl; have k2 := strs_cell hr 2 (x := c) rfl; have k3 := strs_cell hr 3 (x := d) rfl; have k4 := strs_cell hr 4 (x := e) rfl; have k5 := strs_cell hr 5 (x := f) rfl
    have hO := open_six hw6.symm
    have hsz : wa.heap.size < w1.heap.size := World.block_lt_of_cell? _ _ k0
    have hsz2 : w.heap.size < w1.heap.size := by omega
    have hsz3 : ¬ wa.heap.size = w1.heap.size := by omega
    have hsz4 : ¬ w.heap.size = w1.heap.size := by omega
    have he5 : e.length ≤ 1000000 := by
      have := words_mem_len (s := s) (x := e) (by rw [← hw6]; simp); omega
    have hf5 : f.length ≤ 1000000 := by
      have := words_mem_len (s := s) (x := f) (by rw [← hw6]; simp); omega
    clear hn hn7 hr h6 h6' l1 HS
    by_cases ha : a = [102, 111, 114, 107]
    case neg =>
      have HN : Hid (openO s = none) := Lib.hid (by
        rw [hO]
        exact if_neg fun h => ha h.1)
      have hab : (a == [102, 111, 114, 107]) = false := by simpa using ha
      clear hO hw6 hpw
      go_upto_region 3 with fail
      go_region
      go_wp2_with fail
      obtain ⟨wz, hwz⟩ : ∃ y, y = (zero7 w1 w.heap.size).drew := ⟨_, rfl⟩
      obtain ⟨hz1, hz2⟩ := open_badD (x := E.form) HN.out (L1.out) (B1.out) hwz
      have HZ := Lib.hid hz1
      clear hz1
      unfold zero7 set7 at hwz
      rw [← hwz]
      unfold ev at HZ
      exact bodyPost_ret (v := .tuple #[.agg op0, .iface 206 (.pointer (some (E.form)))]) (results_two  rfl _ _ w.heap.size 109 op0 (0, 0) _ rfl hz2 Tryz.underlying109 rfl (by kernel_rfl) rfl) rfl HZ.out
    case pos =>
      have ha' : a = bFork := ha
      subst ha
      by_cases hcl : c = [108, 105, 110, 107, 101, 100]
      case pos =>
        have hc' : c = bLinked := hcl
        have hO2 : ∀ z, z = true → openO s = match upO 64 e, upO 24 f with | some x, some y => some ⟨b, z, d, x, y⟩ | _, _ => none := fun z hz => by
          rw [hO, if_pos ⟨ha', by rw [hc']; rfl⟩, hc', hz]; rfl
        clear hc' ha'
        subst hcl
        have hU : openO s = match upO 64 e, upO 24 f with | some x, some y => some ⟨b, true, d, x, y⟩ | _, _ => none := hO2 _ rfl
        have HU := Lib.hid hU
        have HO := Lib.hid hO
        have Hw6 := Lib.hid hw6
        have K4 := Lib.hid k4
        have K5 := Lib.hid k5
        have HPW := Lib.hid hpw
        clear hU hO hw6 hpw hO2
        have HBd : ∀ W, Calls Tryz.prog 50 #[.bool true] W fun e w' => e = .returned (.string ⟨#[108, 105, 110, 107, 101, 100]⟩) ∧ W = w' := fun W => bond_any true W
        go_upto_region 4 with fail
        go_region
        go_upto_region 5 with fail
        obtain ⟨wx, hwx⟩ : ∃ y, y = (w1.alloc (.cells #[.string ⟨b.toArray⟩, .bool true, .string ⟨d.toArray⟩, .slice none 0 0, .slice none 0 0] 42)).drew := ⟨_, rfl⟩
        have lx : Below w1.heap.size w1 wx := by rw [hwx]; exact dr_low (below_new _ _)
        have X_wx : Hid (wx.heap[w1.heap.size]? = some (.cells #[.string ⟨b.toArray⟩, .bool true, .string ⟨d.toArray⟩, .slice none 0 0, .slice none 0 0] 42 (0, 0))) := Lib.hid (by rw [hwx]; exact dr_blk (heap_alloc_new _ _))
        rw [← hwx]
        clear hwx
        have B_wx : Hid (wx.heap[w.heap.size]? = some (.cells op0 109 (0, 0))) := Lib.hid ((lx.block _ (lt_heap B1.out)).trans B1.out)
        have P_wx := Lib.hid (HPW.out.below lx); have L_wx : Hid (Below w.heap.size w wx) := Lib.hid (L1.out.trans (lx.mono L1.out.size)); have K4_wx := Lib.hid (cellL K4.out lx); have K5_wx := Lib.hid (cellL K5.out lx)
        have q2 := cellL k2 lx
        have q1 : wx.cell? ⟨w1.heap.size, 1, none⟩ = some (.bool true) := (cell_of_row wx _ 1 _ _ _ X_wx.out).trans rfl
        clear lx k0 k1 k2 k3 k4 k5 c0 c1 c2 c3 c4 c5 c6 g0 g1 g2 g3 g4 g5 g6 e0
        go_quiet (exact Calls.quiet_of_same ((HBd _).mono fun _ _ h => ⟨h.1, h.2.symm⟩))
        go_upto_region 7 with fail
        have HUp := fun n => Lib.hid (upTo_p (P_wx.out.below (bdr (Below.refl _ wx) n)) 64 e he5)
        have kk4 := K4_wx.out
        go_upto_region 8 with fail
        refine (HUp _).out.mono ?_
        rintro e9 w3 ⟨hv, l3⟩
        have lb3 : Below wx.heap.size wx w3 := (bdr (Below.refl _ wx) nq).trans l3
        clear l3 q1 q2 kk4
        have hB_w3 : w3.heap[w.heap.size]? = some (.cells op0 109 (0, 0)) := ((lb3).block _ (lt_heap B_wx.out)).trans B_wx.out
        have hX_w3 : w3.heap[w1.heap.size]? = some (.cells #[.string ⟨b.toArray⟩, .bool true, .string ⟨d.toArray⟩, .slice none 0 0, .slice none 0 0] 42 (0, 0)) := ((lb3).block _ (lt_heap X_wx.out)).trans X_wx.out
        have B_w3 := Lib.hid hB_w3; have X_w3 := Lib.hid hX_w3; have P_w3 := Lib.hid (P_wx.out.below (lb3)); have L_w3 := Lib.hid (L_wx.out.trans ((lb3).mono L_wx.out.size)); have K4_w3 := Lib.hid (cellL K4_wx.out (lb3)); have K5_w3 := Lib.hid (cellL K5_wx.out (lb3))
        clear hB_w3 hX_w3
        clear lb3
        clear HUp
        rcases hv with ⟨n1, u1, rfl⟩ | ⟨u1, x, rfl⟩
        · have U1 := Lib.hid u1
          clear u1
          have HUp := fun n => Lib.hid (upTo_p (P_w3.out.below (bdr (Below.refl _ w3) n)) 24 f hf5)
          have HUp0 := Lib.hid (upTo_p P_w3.out 24 f hf5)
          have kk5 := K5_w3.out
          go_upto_region 11 with fail
          refine HUp0.out.mono ?_
          rintro e9 w4 ⟨hv, lb4⟩
          clear kk5 HUp HUp0
          have hB_w4 : w4.heap[w.heap.size]? = some (.cells op0 109 (0, 0)) := ((lb4).block _ (lt_heap B_w3.out)).trans B_w3.out
          have hX_w4 : w4.heap[w1.heap.size]? = some (.cells #[.string ⟨b.toArray⟩, .bool true, .string ⟨d.toArray⟩, .slice none 0 0, .slice none 0 0] 42 (0, 0)) := ((lb4).block _ (lt_heap X_w3.out)).trans X_w3.out
          have B_w4 := Lib.hid hB_w4; have X_w4 := Lib.hid hX_w4; have P_w4 := Lib.hid (P_w3.out.below (lb4)); have L_w4 := Lib.hid (L_w3.out.trans ((lb4).mono L_w3.out.size)); have K4_w4 := Lib.hid (cellL K4_w3.out (lb4)); have K5_w4 := Lib.hid (cellL K5_w3.out (lb4))
          clear hB_w4 hX_w4
          clear lb4
          rcases hv with ⟨n2, u2, rfl⟩ | ⟨u2, x, rfl⟩
          · have HN : Hid (openO s = some ⟨b, true, d, n1, n2⟩) := Lib.hid (by rw [HU.out, U1.out, u2])
            have w4_hB := B_w4.out
            have w4_hX := X_w4.out
            obtain ⟨c0, g0, c1, g1, c2, g2, c3, g3, c4, g4, c5, g5, c6, g6⟩ := Row7.of w4_hB
            go_upto_region 13 with fail
            go_wp2_with (first | (refine wpList_load_row rfl 42 _ rfl w1.heap.size rfl 42 _ (0, 0) _ w4_hX Tryz.underlying42 rfl (by kernel_rfl) ?_) | fail)
            obtain ⟨wz, hwz⟩ : ∃ y, y = set7 w4 w.heap.size (.string ⟨b.toArray⟩) (.bool true) (.string ⟨d.toArray⟩) (.slice none 0 0) (.slice none 0 0) (.int .i64 (n1 : Int)) (.int .i64 (n2 : Int)) := ⟨_, rfl⟩
            obtain ⟨hz1, hz2⟩ := open_good HN.out L_w4.out B_w4.out rfl hwz
            have HZ := Lib.hid hz1
            clear hz1
            unfold set7 at hwz
            rw [← hwz]
            exact bodyPost_ret (v := .tuple #[.agg #[.string ⟨b.toArray⟩, .bool true, .string ⟨d.toArray⟩, .slice none 0 0, .slice none 0 0, .int .i64 (n1 : Int), .int .i64 (n2 : Int)], .nilIface]) (results_two rfl _ _ w.heap.size 109 _ (0, 0) _ rfl hz2 Tryz.underlying109 rfl (by kernel_rfl) rfl) rfl HZ.out
          · unfold ev
            have HN : Hid (openO s = none) := Lib.hid (by rw [HU.out, U1.out, u2])
            have w4_hB := B_w4.out
            obtain ⟨c0, g0, c1, g1, c2, g2, c3, g3, c4, g4, c5, g5, c6, g6⟩ := Row7.of w4_hB
            go_wp2_with fail
            obtain ⟨wz, hwz⟩ : ∃ y, y = zero7 w4 w.heap.size := ⟨_, rfl⟩
            obtain ⟨hz1, hz2⟩ := open_bad (x := x) HN.out (L_w4.out) (B_w4.out) hwz
            have HZ := Lib.hid hz1
            clear hz1
            unfold zero7 set7 at hwz
            rw [← hwz]
            unfold ev at HZ
            exact bodyPost_ret (v := .tuple #[.agg op0, .iface 206 (.pointer (some (x)))]) (results_two  rfl _ _ w.heap.size 109 op0 (0, 0) _ rfl hz2 Tryz.underlying109 rfl (by kernel_rfl) rfl) rfl HZ.out
        · unfold ev
          have HN : Hid (openO s = none) := Lib.hid (by rw [HU.out, u1])
          have w3_hB := B_w3.out
          obtain ⟨c0, g0, c1, g1, c2, g2, c3, g3, c4, g4, c5, g5, c6, g6⟩ := Row7.of w3_hB
          go_wp2_with fail
          obtain ⟨wz, hwz⟩ : ∃ y, y = zero7 w3 w.heap.size := ⟨_, rfl⟩
          obtain ⟨hz1, hz2⟩ := open_bad (x := x) HN.out (L_w3.out) (B_w3.out) hwz
          have HZ := Lib.hid hz1
          clear hz1
          unfold zero7 set7 at hwz
          rw [← hwz]
          unfold ev at HZ
          exact bodyPost_ret (v := .tuple #[.agg op0, .iface 206 (.pointer (some (x)))]) (results_two  rfl _ _ w.heap.size 109 op0 (0, 0) _ rfl hz2 Tryz.underlying109 rfl (by kernel_rfl) rfl) rfl HZ.out
      case neg =>
        have hcb : (c == [108, 105, 110, 107, 101, 100]) = false := by simpa using hcl
        by_cases hca : c = [97, 108, 111, 110, 101]
        case pos =>
          have hc' : c = bAlone := hca
          have hO2 : ∀ z, z = false → openO s = match upO 64 e, upO 24 f with | some x, some y => some ⟨b, z, d, x, y⟩ | _, _ => none := fun z hz => by
            rw [hO, if_pos ⟨ha', by rw [hc']; rfl⟩, hc', hz]; rfl
          clear hc' ha' hcb hcl
          subst hca
          have hU : openO s = match upO 64 e, upO 24 f with | some x, some y => some ⟨b, false, d, x, y⟩ | _, _ => none := hO2 _ rfl
          have HU := Lib.hid hU
          have HO := Lib.hid hO
          have Hw6 := Lib.hid hw6
          have K4 := Lib.hid k4
          have K5 := Lib.hid k5
          have HPW := Lib.hid hpw
          clear hU hO hw6 hpw hO2
          have HBd : ∀ W, Calls Tryz.prog 50 #[.bool false] W fun e w' => e = .returned (.string ⟨#[97, 108, 111, 110, 101]⟩) ∧ W = w' := fun W => bond_any false W
          go_upto_region 4 with fail
          go_region
          go_upto_region 5 with fail
          obtain ⟨wx, hwx⟩ : ∃ y, y = (w1.alloc (.cells #[.string ⟨b.toArray⟩, .bool false, .string ⟨d.toArray⟩, .slice none 0 0, .slice none 0 0] 42)).drew := ⟨_, rfl⟩
          have lx : Below w1.heap.size w1 wx := by rw [hwx]; exact dr_low (below_new _ _)
          have X_wx : Hid (wx.heap[w1.heap.size]? = some (.cells #[.string ⟨b.toArray⟩, .bool false, .string ⟨d.toArray⟩, .slice none 0 0, .slice none 0 0] 42 (0, 0))) := Lib.hid (by rw [hwx]; exact dr_blk (heap_alloc_new _ _))
          rw [← hwx]
          clear hwx
          have B_wx : Hid (wx.heap[w.heap.size]? = some (.cells op0 109 (0, 0))) := Lib.hid ((lx.block _ (lt_heap B1.out)).trans B1.out)
          have P_wx := Lib.hid (HPW.out.below lx); have L_wx : Hid (Below w.heap.size w wx) := Lib.hid (L1.out.trans (lx.mono L1.out.size)); have K4_wx := Lib.hid (cellL K4.out lx); have K5_wx := Lib.hid (cellL K5.out lx)
          have q2 := cellL k2 lx
          have q1 : wx.cell? ⟨w1.heap.size, 1, none⟩ = some (.bool false) := (cell_of_row wx _ 1 _ _ _ X_wx.out).trans rfl
          clear lx k0 k1 k2 k3 k4 k5 c0 c1 c2 c3 c4 c5 c6 g0 g1 g2 g3 g4 g5 g6 e0
          go_quiet (exact Calls.quiet_of_same ((HBd _).mono fun _ _ h => ⟨h.1, h.2.symm⟩))
          go_upto_region 7 with fail
          have HUp := fun n => Lib.hid (upTo_p (P_wx.out.below (bdr (Below.refl _ wx) n)) 64 e he5)
          have kk4 := K4_wx.out
          go_upto_region 8 with fail
          refine (HUp _).out.mono ?_
          rintro e9 w3 ⟨hv, l3⟩
          have lb3 : Below wx.heap.size wx w3 := (bdr (Below.refl _ wx) nq).trans l3
          clear l3 q1 q2 kk4
          have hB_w3 : w3.heap[w.heap.size]? = some (.cells op0 109 (0, 0)) := ((lb3).block _ (lt_heap B_wx.out)).trans B_wx.out
          have hX_w3 : w3.heap[w1.heap.size]? = some (.cells #[.string ⟨b.toArray⟩, .bool false, .string ⟨d.toArray⟩, .slice none 0 0, .slice none 0 0] 42 (0, 0)) := ((lb3).block _ (lt_heap X_wx.out)).trans X_wx.out
          have B_w3 := Lib.hid hB_w3; have X_w3 := Lib.hid hX_w3; have P_w3 := Lib.hid (P_wx.out.below (lb3)); have L_w3 := Lib.hid (L_wx.out.trans ((lb3).mono L_wx.out.size)); have K4_w3 := Lib.hid (cellL K4_wx.out (lb3)); have K5_w3 := Lib.hid (cellL K5_wx.out (lb3))
          clear hB_w3 hX_w3
          clear lb3
          clear HUp
          rcases hv with ⟨n1, u1, rfl⟩ | ⟨u1, x, rfl⟩
          · have U1 := Lib.hid u1
            clear u1
            have HUp := fun n => Lib.hid (upTo_p (P_w3.out.below (bdr (Below.refl _ w3) n)) 24 f hf5)
            have HUp0 := Lib.hid (upTo_p P_w3.out 24 f hf5)
            have kk5 := K5_w3.out
            go_upto_region 11 with fail
            refine HUp0.out.mono ?_
            rintro e9 w4 ⟨hv, lb4⟩
            clear kk5 HUp HUp0
            have hB_w4 : w4.heap[w.heap.size]? = some (.cells op0 109 (0, 0)) := ((lb4).block _ (lt_heap B_w3.out)).trans B_w3.out
            have hX_w4 : w4.heap[w1.heap.size]? = some (.cells #[.string ⟨b.toArray⟩, .bool false, .string ⟨d.toArray⟩, .slice none 0 0, .slice none 0 0] 42 (0, 0)) := ((lb4).block _ (lt_heap X_w3.out)).trans X_w3.out
            have B_w4 := Lib.hid hB_w4; have X_w4 := Lib.hid hX_w4; have P_w4 := Lib.hid (P_w3.out.below (lb4)); have L_w4 := Lib.hid (L_w3.out.trans ((lb4).mono L_w3.out.size)); have K4_w4 := Lib.hid (cellL K4_w3.out (lb4)); have K5_w4 := Lib.hid (cellL K5_w3.out (lb4))
            clear hB_w4 hX_w4
            clear lb4
            rcases hv with ⟨n2, u2, rfl⟩ | ⟨u2, x, rfl⟩
            · have HN : Hid (openO s = some ⟨b, false, d, n1, n2⟩) := Lib.hid (by rw [HU.out, U1.out, u2])
              have w4_hB := B_w4.out
              have w4_hX := X_w4.out
              obtain ⟨c0, g0, c1, g1, c2, g2, c3, g3, c4, g4, c5, g5, c6, g6⟩ := Row7.of w4_hB
              go_upto_region 13 with fail
              go_wp2_with (first | (refine wpList_load_row rfl 42 _ rfl w1.heap.size rfl 42 _ (0, 0) _ w4_hX Tryz.underlying42 rfl (by kernel_rfl) ?_) | fail)
              obtain ⟨wz, hwz⟩ : ∃ y, y = set7 w4 w.heap.size (.string ⟨b.toArray⟩) (.bool false) (.string ⟨d.toArray⟩) (.slice none 0 0) (.slice none 0 0) (.int .i64 (n1 : Int)) (.int .i64 (n2 : Int)) := ⟨_, rfl⟩
              obtain ⟨hz1, hz2⟩ := open_good HN.out L_w4.out B_w4.out rfl hwz
              have HZ := Lib.hid hz1
              clear hz1
              unfold set7 at hwz
              rw [← hwz]
              exact bodyPost_ret (v := .tuple #[.agg #[.string ⟨b.toArray⟩, .bool false, .string ⟨d.toArray⟩, .slice none 0 0, .slice none 0 0, .int .i64 (n1 : Int), .int .i64 (n2 : Int)], .nilIface]) (results_two rfl _ _ w.heap.size 109 _ (0, 0) _ rfl hz2 Tryz.underlying109 rfl (by kernel_rfl) rfl) rfl HZ.out
            · unfold ev
              have HN : Hid (openO s = none) := Lib.hid (by rw [HU.out, U1.out, u2])
              have w4_hB := B_w4.out
              obtain ⟨c0, g0, c1, g1, c2, g2, c3, g3, c4, g4, c5, g5, c6, g6⟩ := Row7.of w4_hB
              go_wp2_with fail
              obtain ⟨wz, hwz⟩ : ∃ y, y = zero7 w4 w.heap.size := ⟨_, rfl⟩
              obtain ⟨hz1, hz2⟩ := open_bad (x := x) HN.out (L_w4.out) (B_w4.out) hwz
              have HZ := Lib.hid hz1
              clear hz1
              unfold zero7 set7 at hwz
              rw [← hwz]
              unfold ev at HZ
              exact bodyPost_ret (v := .tuple #[.agg op0, .iface 206 (.pointer (some (x)))]) (results_two  rfl _ _ w.heap.size 109 op0 (0, 0) _ rfl hz2 Tryz.underlying109 rfl (by kernel_rfl) rfl) rfl HZ.out
          · unfold ev
            have HN : Hid (openO s = none) := Lib.hid (by rw [HU.out, u1])
            have w3_hB := B_w3.out
            obtain ⟨c0, g0, c1, g1, c2, g2, c3, g3, c4, g4, c5, g5, c6, g6⟩ := Row7.of w3_hB
            go_wp2_with fail
            obtain ⟨wz, hwz⟩ : ∃ y, y = zero7 w3 w.heap.size := ⟨_, rfl⟩
            obtain ⟨hz1, hz2⟩ := open_bad (x := x) HN.out (L_w3.out) (B_w3.out) hwz
            have HZ := Lib.hid hz1
            clear hz1
            unfold zero7 set7 at hwz
            rw [← hwz]
            unfold ev at HZ
            exact bodyPost_ret (v := .tuple #[.agg op0, .iface 206 (.pointer (some (x)))]) (results_two  rfl _ _ w.heap.size 109 op0 (0, 0) _ rfl hz2 Tryz.underlying109 rfl (by kernel_rfl) rfl) rfl HZ.out
        case neg =>
          have hN : openO s = none := by
            rw [hO]
            refine if_neg fun h => ?_
            have h2 := h.2
            rw [show (c == bLinked) = false from hcb] at h2
            exact hca h2.symm
          have hcd : (c == [97, 108, 111, 110, 101]) = false := by simpa using hca
          have hce : ([97, 108, 111, 110, 101] == c) = false := by rw [Bool.eq_false_iff]; intro h; exact hca (eq_of_beq h).symm
          have hcf : ¬ [97, 108, 111, 110, 101] = c := fun h => hca h.symm
          clear ha'
          have HN : Hid (openO s = none) := Lib.hid hN
          have HO := Lib.hid hO
          have Hw6 := Lib.hid hw6
          have K4 := Lib.hid k4
          have K5 := Lib.hid k5
          have HPW := Lib.hid hpw
          clear hO hw6 hpw hN
          have HBd : ∀ W, Calls Tryz.prog 50 #[.bool false] W fun e w' => e = .returned (.string ⟨#[97, 108, 111, 110, 101]⟩) ∧ W = w' := fun W => bond_any false W
          go_upto_region 4 with fail
          go_region
          go_upto_region 5 with fail
          obtain ⟨wx, hwx⟩ : ∃ y, y = (w1.alloc (.cells #[.string ⟨b.toArray⟩, .bool false, .string ⟨d.toArray⟩, .slice none 0 0, .slice none 0 0] 42)).drew := ⟨_, rfl⟩
          have lx : Below w1.heap.size w1 wx := by rw [hwx]; exact dr_low (below_new _ _)
          have X_wx : Hid (wx.heap[w1.heap.size]? = some (.cells #[.string ⟨b.toArray⟩, .bool false, .string ⟨d.toArray⟩, .slice none 0 0, .slice none 0 0] 42 (0, 0))) := Lib.hid (by rw [hwx]; exact dr_blk (heap_alloc_new _ _))
          rw [← hwx]
          clear hwx
          have B_wx : Hid (wx.heap[w.heap.size]? = some (.cells op0 109 (0, 0))) := Lib.hid ((lx.block _ (lt_heap B1.out)).trans B1.out)
          have P_wx := Lib.hid (HPW.out.below lx); have L_wx : Hid (Below w.heap.size w wx) := Lib.hid (L1.out.trans (lx.mono L1.out.size)); have K4_wx := Lib.hid (cellL K4.out lx); have K5_wx := Lib.hid (cellL K5.out lx)
          have q2 := cellL k2 lx
          have q1 : wx.cell? ⟨w1.heap.size, 1, none⟩ = some (.bool false) := (cell_of_row wx _ 1 _ _ _ X_wx.out).trans rfl
          clear lx k0 k1 k2 k3 k4 k5 c0 c1 c2 c3 c4 c5 c6 g0 g1 g2 g3 g4 g5 g6 e0
          go_quiet (exact Calls.quiet_of_same ((HBd _).mono fun _ _ h => ⟨h.1, h.2.symm⟩))
          obtain ⟨wy, hwy⟩ : ∃ y, y = wx.drewN nq := ⟨_, rfl⟩
          have ly : Below wx.heap.size wx wy := by rw [hwy]; exact bdr (Below.refl _ _) _
          go_upto_region 6 with fail
          rw [← hwy]
          clear hwy q1 q2
          have hB_wy : wy.heap[w.heap.size]? = some (.cells op0 109 (0, 0)) := ((ly).block _ (lt_heap B_wx.out)).trans B_wx.out
          have hX_wy : wy.heap[w1.heap.size]? = some (.cells #[.string ⟨b.toArray⟩, .bool false, .string ⟨d.toArray⟩, .slice none 0 0, .slice none 0 0] 42 (0, 0)) := ((ly).block _ (lt_heap X_wx.out)).trans X_wx.out
          have B_wy := Lib.hid hB_wy; have X_wy := Lib.hid hX_wy; have P_wy := Lib.hid (P_wx.out.below (ly)); have L_wy := Lib.hid (L_wx.out.trans ((ly).mono L_wx.out.size)); have K4_wy := Lib.hid (cellL K4_wx.out (ly)); have K5_wy := Lib.hid (cellL K5_wx.out (ly))
          clear hB_wy hX_wy
          clear ly
          have e0 := P_wy.out.er.form
          unfold ev at e0
          have wy_hB := B_wy.out
          obtain ⟨c0, g0, c1, g1, c2, g2, c3, g3, c4, g4, c5, g5, c6, g6⟩ := Row7.of wy_hB
          go_region
          go_wp2_with fail
          obtain ⟨wz, hwz⟩ : ∃ y, y = (zero7 wy w.heap.size).drew := ⟨_, rfl⟩
          obtain ⟨hz1, hz2⟩ := open_badD (x := E.form) HN.out (L_wy.out) (B_wy.out) hwz
          have HZ := Lib.hid hz1
          clear hz1
          unfold zero7 set7 at hwz
          rw [← hwz]
          unfold ev at HZ
          exact bodyPost_ret (v := .tuple #[.agg op0, .iface 206 (.pointer (some (E.form)))]) (results_two  rfl _ _ w.heap.size 109 op0 (0, 0) _ rfl hz2 Tryz.underlying109 rfl (by kernel_rfl) rfl) rfl HZ.out
end Go.Proofs.YtnboagmibhllpaaGreatDoor.Ro


namespace Go.Proofs.YtnboagmibhllpaaGreatDoor.Ro
open Go.Proofs.YtnboagmibhllpaaGreatDoor
open Go Go.RowKit

section
variable {α : Type} {st t : TypeId} {k bt : Nat} {f : α → List Value}
theorem RdK.dropH {w : World} {g o n c : Nat} {l : List α} (h : RdK k f w (.slice (some ⟨g, o, none⟩) n c) l) (hn : n = l.length) (hn0 : 0 < n) (m : Nat) (hm : m ≤ n) :
    ∀ j u, ((l.drop m).flatMap f)[j]? = some u → (∀ x, (f x).length = k) → 0 < k → w.cell? ⟨g, o + m * k + j, none⟩ = some u := by
  intro j u hj hf hk
  rcases h with ⟨_, rfl⟩ | ⟨g', o', c', e, hc, hg, hcell⟩
  · simp at hn; omega
  cases e
  have hlt : j < (l.drop m).length * k := by
    rw [← flat_length hf]
    exact (List.getElem?_eq_some_iff.1 hj).1
  have hq : j / k < (l.drop m).length := Nat.div_lt_of_lt_mul (by rw [Nat.mul_comm]; exact hlt)
  have hr : j % k < k := Nat.mod_lt _ hk
  have hj2 : j / k * k + j % k = j := by rw [Nat.mul_comm]; exact Nat.div_add_mod j k
  have hx : (l.drop m)[j / k]? = some (l.drop m)[j / k] := List.getElem?_eq_getElem hq
  have h1 := flat_get hf (l.drop m) (j / k) _ hx (j % k) hr
  rw [hj2, hj] at h1
  have hq2 : m + j / k < l.length := by rw [List.length_drop] at hq; omega
  have hx2 : l[m + j / k]? = some (l.drop m)[j / k] := by rw [List.getElem_drop]; exact List.getElem?_eq_getElem hq2
  have h2 := hcell (m + j / k) hq2 _ hx2 (j % k) hr
  have e : o + (m + j / k) * k + j % k = o + m * k + j := by rw [Nat.add_mul]; omega
  rw [e] at h2
  rw [h2, ← h1]

/-- What a slice holds, behind. -/
theorem run_appH (E : ElK st t k bt f) {w : World} {base : Nat} {v : Value} {l m : List α} (h : OwK t k f w base v l) (a : Addr) (n c : Nat) (hn : n = m.length) (hs : ∀ j u, (m.flatMap f)[j]? = some u → w.cell? (a.add j) = some u) (hl : l.length + m.length ≤ 1000000) (hbt : bt ≤ 1000) (hb : base ≤ w.heap.size) (ty : TypeId) :
    ∃ v' w', (Builtin.append_ #[st, st] ty #[v, .slice (some a) n c]).run Tryz.prog w = .ok v' w' ∧ OwK t k f w' base v' (l ++ m) ∧ Below base w w' ∧ w.grownBy w' v.ownBlock := by
  subst hn
  obtain ⟨z, hz, hzs⟩ := E.info
  obtain ⟨i0, hi, hz0, hz1, hz2⟩ := info_parts hz
  obtain ⟨v', w', h1, h2, h3, _⟩ := run_append_own (P := Tryz.prog) w base st ty t i0 z k bt E.ut hi hz0 hz1 hz2 hzs E.pos v l.length (l.flatMap f) h a m.length c (m.flatMap f) (flat_length E.len m) hs
    (fun u hu => by obtain ⟨x, _, hx⟩ := List.mem_flatMap.1 hu; exact E.one x u hx) (by unfold maxLen; omega) (by
      have : (l.length + m.length) * bt ≤ 1000000 * 1000 := Nat.mul_le_mul hl hbt
      omega) hb
  refine ⟨v', w', h1, ?_, ⟨h3.os, h3.tape, h3.output, h3.size, fun j hj => h3.block j (by omega) ?_⟩, h3⟩
  · unfold OwK; rw [List.length_append, List.flatMap_append]; exact h2
  · intro e
    have := (h.lt j e.symm).1
    omega
theorem run_append_nilC {P : Program} {w : World} (base : Nat) (t ty e : TypeId) (i : TypeInfo) (size : Nat) (ht : P.underlying t = some (.slice e)) (hi : P.info? e = some i)
    (v : Value) (n c : Nat) (xs : List Value) (hown : w.ownsRow base e size v n xs) :
    (Builtin.append_ #[t, t] ty #[v, .slice none 0 c]).run P w = .ok v w := by
  rcases hown.2 with ⟨rfl, rfl⟩ | ⟨g, cap, cur, rfl, _, _, hnc, _⟩
  · simp [Builtin.append_, run_underlying ht, sizeOf, typeInfo, hi, Builtin.lenOf, Builtin.firstCells]
  · simp [Builtin.append_, run_underlying ht, sizeOf, typeInfo, hi, Builtin.lenOf, Builtin.firstCells, hnc, storeCells]
theorem run_all (E : ElK st t k bt f) {w : World} {base : Nat} {v sv : Value} {l m : List α} (h : OwK t k f w base v l) (hm : RdK k f w sv m) (hl : l.length + m.length ≤ 1000000) (hbt : bt ≤ 1000) (hb : base ≤ w.heap.size) (ty : TypeId) :
    ∃ v' w', (Builtin.append_ #[st, st] ty #[v, sv]).run Tryz.prog w = .ok v' w' ∧ OwK t k f w' base v' (l ++ m) ∧ Below base w w' ∧ w.grownBy w' v.ownBlock := by
  have hm0 := hm
  rcases hm with ⟨⟨A, c, rfl⟩, rfl⟩ | ⟨g, o, c, rfl, hc, hg, hcell⟩
  · cases A with
    | some a => exact run_appH E h a 0 c rfl (fun j u hj => by simp at hj) hl hbt hb ty
    | none =>
      obtain ⟨z, hz, hzs⟩ := E.info
      obtain ⟨i0, hi, _⟩ := info_parts hz
      exact ⟨v, w, run_append_nilC base st ty t i0 k E.ut hi v l.length c _ h, by rw [List.append_nil]; exact h, Below.refl _ _, ⟨rfl, rfl, rfl, Nat.le_refl _, fun _ _ _ => rfl⟩⟩
  · refine run_appH E h ⟨g, o, none⟩ m.length c rfl (fun j u hj => ?_) hl hbt hb ty
    rcases Nat.eq_zero_or_pos m.length with h0 | h0
    · rw [List.eq_nil_of_length_eq_zero h0] at hj; simp at hj
    · have := RdK.dropH hm0 rfl h0 0 (Nat.zero_le _) j u (by rw [List.drop_zero]; exact hj) E.len E.pos
      rw [Go.WideShapes.add_plain]
      simpa using this
/-- The operation, its run known ahead. -/
theorem wpList_appR {st : TypeId} {ops : Array Oper} {rest : List Oper} {o : Oper} {a : Go.Act} {w : World} {Q : Exit → Go.Act → World → Prop} (hgd : o.guard = none) (s x : Operand)
    (ho : o.op = .call { callee := .builtin .append, args := #[s, x], argTypes := #[st, st] }) (v sv v' : Value) (w' : World) (hs : a.eval s = v) (hx : a.eval x = sv)
    (h : ∀ ty, (Builtin.append_ #[st, st] ty #[v, sv]).run Tryz.prog w = .ok v' w')
    (k : wpList Tryz.prog ops Q rest (a.put o.dst v') w') : wpList Tryz.prog ops Q (o :: rest) a w := by
  refine wpList_plain hgd fun K hK => ?_
  unfold Oper.wp
  simp [execOp, ho, resolve, invoke, builtin, hs, hx, h, Result.andThen]
  exact hK _ _ k
theorem run_all' (E : ElK st t k bt f) {w : World} {base : Nat} {v sv : Value} {l m : List α} (h : OwK t k f w base v l) (hm : RdK k f w sv m) (hl : l.length + m.length ≤ 1000000) (hbt : bt ≤ 1000) (hb : base ≤ w.heap.size) :
    ∃ v' w', (∀ ty, (Builtin.append_ #[st, st] ty #[v, sv]).run Tryz.prog w = .ok v' w') ∧ OwK t k f w' base v' (l ++ m) ∧ w.grownBy w' v.ownBlock := by
  obtain ⟨v', w', h1, h2, _, h4⟩ := run_all E h hm hl hbt hb t
  exact ⟨v', w', fun ty => h1, h2, h4⟩
end
theorem elStr : ElK (α := Bs) 22 9 1 16 strC where
  ut := Tryz.underlying22
  info := ⟨.string ⟨#[]⟩, by kernel_rfl, rfl⟩
  pos := by decide
  len := fun _ => rfl
  one := fun x u hu => by
    simp [strC] at hu; rw [hu]; rfl
/-! ### A cell that holds a slice of one's own -/
def IsT (t : TypeId) (w : World) (k : Nat) : Prop := ∃ cs fr, w.heap[k]? = some (.cells cs t fr)
/-- What was turned: the cell, and blocks of the elements above the base. -/
def Wk (t : TypeId) (b base : Nat) (w w' : World) : Prop := But (fun k => k = b ∨ base ≤ k ∧ IsT t w k) w w'
theorem Wk.refl (t : TypeId) (b base : Nat) (w : World) : Wk t b base w w := But.refl _ _
theorem Wk.trans {t : TypeId} {b base : Nat} {x y z : World} (h : Wk t b base x y) (k : Wk t b base y z) : Wk t b base x z :=
  ⟨k.os.trans h.os, k.tape.trans h.tape, k.output.trans h.output, Nat.le_trans (But.size h) (But.size k), fun i hi hn => by
    have e := h.block i hi hn
    refine (k.block i (Nat.lt_of_lt_of_le hi (But.size h)) fun hs => hn ?_).trans e
    rcases hs with hs | ⟨hs, cs, fr, hc⟩
    · exact .inl hs
    · exact .inr ⟨hs, cs, fr, by rw [← e]; exact hc⟩⟩
theorem Wk.new {t : TypeId} {b base : Nat} {w w' : World} (h : Below w.heap.size w w') : Wk t b base w w' := But.of_new h
theorem Wk.keep {t : TypeId} {b base : Nat} {w w' : World} (h : Wk t b base w w') {k : Nat} {cs : Array Value} {u : TypeId} {fr : Nat × Nat} (hk : w.heap[k]? = some (.cells cs u fr)) (hb : k ≠ b) (ht : k < base ∨ u ≠ t) : w'.heap[k]? = some (.cells cs u fr) :=
  (h.block k (lt_heap hk) fun hs => by
    rcases hs with hs | ⟨hs, cs', fr', hc⟩
    · exact hb hs
    · rcases ht with ht | ht
      · omega
      · rw [hk] at hc; cases hc; exact ht rfl).trans hk
section
variable {α : Type} {st t : TypeId} {k : Nat} {f : α → List Value}
/-- Block b holds a slice of one's own, above base. -/
def Bx (st t : TypeId) (k : Nat) (f : α → List Value) (w : World) (b base : Nat) (l : List α) : Prop := ∃ A n c, w.heap[b]? = some (.cells #[.slice A n c] st (0, 0)) ∧ OwK t k f w base (.slice A n c) l ∧ n = l.length
theorem Bx.lt {w : World} {b base : Nat} {l : List α} (h : Bx st t k f w b base l) : b < w.heap.size := by obtain ⟨A, n, c, h1, _⟩ := h; exact lt_heap h1
theorem Bx.but {w w' : World} {b base : Nat} {l : List α} {S : Nat → Prop} (h : Bx st t k f w b base l) (hb : But S w w') (h1 : ¬ S b) (h2 : ∀ g, base ≤ g → IsT t w g → ¬ S g) : Bx st t k f w' b base l := by
  obtain ⟨A, n, c, hk, ho, hn⟩ := h
  exact ⟨A, n, c, (hb.block b (lt_heap hk) h1).trans hk, row_but ho hb (fun g hg => h2 g (own_block ho hg).1 ((own_block ho hg).2.2.elim fun cur hc => ⟨cur, _, hc⟩)), hn⟩
theorem Bx.below {w w' : World} {b base B : Nat} {l : List α} (h : Bx st t k f w b base l) (hb : Below B w w') (hlt : w.heap.size ≤ B) : Bx st t k f w' b base l := by
  obtain ⟨A, n, c, hk, ho, hn⟩ := h
  exact ⟨A, n, c, (hb.block b (Nat.lt_of_lt_of_le (lt_heap hk) hlt)).trans hk, ho.below hb hlt, hn⟩
/-- An append, and the store behind it. -/
theorem Bx.app {w w' : World} {b base : Nat} {l m : List α} {A : Option Addr} {n c : Nat} {v' : Value} (hk : w.heap[b]? = some (.cells #[.slice A n c] st (0, 0))) (hst : st ≠ t) (hw : OwK t k f w base (.slice A n c) l) (h' : OwK t k f w' base v' (l ++ m)) (hg : w.grownBy w' (Value.slice A n c).ownBlock) :
    Bx st t k f (w'.setCell ⟨b, 0, none⟩ v') b base (l ++ m) ∧ Wk t b base w (w'.setCell ⟨b, 0, none⟩ v') ∧ w'.cell? ⟨b, 0, none⟩ = some (.slice A n c) ∧ w'.frozen? ⟨b, 0, none⟩ = false := by
  have hne : (Value.slice A n c).ownBlock ≠ some b := fun e => by
    obtain ⟨_, _, cur, hc⟩ := own_block hw e
    rw [hk] at hc; cases hc; exact hst rfl
  have hb' : w'.heap[b]? = some (.cells #[.slice A n c] st (0, 0)) := (hg.block b (lt_heap hk) fun e => hne e.symm).trans hk
  obtain ⟨A', c', e⟩ := own_slice h'
  subst e
  refine ⟨⟨A', _, c', (blk_set hb' _).trans rfl, ?_, rfl⟩, Wk.trans ((But.of_grown hg).mono fun k _ h => .inr ⟨(own_block hw h).1, (own_block hw h).2.2.elim fun cur hc => ⟨cur, _, hc⟩⟩) ((but_set w' b 0 _).mono fun k _ h => .inl h), (cell_of_row w' b 0 _ _ _ hb').trans rfl, by unfold World.frozen?; simp only [hb']; rfl⟩
  exact row_but h' (but_set w' b 0 _) fun g hg e => by
    obtain ⟨_, _, cur, hc⟩ := own_block h' hg
    rw [e, hb'] at hc; cases hc; exact hst rfl
end
end Go.Proofs.YtnboagmibhllpaaGreatDoor.Ro
