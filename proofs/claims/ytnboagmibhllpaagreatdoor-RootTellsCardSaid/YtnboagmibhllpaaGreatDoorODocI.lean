/-
  The document's root: Get.
-/
import Derived.Test.YtnboagmibhllpaaGreatDoorC20
import Derived.Test.YtnboagmibhllpaaGreatDoorOTelP
import Derived.Test.YtnboagmibhllpaaGreatDoorRDocR
import Derived.Test.YtnboagmibhllpaaGreatDoorZRDecimal
import Derived.Test.YtnboagmibhllpaaGreatDoorODocA
import Derived.Test.YtnboagmibhllpaaGreatDoorODocC
import Derived.Test.YtnboagmibhllpaaGreatDoorODocD
import Derived.Test.YtnboagmibhllpaaGreatDoorODocP
import Derived.Test.YtnboagmibhllpaaGreatDoorODocG
import Derived.Test.YtnboagmibhllpaaGreatDoorODocH
namespace Go.Proofs.YtnboagmibhllpaaGreatDoor.Ro
open Go.Proofs.YtnboagmibhllpaaGreatDoor
open Go.Proofs.YtnboagmibhllpaaGreatDoor.Rf (BoolB Ref RefsR nameB)
open Go.Proofs.YtnboagmibhllpaaGreatDoor.Rf (OwS OwR nameB rightB linesL)
open Go Go.RowKit

theorem packs_split (c : UInt8) : ∀ s : Bs, (packsL (splitL c s)).length = s.length + 1
  | [] => rfl
  | x :: s => by
    have ih := packs_split c s
    by_cases h : x = c
    · rw [splitL, if_pos h, packsL_cons]; simp [ih]
    · cases hp : splitL c s with
      | nil => exact absurd hp (splitL_ne c s)
      | cons p r => rw [splitL_cons h hp, packsL_cons]; rw [hp, packsL_cons] at ih; simp at ih ⊢; omega
theorem packs_sub {l : List Bs} {a n : Nat} (ha : 1 ≤ a) (hl : 0 < l.length) : (packsL ((l.drop a).take n)).length + 1 ≤ (packsL l).length := by
  have h1 := packsL_take_le (l.drop a) n
  have h2 : (packsL (l.drop a)).length + 1 ≤ (packsL l).length := by
    conv => rhs; rw [← List.take_append_drop a l]
    rw [packsL_app, List.length_append]
    have : 1 ≤ (packsL (l.take a)).length := by
      cases l with
      | nil => simp at hl
      | cons x l =>
        obtain ⟨b, rfl⟩ : ∃ b, a = b + 1 := ⟨a - 1, by omega⟩
        rw [List.take_succ_cons, packsL_cons]; simp; omega
    omega
  omega
theorem add9 (W : World) (a b : Nat) (h : a + b ≤ 100000000) : (binOp .add 3 (.int .i64 (a : Int)) (.int .i64 (b : Int))).run Tryz.prog W = .ok (.int .i64 ((a + b : Nat) : Int)) W := by
  have h : IntKind.i64.wrap ((a : Int) + (b : Int)) = ((a + b : Nat) : Int) := by
    rw [show (a : Int) + (b : Int) = ((a + b : Nat) : Int) by omega]
    exact IntWalk.i64_in _ (by omega)
  simp [go_sem, h]
theorem cnt_le {word : Bs} {o : Option Bs} {c : Nat} (h : cntO word o = some c) : c ≤ 1099511627776 := by
  unfold cntO at h
  split at h
  · split at h
    · exact (Nu.decL_some h).1
    · cases h
  · cases h
theorem six_ofR {l : List Bs} (h : l.length = 6) : ∃ a b c d e f, l = [a, b, c, d, e, f] := by
  match l, h with
  | [a, b, c, d, e, f], _ => exact ⟨a, b, c, d, e, f, rfl⟩
theorem addI (W : World) (x y : Int) (h : -1000000000 ≤ x + y ∧ x + y ≤ 1000000000) : (binOp .add 3 (.int .i64 x) (.int .i64 y)).run Tryz.prog W = .ok (.int .i64 (x + y)) W := by
  have h : IntKind.i64.wrap (x + y) = x + y := IntWalk.i64_in _ (by omega)
  simp [go_sem, h]
section
variable {P : Program} {a : Go.Act} {o : Oper} {W : World}
theorem y_allocR {t : TypeId} {r : Value} {W' : World} (ho : o.op = .alloc t) (h : (Instr.alloc t true (.tuple #[])).run P W = .ok r W') : (execOp a.eval o).run P W = .ok (.value r) W' := by
  simp only [execOp, ho]
  simp [h, Result.andThen]
end
theorem alloc_fk (W : World) : (Instr.alloc 42 true (.tuple #[])).run Tryz.prog W = .ok (.pointer (some ⟨W.heap.size, 0, none⟩)) (W.alloc (.cells fk0 42)) := by
  unfold fk0; simp [go_sem]
theorem bld_fk (W : World) (x y : Bs) (b : Bool) (A : Option Addr) (n c : Nat) : (Instr.build 42 #[(0, .string ⟨x.toArray⟩), (1, .bool b), (2, .string ⟨y.toArray⟩), (3, .slice A n c)]).run Tryz.prog W = .ok (.agg #[.string ⟨x.toArray⟩, .bool b, .string ⟨y.toArray⟩, .slice A n c, .slice none 0 0]) W := by kernel_rfl
/-- What a root's own lines say of the first lines. -/
theorem start_all {s : Bs} {lns : List Bs} (hl : lns = splitL 10 s) {r : Rt} (h : IsRoot s r) : cntO bNet lns[0]? = some r.count.toNat ∧ cntO bPool lns[1]? = some r.pool.length ∧ r.pool.length + 4 ≤ lns.length ∧ (lns.drop 2).take r.pool.length = r.pool ∧
    cntO bForks lns[2 + r.pool.length]? = some r.forks.length ∧ lns.drop (3 + r.pool.length) = r.forks.flatMap fkLs ++ [[]] := by
  obtain ⟨h1, h2, h3, h4, h5, h6⟩ := at_start h
  rw [← hl] at h1 h2 h3 h4 h5 h6
  refine ⟨?_, ?_, h3, h4, ?_, h6⟩
  · rw [h1]; exact cntO_mk (by have := h.1.hi; omega)
  · rw [h2]; exact cntO_mk (by have := h.1.pool.len; omega)
  · rw [h5]; exact cntO_mk (by have := h.1.len; omega)
set_option maxRecDepth 100000 in
set_option maxHeartbeats 16000000 in
theorem RGet10 (s : Bs) (w : World) (hl : s.length ≤ 900000) {A : Option Addr} {n c : Nat} (hn : n = s.length) (hb : Rb w (.slice A n c) s) : Calls Tryz.prog 15 #[.slice A n c] w (GetP s w) := by
  obtain ⟨wa, hwa⟩ : ∃ y, y = w.alloc (.cells rt0 25) := ⟨_, rfl⟩
  obtain ⟨wb, hwb⟩ : ∃ y, y = wa.alloc (.cells rt0 25) := ⟨_, rfl⟩
  have sa : wa.heap.size = w.heap.size + 1 := by rw [hwa]; simp
  have la : Below w.heap.size w wa := by rw [hwa]; exact below_new _ _
  have lb : Below wa.heap.size wa wb := by rw [hwb]; exact below_new _ _
  have k1 : wb.heap[w.heap.size + 1]? = some (.cells rt0 25 (0, 0)) := by rw [hwb, ← sa]; exact heap_alloc_new _ _
  have k0 : wb.heap[w.heap.size]? = some (.cells rt0 25 (0, 0)) := (lb.block _ (by omega)).trans (by rw [hwa]; exact heap_alloc_new _ _)
  have lab : Below w.heap.size w wb := la.trans (lb.mono (by omega))
  have HB : Hid (∀ W, Below w.heap.size w W → Rb W (.slice A n c) s) := Lib.hid fun W h => hb.below h (Nat.le_refl _)
  have HCv := Lib.hid (Nu.Rb.conv (HB.out wb lab))
  obtain ⟨lns, hlns⟩ : ∃ y, y = splitL 10 s := ⟨_, rfl⟩
  have HSp : Hid (Calls Tryz.prog 30 #[.string ⟨s.toArray⟩, .int .u8 10] wb fun e w' => ∃ v, e = .returned v ∧ OwS w' wb.heap.size v lns ∧ Below wb.heap.size wb w') := Lib.hid (by rw [hlns]; exact RSplit10 s 10 wb hl)
  have HLm : Hid (∀ x ∈ lns, x.length ≤ 900000) := Lib.hid fun x hx => by rw [hlns] at hx; have := splitL_mem 10 hx; omega
  have HLl : Hid (lns.length ≤ 900001) := Lib.hid (by rw [hlns]; have := splitL_len 10 s; omega)
  have HL0 : Hid (0 < lns.length) := Lib.hid (by rw [hlns]; exact List.length_pos_iff.2 (splitL_ne _ _))
  have HPk : Hid ((packsL lns).length ≤ 900001) := Lib.hid (by rw [hlns, packs_split]; omega)
  have HSt : Hid (∀ r, IsRoot s r → _) := Lib.hid fun r h => start_all hlns h
  have HLs := Lib.hid hlns
  have D0 : Hid (∀ W v, OwS W wb.heap.size v lns → Below wb.heap.size wb W → DSt w W w.heap.size (w.heap.size + 1) 0 none 0 0 [] none 0 0 [] v lns) := Lib.hid fun W v ho hB =>
    ⟨(hB.block _ (lt_heap k1)).trans k1, (hB.block _ (lt_heap k0)).trans k0, FksO.nil _ _, OwK.nil _ _ _ _ _, ho.mono (by have := lab.size; omega), lab.trans (hB.mono lab.size)⟩
  unfold rt0 at hwa hwb
  rw [hwa] at hwb
  have HWB := Lib.hid hwb
  have H01 : Hid (w.heap.size ≠ w.heap.size + 1) := Lib.hid (by omega)
  have HSs := Lib.hid hl
  clear hwb la lb k1 k0 lab hlns hb sa hn hl hwa
  go_enter Tryz.func15, Tryz.ntmps15
  go_upto_region 2 with fail
  rw [← HWB.out]
  clear HWB
  go_wp2_with (refine wpList_run (by kernel_rfl) (.string ⟨s.toArray⟩) wb (y_conv rfl (by kernel_rfl) HCv.out) ?_)
  refine HSp.out.mono ?_
  rintro e w1 ⟨lv, rfl, ho1, l1⟩
  have D1 := Lib.hid (D0.out w1 lv ho1 l1)
  obtain ⟨g, o, cl, rfl, hcl, -⟩ := (OwK.rd strC_len ho1).pos HL0.out
  clear ho1 l1 HSp HCv D0
  obtain ⟨nl, hnl⟩ : ∃ y, y = lns.length := ⟨_, rfl⟩
  have HNl := Lib.hid hnl
  rw [← hnl] at D1 hcl HLl HL0 ⊢
  have hnl1 : nl ≤ 900001 := HLl.out
  have hnl0 : 0 < nl := HL0.out
  clear hnl HLl HL0
  have HC : Hid (∀ W (i : Nat) (word : Bs), StrsR W (.slice (some ⟨g, o, none⟩) nl cl) lns → i ≤ 1000000 → word.length ≤ 1000 → Calls Tryz.prog 31 #[.slice (some ⟨g, o, none⟩) nl cl, .int .i64 (i : Int), .string ⟨word.toArray⟩] W fun e w' => e = .returned (Nu.decV (cntO word lns[i]?)) ∧ W = w') := Lib.hid fun W i word h h1 h2 => RCounted10 lns _ i word W h HLm.out (by rw [← HNl.out]; omega) h1 h2
  obtain ⟨c0, q0, e0, t0, u0⟩ := decV_un (cntO bNet lns[0]?)
  obtain ⟨np, q1, e1, t1, u1⟩ := decV_un (cntO bPool lns[1]?)
  have HC0 : Hid (Calls Tryz.prog 31 #[.slice (some ⟨g, o, none⟩) nl cl, .int .i64 0, .string ⟨#[110, 101, 116]⟩] w1 fun e w' => e = .returned (.tuple #[.int .i64 (c0 : Int), .bool q0]) ∧ w1 = w') := Lib.hid (by rw [← e0]; exact HC.out w1 0 bNet (OwK.rd strC_len D1.out.ln) (by decide) (by decide))
  have HC1 : Hid (Calls Tryz.prog 31 #[.slice (some ⟨g, o, none⟩) nl cl, .int .i64 1, .string ⟨#[112, 111, 111, 108]⟩] w1 fun e w' => e = .returned (.tuple #[.int .i64 (np : Int), .bool q1]) ∧ w1 = w') := Lib.hid (by rw [← e1]; exact HC.out w1 1 bPool (OwK.rd strC_len D1.out.ln) (by decide) (by decide))
  have T0 := Lib.hid t0; have U0 := Lib.hid u0; have T1 := Lib.hid t1; have U1 := Lib.hid u1
  clear e0 t0 u0 e1 t1 u1
  go_wp2_with fail
  refine HC0.out.mono ?_
  rintro e w2 ⟨rfl, rfl⟩
  clear HC0
  go_wp2_with fail
  refine HC1.out.mono ?_
  rintro e w2 ⟨rfl, rfl⟩
  clear HC1
  cases q0 with
  | false =>
    have HE : Hid (getO s = none) := Lib.hid (getO_no fun r h => by have := (HSt.out r h).1; rw [U0.out rfl] at this; cases this)
    obtain ⟨y0, f0, y1, f1, y2, f2⟩ := Row3.of D1.out.k0
    skip
    go_wp2_with fail
    obtain ⟨wz, hwz⟩ : ∃ y, y = set3 w1 w.heap.size (.int .i64 0) (.slice none 0 0) (.slice none 0 0) := ⟨_, rfl⟩
    have kz : wz.heap[w.heap.size]? = some (.cells rt0 25 (0, 0)) := by rw [hwz]; exact set3_blk D1.out.k0 _ _ _
    have tz : But (fun k => k = w.heap.size) w1 wz := by rw [hwz]; exact set3_but _ _ _ _ _
    have HF : Hid (GetP s w (.returned (.tuple #[.agg rt0, .bool false])) wz) := Lib.hid ⟨_, false, rfl, D1.out.low.trans (tz.below (B := w.heap.size) (fun k _ h => by omega) D1.out.low.size), .inr ⟨HE.out, rfl, rfl⟩⟩
    unfold set3 at hwz
    rw [← hwz]
    exact bodyPost_ret (v := .tuple #[.agg rt0, .bool false]) (results_two rfl _ _ w.heap.size 25 rt0 (0, 0) _ rfl kz Tryz.underlying25 rfl (by kernel_rfl) rfl) rfl HF.out
  | true =>
  cases q1 with
  | false =>
    have HE : Hid (getO s = none) := Lib.hid (getO_no fun r h => by have := (HSt.out r h).2.1; rw [U1.out rfl] at this; cases this)
    obtain ⟨y0, f0, y1, f1, y2, f2⟩ := Row3.of D1.out.k0
    skip
    go_wp2_with fail
    obtain ⟨wz, hwz⟩ : ∃ y, y = set3 w1 w.heap.size (.int .i64 0) (.slice none 0 0) (.slice none 0 0) := ⟨_, rfl⟩
    have kz : wz.heap[w.heap.size]? = some (.cells rt0 25 (0, 0)) := by rw [hwz]; exact set3_blk D1.out.k0 _ _ _
    have tz : But (fun k => k = w.heap.size) w1 wz := by rw [hwz]; exact set3_but _ _ _ _ _
    have HF : Hid (GetP s w (.returned (.tuple #[.agg rt0, .bool false])) wz) := Lib.hid ⟨_, false, rfl, D1.out.low.trans (tz.below (B := w.heap.size) (fun k _ h => by omega) D1.out.low.size), .inr ⟨HE.out, rfl, rfl⟩⟩
    unfold set3 at hwz
    rw [← hwz]
    exact bodyPost_ret (v := .tuple #[.agg rt0, .bool false]) (results_two rfl _ _ w.heap.size 25 rt0 (0, 0) _ rfl kz Tryz.underlying25 rfl (by kernel_rfl) rfl) rfl HF.out
  | true =>
  have HT0 : Hid (cntO bNet lns[0]? = some c0) := Lib.hid (T0.out rfl)
  have HT1 : Hid (cntO bPool lns[1]? = some np) := Lib.hid (T1.out rfl)
  clear T0 U0 T1 U1
  by_cases hgt : (nl : Int) - 2 < (np : Int)
  · have HE : Hid (getO s = none) := Lib.hid (getO_no fun r h => by
      obtain ⟨_, h2, h3, _⟩ := HSt.out r h
      rw [HT1.out] at h2
      have := Option.some.inj h2
      have := HNl.out
      omega)
    obtain ⟨y0, f0, y1, f1, y2, f2⟩ := Row3.of D1.out.k0
    skip
    go_wp2_with fail
    obtain ⟨wz, hwz⟩ : ∃ y, y = set3 w1 w.heap.size (.int .i64 0) (.slice none 0 0) (.slice none 0 0) := ⟨_, rfl⟩
    have kz : wz.heap[w.heap.size]? = some (.cells rt0 25 (0, 0)) := by rw [hwz]; exact set3_blk D1.out.k0 _ _ _
    have tz : But (fun k => k = w.heap.size) w1 wz := by rw [hwz]; exact set3_but _ _ _ _ _
    have HF : Hid (GetP s w (.returned (.tuple #[.agg rt0, .bool false])) wz) := Lib.hid ⟨_, false, rfl, D1.out.low.trans (tz.below (B := w.heap.size) (fun k _ h => by omega) D1.out.low.size), .inr ⟨HE.out, rfl, rfl⟩⟩
    unfold set3 at hwz
    rw [← hwz]
    exact bodyPost_ret (v := .tuple #[.agg rt0, .bool false]) (results_two rfl _ _ w.heap.size 25 rt0 (0, 0) _ rfl kz Tryz.underlying25 rfl (by kernel_rfl) rfl) rfl HF.out
  have hnp : 2 + np ≤ nl := by omega
  obtain ⟨z0, zf0, z1, zf1, z2, zf2⟩ := Row3.of (show w1.heap[w.heap.size + 1]? = some (.cells rt0 25 (0, 0)) from D1.out.k1)
  obtain ⟨w2, hw2⟩ : ∃ y, y = w1.setCell ⟨w.heap.size + 1, 0, none⟩ (.int .i64 (c0 : Int)) := ⟨_, rfl⟩
  have D2 : Hid (DSt w w2 w.heap.size (w.heap.size + 1) c0 none 0 0 [] none 0 0 [] (.slice (some ⟨g, o, none⟩) nl cl) lns) := Lib.hid (by rw [hw2]; exact D1.out.box 0 _ H01.out (by omega) rfl D1.out.op)
  have HW2 := Lib.hid hw2
  clear hw2
  go_upto_region 8 with fail
  rw [← HW2.out]
  clear HW2 z0 zf0 z1 zf1 z2 zf2 D1
  obtain ⟨wd, hwd⟩ : ∃ y, y = w2.drew := ⟨_, rfl⟩
  have D2d : Hid (DSt w wd w.heap.size (w.heap.size + 1) c0 none 0 0 [] none 0 0 [] (.slice (some ⟨g, o, none⟩) nl cl) lns) := Lib.hid (by rw [hwd]; exact D2.out.new (Below.refl _ _).drew)
  obtain ⟨As, cs, hsl, hsr⟩ := strs_sub (OwK.rd strC_len D2d.out.ln) HNl.out hcl (a := 2) (b := 2 + np) (by omega) hnp (by omega)
  rw [Nat.add_sub_cancel_left] at hsr
  have HSl : Hid (∀ W, (Instr.sliceAt 22 (.slice (some ⟨g, o, none⟩) nl cl) (some (.int .i64 2)) (some (.int .i64 ((2 + np : Nat) : Int))) none).run Tryz.prog W = .ok (.slice As np cs) W) := Lib.hid fun W => by have := hsl W; rw [Nat.add_sub_cancel_left] at this; exact this
  obtain ⟨pool, hpool⟩ : ∃ y, y = (lns.drop 2).take np := ⟨_, rfl⟩
  rw [← hpool] at hsr
  obtain ⟨A9, n9, q9, w9, hr9, hc9, hs9, hd9⟩ := D2d.out.fill hsr (by rw [hpool, List.length_take]; omega) H01.out (by omega)
  have R9 := Lib.hid hr9; have C9 := Lib.hid hc9; have S9 := Lib.hid hs9; have D3 := Lib.hid hd9; have HPool := Lib.hid hpool
  clear hsl hsr hr9 hc9 hs9 hd9 hpool D2
  refine held_start (fun _ => True) (by kernel_rfl) ?_
  rw [← hwd]
  clear hwd
  refine held_take 0 (.pointer (some ⟨w.heap.size + 1, 1, none⟩)) rfl (by kernel_rfl) (by kernel_rfl) (by kernel_rfl) (fun _ _ _ h => h) (by kernel_rfl) (fun W hW => y_field (sv := .pointer (some ⟨w.heap.size + 1, 0, none⟩)) rfl (by kernel_rfl) (f_r1w W _)) trivial ?_
  refine held_take 2 (.slice (some ⟨g, o, none⟩) nl cl) rfl (by kernel_rfl) (by kernel_rfl) (by kernel_rfl) (fun _ _ _ h => h) (by kernel_rfl) (fun W hW => by kernel_rfl) trivial ?_
  refine held_take 3 (.int .i64 (np : Int)) rfl (by kernel_rfl) (by kernel_rfl) (by kernel_rfl) (fun _ _ _ h => h) (by kernel_rfl) (fun W hW => by kernel_rfl) trivial ?_
  refine held_take 4 (.int .i64 ((2 + np : Nat) : Int)) rfl (by kernel_rfl) (by kernel_rfl) (by kernel_rfl) (fun _ _ _ h => h) (by kernel_rfl) (fun W hW => y_bin (x := .int .i64 2) (y := .int .i64 (np : Int)) rfl (by kernel_rfl) (by kernel_rfl) rfl (add9 W 2 np (by omega))) trivial ?_
  refine held_take 5 (.slice As np cs) rfl (by kernel_rfl) (by kernel_rfl) (by kernel_rfl) (fun _ _ _ h => h) (by kernel_rfl) (fun W hW => y_slice (xv := .slice (some ⟨g, o, none⟩) nl cl) (lv := some (.int .i64 2)) (hv := some (.int .i64 ((2 + np : Nat) : Int))) (mv := none) rfl (by kernel_rfl) (by kernel_rfl) (by kernel_rfl) rfl (HSl.out W)) trivial ?_
  refine held_one (i := 1) (by kernel_rfl) ?_
  refine held_op (.slice none 0 0) wd rfl (by kernel_rfl) (y_load (sv := .pointer (some ⟨w.heap.size + 1, 1, none⟩)) rfl (by kernel_rfl) (l_Sl wd _ 1 none 0 0 C9.out)) trivial ?_
  refine held_one (i := 6) (by kernel_rfl) ?_
  refine held_op (.slice A9 n9 q9) w9 rfl (by kernel_rfl) (y_append rfl (by kernel_rfl) (by kernel_rfl) (R9.out _)) trivial ?_
  refine held_take 7 (.pointer (some ⟨w.heap.size + 1, 1, none⟩)) rfl (by kernel_rfl) (by kernel_rfl) (by kernel_rfl) (fun _ _ _ h => h) (by kernel_rfl) (fun W hW => y_field (sv := .pointer (some ⟨w.heap.size + 1, 0, none⟩)) rfl (by kernel_rfl) (f_r1w W _)) trivial ?_
  refine held_one (i := 8) (by kernel_rfl) ?_
  refine held_store (w9.setCell ⟨w.heap.size + 1, 1, none⟩ (.slice A9 n9 q9)) rfl (by kernel_rfl) (y_store (sv := .pointer (some ⟨w.heap.size + 1, 1, none⟩)) (xv := .slice A9 n9 q9) rfl (by kernel_rfl) (by kernel_rfl) S9.out) trivial ?_
  refine held_done _ (by kernel_rfl) ?_
  go_simp
  generalize w9.setCell ⟨w.heap.size + 1, 1, none⟩ (.slice A9 n9 q9) = w3 at D3 ⊢
  clear R9 C9 S9 D2d HSl
  obtain ⟨nf, q2, e2, t2, u2⟩ := decV_un (cntO bForks lns[2 + np]?)
  have HC2 : Hid (Calls Tryz.prog 31 #[.slice (some ⟨g, o, none⟩) nl cl, .int .i64 ((2 : Int) + (np : Int)), .string ⟨#[102, 111, 114, 107, 115]⟩] w3 fun e w' => e = .returned (.tuple #[.int .i64 (nf : Int), .bool q2]) ∧ w3 = w') := Lib.hid (by
    rw [← e2, show (2 : Int) + (np : Int) = ((2 + np : Nat) : Int) by omega]; exact HC.out w3 (2 + np) bForks (OwK.rd strC_len D3.out.ln) (by omega) (by decide))
  have T2 := Lib.hid t2; have U2 := Lib.hid u2
  clear e2 t2 u2 HC
  go_wp2_with fail
  refine HC2.out.mono ?_
  rintro e w4 ⟨rfl, rfl⟩
  clear HC2
  have HPl : Hid (∀ r, IsRoot s r → r.count = (c0 : Int) ∧ r.pool = pool ∧ r.pool.length = np) := Lib.hid fun r h => by
    obtain ⟨h1, h2, _, h4, _, _⟩ := HSt.out r h
    rw [HT0.out] at h1
    rw [HT1.out] at h2
    have h1 := Option.some.inj h1
    have h2 := Option.some.inj h2
    have := h.1.lo
    exact ⟨by omega, by rw [HPool.out, h2]; exact h4.symm, h2.symm⟩
  cases q2 with
  | false =>
    have HE : Hid (getO s = none) := Lib.hid (getO_no fun r h => by
      obtain ⟨_, _, _, _, h5, _⟩ := HSt.out r h
      rw [(HPl.out r h).2.2, U2.out rfl] at h5; cases h5)
    obtain ⟨y0, f0, y1, f1, y2, f2⟩ := Row3.of D3.out.k0
    skip
    go_wp2_with fail
    obtain ⟨wz, hwz⟩ : ∃ y, y = set3 w3 w.heap.size (.int .i64 0) (.slice none 0 0) (.slice none 0 0) := ⟨_, rfl⟩
    have kz : wz.heap[w.heap.size]? = some (.cells rt0 25 (0, 0)) := by rw [hwz]; exact set3_blk D3.out.k0 _ _ _
    have tz : But (fun k => k = w.heap.size) w3 wz := by rw [hwz]; exact set3_but _ _ _ _ _
    have HF : Hid (GetP s w (.returned (.tuple #[.agg rt0, .bool false])) wz) := Lib.hid ⟨_, false, rfl, D3.out.low.trans (tz.below (B := w.heap.size) (fun k _ h => by omega) D3.out.low.size), .inr ⟨HE.out, rfl, rfl⟩⟩
    unfold set3 at hwz
    rw [← hwz]
    exact bodyPost_ret (v := .tuple #[.agg rt0, .bool false]) (results_two rfl _ _ w.heap.size 25 rt0 (0, 0) _ rfl kz Tryz.underlying25 rfl (by kernel_rfl) rfl) rfl HF.out
  | true =>
  have HT2 : Hid (cntO bForks lns[2 + np]? = some nf) := Lib.hid (T2.out rfl)
  clear T2 U2
  have HNf : Hid (∀ r, IsRoot s r → r.forks.length = nf ∧ nf ≤ 16) := Lib.hid fun r h => by
    obtain ⟨_, _, _, _, h5, _⟩ := HSt.out r h
    rw [(HPl.out r h).2.2, HT2.out] at h5
    have h5 := Option.some.inj h5
    exact ⟨h5.symm, by rw [h5]; exact h.1.len⟩
  by_cases h16 : (16 : Int) < (nf : Int)
  · have HE : Hid (getO s = none) := Lib.hid (getO_no fun r h => by have := (HNf.out r h).2; omega)
    obtain ⟨y0, f0, y1, f1, y2, f2⟩ := Row3.of D3.out.k0
    skip
    go_wp2_with fail
    obtain ⟨wz, hwz⟩ : ∃ y, y = set3 w3 w.heap.size (.int .i64 0) (.slice none 0 0) (.slice none 0 0) := ⟨_, rfl⟩
    have kz : wz.heap[w.heap.size]? = some (.cells rt0 25 (0, 0)) := by rw [hwz]; exact set3_blk D3.out.k0 _ _ _
    have tz : But (fun k => k = w.heap.size) w3 wz := by rw [hwz]; exact set3_but _ _ _ _ _
    have HF : Hid (GetP s w (.returned (.tuple #[.agg rt0, .bool false])) wz) := Lib.hid ⟨_, false, rfl, D3.out.low.trans (tz.below (B := w.heap.size) (fun k _ h => by omega) D3.out.low.size), .inr ⟨HE.out, rfl, rfl⟩⟩
    unfold set3 at hwz
    rw [← hwz]
    exact bodyPost_ret (v := .tuple #[.agg rt0, .bool false]) (results_two rfl _ _ w.heap.size 25 rt0 (0, 0) _ rfl kz Tryz.underlying25 rfl (by kernel_rfl) rfl) rfl HF.out
  have HAt : Hid (∀ r, IsRoot s r → At s c0 pool nf 0 (2 + np + 1) [] r) := Lib.hid fun r h =>
    ⟨(HPl.out r h).1, (HPl.out r h).2.1, (HNf.out r h).1, rfl, by
      obtain ⟨_, _, _, _, _, h6⟩ := HSt.out r h
      rw [(HPl.out r h).2.2, HLs.out] at h6
      rw [show 2 + np + 1 = 3 + np by omega]; exact h6⟩
  have HPlen : Hid (∀ x ∈ pool, x.length ≤ 900000) := Lib.hid fun x hx => HLm.out x (by rw [HPool.out] at hx; exact List.mem_of_mem_drop (List.mem_of_mem_take hx))
  have HPn : Hid (pool.length ≤ 1000000) := Lib.hid (by rw [HPool.out, List.length_take]; omega)
  have hc0 : c0 ≤ 1099511627776 := cnt_le HT0.out
  clear HSt HPl HNf HT0 HT1 HT2 HPool hgt
  go_wp2_with fail
  go_loopw [10, 13] (fun p i wr => ∃ (k a : Nat) (acc : List Fk) (Af : Option Addr) (n' cf : Nat), k ≤ nf ∧ a ≤ 900002 ∧ 1 ≤ a ∧ i = .int .i64 k ∧ p = .int .i64 a ∧ Hid (DSt w wr w.heap.size (w.heap.size + 1) c0 A9 n9 q9 pool Af n' cf acc (.slice (some ⟨g, o, none⟩) nl cl) lns) ∧ Hid (∀ r, IsRoot s r → At s c0 pool nf k a acc r) ∧ Hid (acc.length = k) ∧ Hid (∀ f ∈ acc, FitF f)) (fun _ i _ => nf - (intOf i).toNat)
  case atStart => exact ⟨0, 2 + np + 1, [], none, 0, 0, Nat.zero_le _, by omega, by omega, rfl, by go_num, D3, HAt, Lib.hid rfl, Lib.hid (by simp)⟩
  case round =>
    clear D3 HAt
    obtain ⟨wo, hwo⟩ : ∃ wo, wo = wr := ⟨_, rfl⟩
    subst hwo
    obtain ⟨k, a, acc, Af, n', cf, hk, ha, ha1, rfl, rfl, D, HAt, HAc, HFt⟩ := hrel
    by_cases hlt : k < nf
    case neg =>
      have hkI : ¬ (k : Int) < (nf : Int) := by omega
      have hke : k = nf := by omega
      obtain ⟨r', hr'⟩ : ∃ r' : Rt, r' = ⟨(c0 : Int), pool, acc⟩ := ⟨_, rfl⟩
      have HR : Hid (RtR wo (.agg #[.int .i64 (c0 : Int), .slice A9 n9 q9, .slice Af n' cf]) r') := Lib.hid (by rw [hr']; exact ⟨_, _, rfl, OwK.rd strC_len D.out.op, D.out.fs.rd⟩)
      have HEq : Hid (∀ r, IsRoot s r → r = r') := Lib.hid fun r h => by
        have h1 := HAt.out r h
        have h2 := h1.acc
        rw [hke, ← h1.nf, List.take_length] at h2
        have e1 := h1.cnt; have e2 := h1.pool
        obtain ⟨c', p', f'⟩ := r
        rw [hr']
        simp only at e1 e2 h2
        rw [e1, e2, h2]
      have HFit : FitR r' := by
        rw [hr']
        exact ⟨fun x hx => by have := HPlen.out x hx; unfold maxLen; omega, HPn.out, HFt.out, by have := HAc.out; show acc.length ≤ _; have := h16; omega, by show _ ≤ (c0 : Int); omega, by show (c0 : Int) ≤ _; omega⟩
      have HPt := Lib.hid (RPut10 r' _ wo HR.out HFit)
      have z0 : wo.cell? ⟨w.heap.size + 1, 0, none⟩ = some (.int .i64 (c0 : Int)) := (cell_of_row wo _ 0 _ _ _ D.out.k1).trans rfl
      have z1 : wo.cell? ⟨w.heap.size + 1, 1, none⟩ = some (.slice A9 n9 q9) := (cell_of_row wo _ 1 _ _ _ D.out.k1).trans rfl
      have z2 : wo.cell? ⟨w.heap.size + 1, 2, none⟩ = some (.slice Af n' cf) := (cell_of_row wo _ 2 _ _ _ D.out.k1).trans rfl
      have HRe := Lib.hid hr'
      clear hr' HFit HAt HFt HAc HR hke hlt
      go_wp2_with fail
      refine HPt.out.mono ?_
      rintro e w5 ⟨l5, hq⟩
      have D5 := Lib.hid (D.out.new l5)
      clear z0 z1 z2 l5 HPt D
      rcases hq with ⟨hok, A5, n5, c5, rfl, hn5, hrb⟩ | ⟨hno, rfl⟩
      · have HP2 := Lib.hid (Nu.Rb.conv (HB.out w5 D5.out.low))
        have HP1 := Lib.hid (Nu.Rb.conv hrb)
        obtain ⟨p, hp⟩ : ∃ p, p = rootL r' := ⟨_, rfl⟩
        rw [← hp] at HP1
        have HP := Lib.hid hp; have HOk := Lib.hid hok
        clear hrb hn5 hp hok
        by_cases hps : p = s
        · subst hps
          have HG : Hid (getO p = some r') := Lib.hid (getO_iff.2 ⟨HOk.out, HP.out.symm⟩)
          obtain ⟨y0, f0, y1, f1, y2, f2⟩ := Row3.of D5.out.k0
          have z0 : w5.cell? ⟨w.heap.size + 1, 0, none⟩ = some (.int .i64 (c0 : Int)) := (cell_of_row w5 _ 0 _ _ _ D5.out.k1).trans rfl
          have z1 : w5.cell? ⟨w.heap.size + 1, 1, none⟩ = some (.slice A9 n9 q9) := (cell_of_row w5 _ 1 _ _ _ D5.out.k1).trans rfl
          have z2 : w5.cell? ⟨w.heap.size + 1, 2, none⟩ = some (.slice Af n' cf) := (cell_of_row w5 _ 2 _ _ _ D5.out.k1).trans rfl
          clear HP HOk HEq
          go_wp2_with (first
            | refine wpList_run (by kernel_rfl) (.string ⟨p.toArray⟩) w5 (y_conv rfl rfl HP1.out) ?_
            | refine wpList_run (by kernel_rfl) (.string ⟨p.toArray⟩) w5 (y_conv rfl rfl HP2.out) ?_)
          obtain ⟨wz, hwz⟩ : ∃ y, y = set3 w5 w.heap.size (.int .i64 (c0 : Int)) (.slice A9 n9 q9) (.slice Af n' cf) := ⟨_, rfl⟩
          have kz : wz.heap[w.heap.size]? = some (.cells #[.int .i64 (c0 : Int), .slice A9 n9 q9, .slice Af n' cf] 25 (0, 0)) := by rw [hwz]; exact set3_blk D5.out.k0 _ _ _
          have tz : But (fun k => k = w.heap.size) w5 wz := by rw [hwz]; exact set3_but _ _ _ _ _
          have HF : Hid (GetP p w (.returned (.tuple #[.agg #[.int .i64 (c0 : Int), .slice A9 n9 q9, .slice Af n' cf], .bool true])) wz) := Lib.hid ⟨_, true, rfl, D5.out.low.trans (tz.below (B := w.heap.size) (fun k _ h => by omega) D5.out.low.size), .inl ⟨r', HG.out, rfl, by
            rw [HRe.out]
            refine ⟨_, _, rfl, OwK.rd strC_len (row_but D5.out.op tz (ownNe D5.out.op D5.out.k0 (by decide))), FksO.rd (D5.out.fs.but tz fun g _ hg e => ?_)⟩
            subst e
            have k0 := D5.out.k0
            rcases hg with ⟨cs', fr, hg⟩ | ⟨cs', fr, hg⟩ | ⟨cs', fr, hg⟩ <;> (rw [k0] at hg; cases hg)⟩⟩
          unfold set3 at hwz
          rw [← hwz]
          exact bodyPost_ret (v := .tuple #[.agg #[.int .i64 (c0 : Int), .slice A9 n9 q9, .slice Af n' cf], .bool true]) (results_two rfl _ _ w.heap.size 25 _ (0, 0) _ rfl kz Tryz.underlying25 rfl (by kernel_rfl) rfl) rfl HF.out
        · have hpn : (p == s) = false := beq_eq_false_iff_ne.2 hps
          have HE : Hid (getO s = none) := Lib.hid (getO_no fun r h => by
            have := HEq.out r h
            subst this
            exact hps (HP.out.trans h.2))
          obtain ⟨y0, f0, y1, f1, y2, f2⟩ := Row3.of D5.out.k0
          clear HP HOk HEq
          go_wp2_with (first
            | refine wpList_run (by kernel_rfl) (.string ⟨p.toArray⟩) w5 (y_conv rfl rfl HP1.out) ?_
            | refine wpList_run (by kernel_rfl) (.string ⟨s.toArray⟩) w5 (y_conv rfl rfl HP2.out) ?_)
          obtain ⟨wz, hwz⟩ : ∃ y, y = set3 w5 w.heap.size (.int .i64 0) (.slice none 0 0) (.slice none 0 0) := ⟨_, rfl⟩
          have kz : wz.heap[w.heap.size]? = some (.cells rt0 25 (0, 0)) := by rw [hwz]; exact set3_blk D5.out.k0 _ _ _
          have tz : But (fun k => k = w.heap.size) w5 wz := by rw [hwz]; exact set3_but _ _ _ _ _
          have HF : Hid (GetP s w (.returned (.tuple #[.agg rt0, .bool false])) wz) := Lib.hid ⟨_, false, rfl, D5.out.low.trans (tz.below (B := w.heap.size) (fun k _ h => by omega) D5.out.low.size), .inr ⟨HE.out, rfl, rfl⟩⟩
          unfold set3 at hwz
          rw [← hwz]
          exact bodyPost_ret (v := .tuple #[.agg rt0, .bool false]) (results_two rfl _ _ w.heap.size 25 rt0 (0, 0) _ rfl kz Tryz.underlying25 rfl (by kernel_rfl) rfl) rfl HF.out
      · have HE : Hid (getO s = none) := Lib.hid (getO_no fun r h => by
          have := HEq.out r h
          subst this
          exact hno h.1)
        obtain ⟨y0, f0, y1, f1, y2, f2⟩ := Row3.of D5.out.k0
        skip
        go_wp2_with fail
        obtain ⟨wz, hwz⟩ : ∃ y, y = set3 w5 w.heap.size (.int .i64 0) (.slice none 0 0) (.slice none 0 0) := ⟨_, rfl⟩
        have kz : wz.heap[w.heap.size]? = some (.cells rt0 25 (0, 0)) := by rw [hwz]; exact set3_blk D5.out.k0 _ _ _
        have tz : But (fun k => k = w.heap.size) w5 wz := by rw [hwz]; exact set3_but _ _ _ _ _
        have HF : Hid (GetP s w (.returned (.tuple #[.agg rt0, .bool false])) wz) := Lib.hid ⟨_, false, rfl, D5.out.low.trans (tz.below (B := w.heap.size) (fun k _ h => by omega) D5.out.low.size), .inr ⟨HE.out, rfl, rfl⟩⟩
        unfold set3 at hwz
        rw [← hwz]
        exact bodyPost_ret (v := .tuple #[.agg rt0, .bool false]) (results_two rfl _ _ w.heap.size 25 rt0 (0, 0) _ rfl kz Tryz.underlying25 rfl (by kernel_rfl) rfl) rfl HF.out
    have hkI : (k : Int) < (nf : Int) := by omega
    by_cases hal : (nl : Int) ≤ (a : Int)
    · have HE : Hid (getO s = none) := Lib.hid (getO_no fun r h => by
        obtain ⟨f, _, _, _, h5, _⟩ := (HAt.out r h).next h.1 hlt
        rw [← HLs.out] at h5
        have := HNl.out
        omega)
      obtain ⟨y0, f0, y1, f1, y2, f2⟩ := Row3.of D.out.k0
      skip
      go_wp2_with fail
      obtain ⟨wz, hwz⟩ : ∃ y, y = set3 wo w.heap.size (.int .i64 0) (.slice none 0 0) (.slice none 0 0) := ⟨_, rfl⟩
      have kz : wz.heap[w.heap.size]? = some (.cells rt0 25 (0, 0)) := by rw [hwz]; exact set3_blk D.out.k0 _ _ _
      have tz : But (fun k => k = w.heap.size) wo wz := by rw [hwz]; exact set3_but _ _ _ _ _
      have HF : Hid (GetP s w (.returned (.tuple #[.agg rt0, .bool false])) wz) := Lib.hid ⟨_, false, rfl, D.out.low.trans (tz.below (B := w.heap.size) (fun k _ h => by omega) D.out.low.size), .inr ⟨HE.out, rfl, rfl⟩⟩
      unfold set3 at hwz
      rw [← hwz]
      exact bodyPost_ret (v := .tuple #[.agg rt0, .bool false]) (results_two rfl _ _ w.heap.size 25 rt0 (0, 0) _ rfl kz Tryz.underlying25 rfl (by kernel_rfl) rfl) rfl HF.out
    have han : a < nl := by omega
    obtain ⟨x, hx⟩ : ∃ x, lns[a]? = some x := ⟨_, List.getElem?_eq_getElem (by rw [← HNl.out]; exact han)⟩
    have hxl : x.length ≤ 900000 := HLm.out x (List.mem_of_getElem? hx)
    have dx : wo.cell? ⟨g, o + a, none⟩ = some (.string ⟨x.toArray⟩) := by
      have h := Rf.RdK.at (OwK.rd strC_len D.out.ln) hx (i := 0) (by decide) rfl
      rw [Nat.mul_one, Nat.add_zero] at h
      exact h
    obtain ⟨ws, hws⟩ : ∃ y, y = splitL 32 x := ⟨_, rfl⟩
    have HSx : Hid (Calls Tryz.prog 30 #[.string ⟨x.toArray⟩, .int .u8 32] wo fun e w' => ∃ v, e = .returned v ∧ OwS w' wo.heap.size v ws ∧ Below wo.heap.size wo w') := Lib.hid (by rw [hws]; exact RSplit10 x 32 wo hxl)
    have HWm : Hid (∀ y ∈ ws, y.length ≤ 900000) := Lib.hid fun y hy => by rw [hws] at hy; have := splitL_mem 32 hy; omega
    have HW0 : Hid (0 < ws.length) := Lib.hid (by rw [hws]; exact List.length_pos_iff.2 (splitL_ne _ _))
    have HN : Hid (∀ r, IsRoot s r → ∃ f, FkOk f ∧ ws = [bFork, f.name, bond f.linked, f.head, dd f.refs.length, dd f.packs.length] ∧ a + 1 + f.refs.length + f.packs.length < nl ∧ (lns.drop (a + 1)).take f.refs.length = f.refs.map refL ∧
      (lns.drop (a + 1 + f.refs.length)).take f.packs.length = f.packs ∧ At s c0 pool nf (k + 1) (a + 1 + f.refs.length + f.packs.length) (acc ++ [f]) r) := Lib.hid fun r h => by
      obtain ⟨f, _, h3, h4, h5, h6, h7, h8⟩ := (HAt.out r h).next h.1 hlt
      rw [← HLs.out] at h4 h5 h6 h7
      rw [hx] at h4
      exact ⟨f, h3, by rw [hws, Option.some.inj h4, fk_words h3], by rw [HNl.out]; exact h5, h6, h7, h8⟩
    have HXl := Lib.hid hxl
    clear hx hws HAt hxl
    go_wp2_with fail
    refine HSx.out.mono ?_
    rintro e w5 ⟨wv, rfl, hw5, l5⟩
    have D5 := Lib.hid (D.out.new l5)
    obtain ⟨gw, ow, cw, rfl, hcw, -⟩ := (OwK.rd strC_len hw5).pos HW0.out
    have HWv := Lib.hid (OwK.rd strC_len hw5)
    obtain ⟨wn, hwn⟩ : ∃ y, y = ws.length := ⟨_, rfl⟩
    have HWn := Lib.hid hwn
    rw [← hwn] at HWv ⊢
    clear hw5 l5 HSx D dx hwn hcw HW0
    by_cases h6 : wn = 6
    case neg =>
      have h6I : ((wn : Int) != 6) = true := by simp; omega
      have HE : Hid (getO s = none) := Lib.hid (getO_no fun r h => by
        obtain ⟨f, _, h2, _⟩ := HN.out r h
        have h7 := HWn.out
        rw [h2] at h7
        exact h6 h7)
      obtain ⟨y0, f0, y1, f1, y2, f2⟩ := Row3.of D5.out.k0
      skip
      go_wp2_with fail
      obtain ⟨wz, hwz⟩ : ∃ y, y = set3 w5 w.heap.size (.int .i64 0) (.slice none 0 0) (.slice none 0 0) := ⟨_, rfl⟩
      have kz : wz.heap[w.heap.size]? = some (.cells rt0 25 (0, 0)) := by rw [hwz]; exact set3_blk D5.out.k0 _ _ _
      have tz : But (fun k => k = w.heap.size) w5 wz := by rw [hwz]; exact set3_but _ _ _ _ _
      have HF : Hid (GetP s w (.returned (.tuple #[.agg rt0, .bool false])) wz) := Lib.hid ⟨_, false, rfl, D5.out.low.trans (tz.below (B := w.heap.size) (fun k _ h => by omega) D5.out.low.size), .inr ⟨HE.out, rfl, rfl⟩⟩
      unfold set3 at hwz
      rw [← hwz]
      exact bodyPost_ret (v := .tuple #[.agg rt0, .bool false]) (results_two rfl _ _ w.heap.size 25 rt0 (0, 0) _ rfl kz Tryz.underlying25 rfl (by kernel_rfl) rfl) rfl HF.out
    subst h6
    obtain ⟨y0, y1, y2, y3, y4, y5, hy⟩ := six_ofR HWn.out.symm
    subst hy
    have wc : ∀ (j : Nat) (y : Bs), [y0, y1, y2, y3, y4, y5][j]? = some y → w5.cell? ⟨gw, ow + j, none⟩ = some (.string ⟨y.toArray⟩) := fun j y hy => by
      have h := Rf.RdK.at HWv.out hy (i := 0) (by decide) rfl
      rw [Nat.mul_one, Nat.add_zero] at h
      exact h
    have d4 := wc 4 y4 rfl; have d5 := wc 5 y5 rfl
    have hWlt : gw < w5.heap.size := by obtain ⟨g', o', c', e, _, hg⟩ := HWv.out.pos (by simp); cases e; exact hg
    have wl := fun (j : Nat) (y : Bs) (hy : [y0, y1, y2, y3, y4, y5][j]? = some y) => (show Hid (∀ W, Below w5.heap.size w5 W → W.cell? ⟨gw, ow + j, none⟩ = some (.string ⟨y.toArray⟩)) from Lib.hid fun W h => (h.cell (p := ⟨gw, ow + j, none⟩) hWlt).trans (wc j y hy))
    have WD1 := wl 1 y1 rfl; have WD2 := wl 2 y2 rfl; have WD3 := wl 3 y3 rfl
    obtain ⟨r1, q4, e4, t4, u4⟩ := decV_un (Nu.decL y4)
    obtain ⟨r2, q5, e5, t5, u5⟩ := decV_un (Nu.decL y5)
    have HD4 : Hid (Calls Tryz.prog 32 #[.string ⟨y4.toArray⟩] w5 fun e w' => e = .returned (.tuple #[.int .i64 (r1 : Int), .bool q4]) ∧ w5 = w') := Lib.hid (by rw [← e4]; exact Nu.RDecimal_any y4 (by have := HWm.out y4 (by simp); unfold maxLen; omega) w5)
    have HD5 : Hid (Calls Tryz.prog 32 #[.string ⟨y5.toArray⟩] w5 fun e w' => e = .returned (.tuple #[.int .i64 (r2 : Int), .bool q5]) ∧ w5 = w') := Lib.hid (by rw [← e5]; exact Nu.RDecimal_any y5 (by have := HWm.out y5 (by simp); unfold maxLen; omega) w5)
    have T4 := Lib.hid t4; have U4 := Lib.hid u4; have T5 := Lib.hid t5; have U5 := Lib.hid u5
    have HDec : Hid (∀ r, IsRoot s r → ∃ f : Fk, Nu.decL y4 = some f.refs.length ∧ Nu.decL y5 = some f.packs.length ∧ a + 1 + f.refs.length + f.packs.length < nl) := Lib.hid fun r h => by
      obtain ⟨f, h1, h2, h3, _⟩ := HN.out r h
      injection h2 with _ h2; injection h2 with _ h2; injection h2 with _ h2; injection h2 with _ h2; injection h2 with h4 h2; injection h2 with h5 _
      exact ⟨f, by rw [h4]; unfold dd; exact Nu.decL_dd (by have := h1.refs.len; omega), by rw [h5]; unfold dd; exact Nu.decL_dd (by have := h1.packs.len; omega), h3⟩
    clear e4 t4 u4 e5 t5 u5 wc hWlt wl
    go_wp2_with fail
    refine HD4.out.mono ?_
    rintro e w6 ⟨rfl, rfl⟩
    go_wp2_with fail
    refine HD5.out.mono ?_
    rintro e w6 ⟨rfl, rfl⟩
    clear HD4 HD5 d4 d5
    cases q4 with
    | false =>
      have HE : Hid (getO s = none) := Lib.hid (getO_no fun r h => by obtain ⟨f, h1, _⟩ := HDec.out r h; rw [U4.out rfl] at h1; cases h1)
      obtain ⟨y0, f0, y1, f1, y2, f2⟩ := Row3.of D5.out.k0
      skip
      go_wp2_with fail
      obtain ⟨wz, hwz⟩ : ∃ y, y = set3 w5 w.heap.size (.int .i64 0) (.slice none 0 0) (.slice none 0 0) := ⟨_, rfl⟩
      have kz : wz.heap[w.heap.size]? = some (.cells rt0 25 (0, 0)) := by rw [hwz]; exact set3_blk D5.out.k0 _ _ _
      have tz : But (fun k => k = w.heap.size) w5 wz := by rw [hwz]; exact set3_but _ _ _ _ _
      have HF : Hid (GetP s w (.returned (.tuple #[.agg rt0, .bool false])) wz) := Lib.hid ⟨_, false, rfl, D5.out.low.trans (tz.below (B := w.heap.size) (fun k _ h => by omega) D5.out.low.size), .inr ⟨HE.out, rfl, rfl⟩⟩
      unfold set3 at hwz
      rw [← hwz]
      exact bodyPost_ret (v := .tuple #[.agg rt0, .bool false]) (results_two rfl _ _ w.heap.size 25 rt0 (0, 0) _ rfl kz Tryz.underlying25 rfl (by kernel_rfl) rfl) rfl HF.out
    | true =>
    cases q5 with
    | false =>
      have HE : Hid (getO s = none) := Lib.hid (getO_no fun r h => by obtain ⟨f, _, h1, _⟩ := HDec.out r h; rw [U5.out rfl] at h1; cases h1)
      obtain ⟨y0, f0, y1, f1, y2, f2⟩ := Row3.of D5.out.k0
      skip
      go_wp2_with fail
      obtain ⟨wz, hwz⟩ : ∃ y, y = set3 w5 w.heap.size (.int .i64 0) (.slice none 0 0) (.slice none 0 0) := ⟨_, rfl⟩
      have kz : wz.heap[w.heap.size]? = some (.cells rt0 25 (0, 0)) := by rw [hwz]; exact set3_blk D5.out.k0 _ _ _
      have tz : But (fun k => k = w.heap.size) w5 wz := by rw [hwz]; exact set3_but _ _ _ _ _
      have HF : Hid (GetP s w (.returned (.tuple #[.agg rt0, .bool false])) wz) := Lib.hid ⟨_, false, rfl, D5.out.low.trans (tz.below (B := w.heap.size) (fun k _ h => by omega) D5.out.low.size), .inr ⟨HE.out, rfl, rfl⟩⟩
      unfold set3 at hwz
      rw [← hwz]
      exact bodyPost_ret (v := .tuple #[.agg rt0, .bool false]) (results_two rfl _ _ w.heap.size 25 rt0 (0, 0) _ rfl kz Tryz.underlying25 rfl (by kernel_rfl) rfl) rfl HF.out
    | true =>
    have HR1 : Hid (Nu.decL y4 = some r1) := Lib.hid (T4.out rfl)
    have HR2 : Hid (Nu.decL y5 = some r2) := Lib.hid (T5.out rfl)
    clear T4 U4 T5 U5
    have HSum : Hid (∀ r, IsRoot s r → a + 1 + r1 + r2 < nl) := Lib.hid fun r h => by
      obtain ⟨f, h1, h2, h3⟩ := HDec.out r h
      rw [HR1.out] at h1
      rw [HR2.out] at h2
      rw [Option.some.inj h1, Option.some.inj h2]; exact h3
    have hr1b : r1 ≤ 1099511627776 := (Nu.decL_some HR1.out).1
    have hr2b : r2 ≤ 1099511627776 := (Nu.decL_some HR2.out).1
    clear HDec
    by_cases hg1 : (nl : Int) - ((a : Int) + 1) < (r1 : Int)
    · have HE : Hid (getO s = none) := Lib.hid (getO_no fun r h => by have := HSum.out r h; omega)
      obtain ⟨y0, f0, y1, f1, y2, f2⟩ := Row3.of D5.out.k0
      skip
      go_wp2_with fail
      obtain ⟨wz, hwz⟩ : ∃ y, y = set3 w5 w.heap.size (.int .i64 0) (.slice none 0 0) (.slice none 0 0) := ⟨_, rfl⟩
      have kz : wz.heap[w.heap.size]? = some (.cells rt0 25 (0, 0)) := by rw [hwz]; exact set3_blk D5.out.k0 _ _ _
      have tz : But (fun k => k = w.heap.size) w5 wz := by rw [hwz]; exact set3_but _ _ _ _ _
      have HF : Hid (GetP s w (.returned (.tuple #[.agg rt0, .bool false])) wz) := Lib.hid ⟨_, false, rfl, D5.out.low.trans (tz.below (B := w.heap.size) (fun k _ h => by omega) D5.out.low.size), .inr ⟨HE.out, rfl, rfl⟩⟩
      unfold set3 at hwz
      rw [← hwz]
      exact bodyPost_ret (v := .tuple #[.agg rt0, .bool false]) (results_two rfl _ _ w.heap.size 25 rt0 (0, 0) _ rfl kz Tryz.underlying25 rfl (by kernel_rfl) rfl) rfl HF.out
    by_cases hg2 : (nl : Int) - ((a : Int) + 1) - (r1 : Int) < (r2 : Int)
    · have HE : Hid (getO s = none) := Lib.hid (getO_no fun r h => by have := HSum.out r h; omega)
      obtain ⟨y0, f0, y1, f1, y2, f2⟩ := Row3.of D5.out.k0
      skip
      go_wp2_with fail
      obtain ⟨wz, hwz⟩ : ∃ y, y = set3 w5 w.heap.size (.int .i64 0) (.slice none 0 0) (.slice none 0 0) := ⟨_, rfl⟩
      have kz : wz.heap[w.heap.size]? = some (.cells rt0 25 (0, 0)) := by rw [hwz]; exact set3_blk D5.out.k0 _ _ _
      have tz : But (fun k => k = w.heap.size) w5 wz := by rw [hwz]; exact set3_but _ _ _ _ _
      have HF : Hid (GetP s w (.returned (.tuple #[.agg rt0, .bool false])) wz) := Lib.hid ⟨_, false, rfl, D5.out.low.trans (tz.below (B := w.heap.size) (fun k _ h => by omega) D5.out.low.size), .inr ⟨HE.out, rfl, rfl⟩⟩
      unfold set3 at hwz
      rw [← hwz]
      exact bodyPost_ret (v := .tuple #[.agg rt0, .bool false]) (results_two rfl _ _ w.heap.size 25 rt0 (0, 0) _ rfl kz Tryz.underlying25 rfl (by kernel_rfl) rfl) rfl HF.out
    have hsum : a + 1 + r1 + r2 ≤ nl := by omega
    clear HSum
    obtain ⟨As, cs, hsl, hsr⟩ := strs_sub (OwK.rd strC_len D5.out.ln) HNl.out hcl (a := a + 1) (b := a + 1 + r1) (by omega) (by omega) (by omega)
    rw [Nat.add_sub_cancel_left] at hsr
    have HSl : Hid (∀ W, (Instr.sliceAt 22 (.slice (some ⟨g, o, none⟩) nl cl) (some (.int .i64 ((a : Int) + 1))) (some (.int .i64 ((a : Int) + 1 + (r1 : Int)))) none).run Tryz.prog W = .ok (.slice As r1 cs) W) := Lib.hid fun W => by have := hsl W; rw [Nat.add_sub_cancel_left] at this; exact this
    obtain ⟨pt1, hpt1⟩ : ∃ y, y = (lns.drop (a + 1)).take r1 := ⟨_, rfl⟩
    rw [← hpt1] at hsr
    obtain ⟨tx, htx⟩ : ∃ y, y = packsL pt1 := ⟨_, rfl⟩
    have htl : tx.length ≤ 900000 := by rw [htx, hpt1]; have h1 := packs_sub (l := lns) (a := a + 1) (n := r1) (by omega) (by rw [← HNl.out]; exact hnl0); have := HPk.out; omega
    have HRw : Hid (Calls Tryz.prog 27 #[.slice As r1 cs] w5 fun e w' => e = .returned (.string ⟨tx.toArray⟩) ∧ Below w5.heap.size w5 w') := Lib.hid (by rw [htx]; exact Rrows10 pt1 _ w5 hsr (by rw [hpt1, List.length_take]; omega) (by rw [← htx]; exact htl))
    have HGt : Hid (∀ W, Calls Tryz.prog 33 #[.string ⟨tx.toArray⟩] W (Rf.GetP tx W)) := Lib.hid fun W => Rf.RGet_any tx W htl
    have HPt1 := Lib.hid hpt1; have HTx := Lib.hid htx
    have HRef : Hid (∀ r, IsRoot s r → ∃ f : Fk, FkOk f ∧ f.refs.length = r1 ∧ f.packs.length = r2 ∧ Rf.IsGet tx f.refs) := Lib.hid fun r h => by
      obtain ⟨f, h1, h2, h3, h4, h5, _⟩ := HN.out r h
      injection h2 with _ h2; injection h2 with _ h2; injection h2 with _ h2; injection h2 with _ h2; injection h2 with h7 h2; injection h2 with h8 _
      have e1 : r1 = f.refs.length := by have := HR1.out; rw [h7] at this; unfold dd at this; rw [Nu.decL_dd (by have := h1.refs.len; omega)] at this; exact (Option.some.inj this).symm
      have e2 : r2 = f.packs.length := by have := HR2.out; rw [h8] at this; unfold dd at this; rw [Nu.decL_dd (by have := h1.packs.len; omega)] at this; exact (Option.some.inj this).symm
      exact ⟨f, h1, e1.symm, e2.symm, h1.refs, by rw [HTx.out, HPt1.out, e1, h4, lines_rows]⟩
    clear hsl hsr hpt1 htx htl
    go_wp2_with (refine wpList_run (by kernel_rfl) (.slice As r1 cs) w5 (y_slice (xv := .slice (some ⟨g, o, none⟩) nl cl) (lv := some (.int .i64 ((a : Int) + 1))) (hv := some (.int .i64 ((a : Int) + 1 + (r1 : Int)))) (mv := none) rfl (by kernel_rfl) (by kernel_rfl) (by kernel_rfl) rfl (HSl.out w5)) ?_)
    refine HRw.out.mono ?_
    rintro e w6 ⟨rfl, l6⟩
    go_wp2_with fail
    refine (HGt.out w6).mono ?_
    rintro e w7 ⟨hq, l7⟩
    have D7 := Lib.hid ((D5.out.new l6).new l7)
    have l57 : Below w5.heap.size w5 w7 := l6.trans (l7.mono l6.size)
    have WC1 := Lib.hid (fun W (h : Below w7.heap.size w7 W) => WD1.out W (l57.trans (h.mono l57.size)))
    have WC2 := Lib.hid (fun W (h : Below w7.heap.size w7 W) => WD2.out W (l57.trans (h.mono l57.size)))
    have WC3 := Lib.hid (fun W (h : Below w7.heap.size w7 W) => WD3.out W (l57.trans (h.mono l57.size)))
    have hw6 : w.heap.size ≤ w6.heap.size := (D5.out.new l6).low.size
    clear HRw HGt HSl WD1 WD2 WD3 l57 l6 l7 D5 HWv
    rcases hq with ⟨v, rs, rfl, ho, hgt⟩ | ⟨rfl, hno⟩
    case inr =>
      have HE : Hid (getO s = none) := Lib.hid (getO_no fun r h => by obtain ⟨f, _, _, _, h4⟩ := HRef.out r h; exact hno _ h4)
      clear hno
      obtain ⟨y0, f0, y1, f1, y2, f2⟩ := Row3.of D7.out.k0
      skip
      go_wp2_with fail
      obtain ⟨wz, hwz⟩ : ∃ y, y = set3 w7 w.heap.size (.int .i64 0) (.slice none 0 0) (.slice none 0 0) := ⟨_, rfl⟩
      have kz : wz.heap[w.heap.size]? = some (.cells rt0 25 (0, 0)) := by rw [hwz]; exact set3_blk D7.out.k0 _ _ _
      have tz : But (fun k => k = w.heap.size) w7 wz := by rw [hwz]; exact set3_but _ _ _ _ _
      have HF : Hid (GetP s w (.returned (.tuple #[.agg rt0, .bool false])) wz) := Lib.hid ⟨_, false, rfl, D7.out.low.trans (tz.below (B := w.heap.size) (fun k _ h => by omega) D7.out.low.size), .inr ⟨HE.out, rfl, rfl⟩⟩
      unfold set3 at hwz
      rw [← hwz]
      exact bodyPost_ret (v := .tuple #[.agg rt0, .bool false]) (results_two rfl _ _ w.heap.size 25 rt0 (0, 0) _ rfl kz Tryz.underlying25 rfl (by kernel_rfl) rfl) rfl HF.out
    obtain ⟨Ar, nr, cr, rfl, -⟩ := Rf.OwK.shape ho
    have HOr : Hid (OwR w7 w.heap.size (.slice Ar nr cr) rs) := Lib.hid (ho.mono hw6)
    have HGet := Lib.hid hgt
    clear ho hgt hw6
    obtain ⟨lk, hlk⟩ : ∃ b, decide (y2 = [108, 105, 110, 107, 101, 100]) = b := ⟨_, rfl⟩
    have HLk := Lib.hid hlk
    clear hlk
    obtain ⟨wd, hwd⟩ : ∃ y, y = w7.drew := ⟨_, rfl⟩
    have l8 : Below w7.heap.size w7 wd := by rw [hwd]; exact (Below.refl _ _).drew
    obtain ⟨hst, hF⟩ := (show DSt w wd w.heap.size (w.heap.size + 1) c0 A9 n9 q9 pool Af n' cf acc (.slice (some ⟨g, o, none⟩) nl cl) lns by rw [hwd]; exact D7.out.new (Below.refl _ _).drew).fork (nm := y1) (hd := y3) (lk := lk) (show OwR wd w.heap.size (.slice Ar nr cr) rs by rw [hwd]; exact row_but HOr.out (But.of_new (Below.refl _ _).drew) (fun _ _ h => h))
    obtain ⟨wt, hwt⟩ : ∃ y, y = (wd.alloc (.cells fk0 42)).setRow wd.heap.size (fsC ⟨y1, lk, y3, Ar, nr, cr, none, 0, 0⟩).toArray := ⟨_, rfl⟩
    have l9 : Below w7.heap.size w7 (wd.alloc (.cells fk0 42)) := l8.trans ((below_new wd _).mono l8.size)
    have HBt : Hid (Below w7.heap.size w7 wt) := Lib.hid (by rw [hwt]; exact l9.trans ((but_row _ _ _).below (B := w7.heap.size) (fun k _ e => by rw [e]; exact l8.size) l9.size))
    rw [← hwt] at hst hF
    have HStt := Lib.hid hst; have F1 := Lib.hid hF; have LD := Lib.hid l8
    clear hst hF l8 l9 hwt
    go_upto_region 30 with fail
    refine AnyK.start w7.heap.size w7 (by kernel_rfl) ?_
    rw [← hwd]
    refine AnyK.take 0 (.slice (some ⟨gw, ow, none⟩) 6 cw) LD.out rfl (by kernel_rfl) (by kernel_rfl) (by kernel_rfl) (fun _ _ _ h => h) (by kernel_rfl) (fun W hW => by kernel_rfl) ?_
    refine AnyK.take 1 (.pointer (some ⟨gw, ow + 1, none⟩)) LD.out rfl (by kernel_rfl) (by kernel_rfl) (by kernel_rfl) (fun _ _ _ h => h) (by kernel_rfl) (fun W hW => y_index (sv := .slice (some ⟨gw, ow, none⟩) 6 cw) (iv := .int .i64 1) rfl (by kernel_rfl) (by kernel_rfl) (at_sR W gw ow 6 cw 1 (by decide))) ?_
    refine AnyK.take 2 (.string ⟨y1.toArray⟩) LD.out rfl (by kernel_rfl) (by kernel_rfl) (by kernel_rfl) (fun _ _ _ h => h) (by kernel_rfl) (fun W hW => y_load (sv := .pointer (some ⟨gw, ow + 1, none⟩)) rfl (by kernel_rfl) (ld_sR W gw (ow + 1) y1 (WC1.out W hW))) ?_
    refine AnyK.take 3 (.slice (some ⟨gw, ow, none⟩) 6 cw) LD.out rfl (by kernel_rfl) (by kernel_rfl) (by kernel_rfl) (fun _ _ _ h => h) (by kernel_rfl) (fun W hW => by kernel_rfl) ?_
    refine AnyK.take 4 (.pointer (some ⟨gw, ow + 2, none⟩)) LD.out rfl (by kernel_rfl) (by kernel_rfl) (by kernel_rfl) (fun _ _ _ h => h) (by kernel_rfl) (fun W hW => y_index (sv := .slice (some ⟨gw, ow, none⟩) 6 cw) (iv := .int .i64 2) rfl (by kernel_rfl) (by kernel_rfl) (at_sR W gw ow 6 cw 2 (by decide))) ?_
    refine AnyK.take 5 (.string ⟨y2.toArray⟩) LD.out rfl (by kernel_rfl) (by kernel_rfl) (by kernel_rfl) (fun _ _ _ h => h) (by kernel_rfl) (fun W hW => y_load (sv := .pointer (some ⟨gw, ow + 2, none⟩)) rfl (by kernel_rfl) (ld_sR W gw (ow + 2) y2 (WC2.out W hW))) ?_
    refine AnyK.take 6 (.bool lk) LD.out rfl (by kernel_rfl) (by kernel_rfl) (by kernel_rfl) (fun _ _ _ h => h) (by kernel_rfl) (fun W hW => y_bin (x := .string ⟨y2.toArray⟩) (y := .string ⟨#[108, 105, 110, 107, 101, 100]⟩) rfl (by kernel_rfl) (by kernel_rfl) rfl (eq_sR W y2 [108, 105, 110, 107, 101, 100] lk HLk.out)) ?_
    refine AnyK.take 7 (.slice (some ⟨gw, ow, none⟩) 6 cw) LD.out rfl (by kernel_rfl) (by kernel_rfl) (by kernel_rfl) (fun _ _ _ h => h) (by kernel_rfl) (fun W hW => by kernel_rfl) ?_
    refine AnyK.take 8 (.pointer (some ⟨gw, ow + 3, none⟩)) LD.out rfl (by kernel_rfl) (by kernel_rfl) (by kernel_rfl) (fun _ _ _ h => h) (by kernel_rfl) (fun W hW => y_index (sv := .slice (some ⟨gw, ow, none⟩) 6 cw) (iv := .int .i64 3) rfl (by kernel_rfl) (by kernel_rfl) (at_sR W gw ow 6 cw 3 (by decide))) ?_
    refine AnyK.take 9 (.string ⟨y3.toArray⟩) LD.out rfl (by kernel_rfl) (by kernel_rfl) (by kernel_rfl) (fun _ _ _ h => h) (by kernel_rfl) (fun W hW => y_load (sv := .pointer (some ⟨gw, ow + 3, none⟩)) rfl (by kernel_rfl) (ld_sR W gw (ow + 3) y3 (WC3.out W hW))) ?_
    refine AnyK.take 10 (.slice Ar nr cr) LD.out rfl (by kernel_rfl) (by kernel_rfl) (by kernel_rfl) (fun _ _ _ h => h) (by kernel_rfl) (fun W hW => by kernel_rfl) ?_
    refine AnyK.take 11 (.agg #[.string ⟨y1.toArray⟩, .bool lk, .string ⟨y3.toArray⟩, .slice Ar nr cr, .slice none 0 0]) LD.out rfl (by kernel_rfl) (by kernel_rfl) (by kernel_rfl) (fun _ _ _ h => h) (by kernel_rfl) (fun W hW => Rf.y_bld (ps := #[(0, .string ⟨y1.toArray⟩), (1, .bool lk), (2, .string ⟨y3.toArray⟩), (3, .slice Ar nr cr)]) rfl (by kernel_rfl) (bld_fk W y1 y3 lk Ar nr cr)) ?_
    refine AnyK.op 12 (.pointer (some ⟨wd.heap.size, 0, none⟩)) (wd.alloc (.cells fk0 42)) (by kernel_rfl) rfl (by kernel_rfl) (y_allocR rfl (alloc_fk wd)) (LD.out.trans ((below_new wd _).mono LD.out.size)) ?_
    refine held_one (i := 13) (by kernel_rfl) (held_store wt rfl (by kernel_rfl) (y_store (sv := .pointer (some ⟨wd.heap.size, 0, none⟩)) (xv := .agg #[.string ⟨y1.toArray⟩, .bool lk, .string ⟨y3.toArray⟩, .slice Ar nr cr, .slice none 0 0]) rfl (by kernel_rfl) (by kernel_rfl) HStt.out) HBt.out ?_)
    refine AnyK.done _ (by kernel_rfl) ?_
    go_simp
    have hwds : wd.heap.size = w7.heap.size := by rw [hwd]; rfl
    rw [hwds] at F1
    clear LD HStt HBt WC1 WC2 WC3 HOr hwd D7 hwds
    obtain ⟨bt, hbt⟩ : ∃ y, y = w7.heap.size := ⟨_, rfl⟩
    rw [← hbt] at F1 ⊢
    clear hbt
    go_upto_region 32 with fail
    obtain ⟨we, hwe⟩ : ∃ y, y = wt.drew := ⟨_, rfl⟩
    have Fe : Hid (FSt w we w.heap.size (w.heap.size + 1) c0 A9 n9 q9 pool Af n' cf acc (.slice (some ⟨g, o, none⟩) nl cl) lns bt ⟨y1, lk, y3, Ar, nr, cr, none, 0, 0⟩ ⟨y1, lk, y3, rs, []⟩) := Lib.hid (by rw [hwe]; exact F1.out.new (Below.refl _ _).drew)
    obtain ⟨Bs2, cs2, hsl3, hsr3⟩ := strs_sub (OwK.rd strC_len Fe.out.d.ln) HNl.out hcl (a := a + 1 + r1) (b := a + 1 + r1 + r2) (by omega) (by omega) (by omega)
    rw [Nat.add_sub_cancel_left] at hsr3
    have HSl3 : Hid (∀ W, (Instr.sliceAt 22 (.slice (some ⟨g, o, none⟩) nl cl) (some (.int .i64 ((a : Int) + 1 + (r1 : Int)))) (some (.int .i64 ((a : Int) + 1 + (r1 : Int) + (r2 : Int)))) none).run Tryz.prog W = .ok (.slice Bs2 r2 cs2) W) := Lib.hid fun W => by have := hsl3 W; rw [Nat.add_sub_cancel_left] at this; exact this
    obtain ⟨pt2, hpt2⟩ : ∃ y, y = (lns.drop (a + 1 + r1)).take r2 := ⟨_, rfl⟩
    rw [← hpt2] at hsr3
    obtain ⟨A10, n10, q10, w10, hr10, hc10, hs10, hf10⟩ := Fe.out.fill rfl hsr3 (by rw [hpt2, List.length_take]; omega)
    have R10 := Lib.hid hr10; have C10 := Lib.hid hc10; have S10 := Lib.hid hs10; have F10 := Lib.hid hf10; have HPt2 := Lib.hid hpt2
    clear hsl3 hsr3 hr10 hc10 hs10 hf10 hpt2 F1
    refine held_start (fun _ => True) (by kernel_rfl) ?_
    rw [← hwe]
    refine held_take 0 (.pointer (some ⟨bt, 4, none⟩)) rfl (by kernel_rfl) (by kernel_rfl) (by kernel_rfl) (fun _ _ _ h => h) (by kernel_rfl) (fun W hW => y_field (sv := .pointer (some ⟨bt, 0, none⟩)) rfl (by kernel_rfl) (f_f4z W _)) trivial ?_
    refine held_take 2 (.slice (some ⟨g, o, none⟩) nl cl) rfl (by kernel_rfl) (by kernel_rfl) (by kernel_rfl) (fun _ _ _ h => h) (by kernel_rfl) (fun W hW => by kernel_rfl) trivial ?_
    refine held_take 3 (.int .i64 ((a : Int) + 1 + (r1 : Int))) rfl (by kernel_rfl) (by kernel_rfl) (by kernel_rfl) (fun _ _ _ h => h) (by kernel_rfl) (fun W hW => by kernel_rfl) trivial ?_
    refine held_take 4 (.int .i64 ((a : Int) + 1 + (r1 : Int))) rfl (by kernel_rfl) (by kernel_rfl) (by kernel_rfl) (fun _ _ _ h => h) (by kernel_rfl) (fun W hW => by kernel_rfl) trivial ?_
    refine held_take 5 (.int .i64 (r2 : Int)) rfl (by kernel_rfl) (by kernel_rfl) (by kernel_rfl) (fun _ _ _ h => h) (by kernel_rfl) (fun W hW => by kernel_rfl) trivial ?_
    refine held_take 6 (.int .i64 ((a : Int) + 1 + (r1 : Int) + (r2 : Int))) rfl (by kernel_rfl) (by kernel_rfl) (by kernel_rfl) (fun _ _ _ h => h) (by kernel_rfl) (fun W hW => y_bin (x := .int .i64 ((a : Int) + 1 + (r1 : Int))) (y := .int .i64 (r2 : Int)) rfl (by kernel_rfl) (by kernel_rfl) rfl (addI W _ _ (by omega))) trivial ?_
    refine held_take 7 (.slice Bs2 r2 cs2) rfl (by kernel_rfl) (by kernel_rfl) (by kernel_rfl) (fun _ _ _ h => h) (by kernel_rfl) (fun W hW => y_slice (xv := .slice (some ⟨g, o, none⟩) nl cl) (lv := some (.int .i64 ((a : Int) + 1 + (r1 : Int)))) (hv := some (.int .i64 ((a : Int) + 1 + (r1 : Int) + (r2 : Int)))) (mv := none) rfl (by kernel_rfl) (by kernel_rfl) (by kernel_rfl) rfl (HSl3.out W)) trivial ?_
    refine held_one (i := 1) (by kernel_rfl) ?_
    refine held_op (.slice none 0 0) we rfl (by kernel_rfl) (y_load (sv := .pointer (some ⟨bt, 4, none⟩)) rfl (by kernel_rfl) (l_Sl we _ 4 none 0 0 C10.out)) trivial ?_
    refine held_one (i := 8) (by kernel_rfl) ?_
    refine held_op (.slice A10 n10 q10) w10 rfl (by kernel_rfl) (y_append rfl (by kernel_rfl) (by kernel_rfl) (R10.out _)) trivial ?_
    refine held_take 9 (.pointer (some ⟨bt, 4, none⟩)) rfl (by kernel_rfl) (by kernel_rfl) (by kernel_rfl) (fun _ _ _ h => h) (by kernel_rfl) (fun W hW => y_field (sv := .pointer (some ⟨bt, 0, none⟩)) rfl (by kernel_rfl) (f_f4z W _)) trivial ?_
    refine held_one (i := 10) (by kernel_rfl) ?_
    refine held_store (w10.setCell ⟨bt, 4, none⟩ (.slice A10 n10 q10)) rfl (by kernel_rfl) (y_store (sv := .pointer (some ⟨bt, 4, none⟩)) (xv := .slice A10 n10 q10) rfl (by kernel_rfl) (by kernel_rfl) S10.out) trivial ?_
    refine held_done _ (by kernel_rfl) ?_
    go_simp
    generalize w10.setCell ⟨bt, 4, none⟩ (.slice A10 n10 q10) = wf at F10 ⊢
    clear R10 C10 S10 HSl3 Fe hwe
    obtain ⟨w8, A11, n11, q11, w11, hw8, hc2, hb8, hr11, hs11, ⟨c11, f11, c8⟩, hd11⟩ := F10.out.push (by rw [HAc.out]; omega) H01.out (by omega)
    have e0 : wf.cell? ⟨bt, 0, none⟩ = some (.string ⟨y1.toArray⟩) := (cell_of_row wf bt 0 _ _ _ F10.out.kt).trans rfl
    have e1 : wf.cell? ⟨bt, 1, none⟩ = some (.bool lk) := (cell_of_row wf bt 1 _ _ _ F10.out.kt).trans rfl
    have e2 : wf.cell? ⟨bt, 2, none⟩ = some (.string ⟨y3.toArray⟩) := (cell_of_row wf bt 2 _ _ _ F10.out.kt).trans rfl
    have e3 : wf.cell? ⟨bt, 3, none⟩ = some (.slice Ar nr cr) := (cell_of_row wf bt 3 _ _ _ F10.out.kt).trans rfl
    have e4 : wf.cell? ⟨bt, 4, none⟩ = some (.slice A10 n10 q10) := (cell_of_row wf bt 4 _ _ _ F10.out.kt).trans rfl
    have HW8 : Hid (w8 = wf.alloc (.cells #[.string ⟨y1.toArray⟩, .bool lk, .string ⟨y3.toArray⟩, .slice Ar nr cr, .slice A10 n10 q10] 42)) := Lib.hid hw8
    have R11 := Lib.hid hr11
    have HAt2 : Hid (∀ r, IsRoot s r → At s c0 pool nf (k + 1) (a + 1 + r1 + r2) (acc ++ [{ (⟨y1, lk, y3, rs, []⟩ : Fk) with packs := pt2 }]) r) := Lib.hid fun r h => by
      obtain ⟨f, h1, h2, h3, h4, h5, h6⟩ := HN.out r h
      injection h2 with k0 h2; injection h2 with k1 h2; injection h2 with k2 h2; injection h2 with k3 h2; injection h2 with k4 h2; injection h2 with k5 _
      have e1 : r1 = f.refs.length := by have := HR1.out; rw [k4] at this; unfold dd at this; rw [Nu.decL_dd (by have := h1.refs.len; omega)] at this; exact (Option.some.inj this).symm
      have e2 : r2 = f.packs.length := by have := HR2.out; rw [k5] at this; unfold dd at this; rw [Nu.decL_dd (by have := h1.packs.len; omega)] at this; exact (Option.some.inj this).symm
      have e3 : rs = f.refs := Rf.IsGet.unique HGet.out ⟨h1.refs, by rw [HTx.out, HPt1.out, e1, h4, lines_rows]⟩
      have e4 : pt2 = f.packs := by rw [HPt2.out, e1, e2]; exact h5
      have e5 : lk = f.linked := by rw [← HLk.out, k2]; cases f.linked <;> rfl
      rw [e1, e2, show ({ (⟨y1, lk, y3, rs, []⟩ : Fk) with packs := pt2 }) = f by rw [e3, e4, e5, k1, k3]]
      exact h6
    have HFt2 : Hid (∀ f ∈ acc ++ [{ (⟨y1, lk, y3, rs, []⟩ : Fk) with packs := pt2 }], FitF f) := Lib.hid fun f hf => by
      rcases List.mem_append.1 hf with hf | hf
      · exact HFt.out f hf
      · rw [List.mem_singleton.1 hf]
        have hok := HGet.out.1
        refine ⟨?_, ?_, fun x hx => ?_, ?_, fun x hx => ?_, ?_⟩
        · have := HWm.out y1 (by simp); show y1.length ≤ _; unfold maxLen; omega
        · have := HWm.out y3 (by simp); show y3.length ≤ _; unfold maxLen; omega
        · have h1 := Rf.nameB_len (hok.name x hx); have h2 := Rf.named_len64 (hok.id x hx)
          unfold maxLen; omega
        · have := hok.len; show rs.length ≤ _; omega
        · have := HLm.out x (by have hx : x ∈ pt2 := hx; rw [HPt2.out] at hx; exact List.mem_of_mem_drop (List.mem_of_mem_take hx)); unfold maxLen; omega
        · show pt2.length ≤ _; rw [HPt2.out, List.length_take]; omega
    have HAc2 : Hid ((acc ++ [{ (⟨y1, lk, y3, rs, []⟩ : Fk) with packs := pt2 }]).length = k + 1) := Lib.hid (by rw [List.length_append, HAc.out]; rfl)
    have D11 := Lib.hid hd11
    clear hw8 hb8 hr11 hs11 hd11 HN HGet HLk HRef HPt1 HPt2 HTx HR1 HR2 HWm HWn HFt HAc F10
    go_wp2_with (
      rw [← HW8.out]
      refine wpList_appR (o := ⟨some 184, _, _, _, _, _⟩) rfl _ _ rfl (.slice Af n' cf) _ (.slice A11 n11 q11) w11 rfl rfl R11.out ?_)
    go_roundw
    case rel => exact ⟨k + 1, a + 1 + r1 + r2, _, A11, n11, q11, by omega, by omega, by omega, by go_num, by go_num, D11, HAt2, HAc2, HFt2⟩
    case measure => simp [intOf]; omega
end Go.Proofs.YtnboagmibhllpaaGreatDoor.Ro
