/-
  What Write, Rename and Remove do, if there is power: their closures.
  errors.Is at a shelf's error, and the error of a power that is gone.
  do: an act is done, if there is power for it.
  Write, Rename: the acts of a shelf.
-/
import Derived.Test.YtbibogpeagnjoaaGreatDoorC03
import Derived.Test.YtbibogpeagnjoaaGreatDoorC02

namespace Go.Proofs.YtbibogpeagnjoaaGreatDoor
open Go Go.RowKit Go.Maps

/-- What a closure that tries an act comes to: er tells the error, 0 none; then the shelf is st'. -/
def TryPost (base s f y : Nat) (st : St) (er : Int) (st' : St) (w : World) (e : Ending) (w' : World) : Prop :=
  ∃ ev lv, e = .returned ev ∧ K base w w' ∧ ((er = 0 ∧ ev = .nilIface ∧ Ok w' base s f y lv st') ∨ (er ≠ 0 ∧ FaultIn w' ev er ∧ Ok w' base s f y lv st))

theorem RowIn.mono {w : World} {base b' : Nat} {v : Value} {b : By} (h : RowIn w base v b) (hb : b' ≤ base) : RowIn w b' v b := by
  obtain ⟨h1, h2⟩ := h
  refine ⟨h1, ?_⟩
  rcases h2 with h2 | ⟨g, cap, cur, e, hg, r⟩
  · exact .inl h2
  · exact .inr ⟨g, cap, cur, e, Nat.le_trans hb hg, r⟩

theorem below_undrew {w w' : World} (h : Below w.drew.heap.size w.drew w') : Below w.heap.size w w' := ⟨h.os, h.tape, h.output, h.size, h.block⟩
theorem cell_below {w w' : World} (h : Below w.heap.size w w') {a : Addr} {v : Value} (hc : w.cell? a = some v) : w'.cell? a = some v := (h.cell (World.block_lt_of_cell? w a hc)).trans hc
theorem cell_keep {w w' : World} {base : Nat} (k : K base w w') {b : Nat} {v : Value} {t : TypeId} (hb : w.heap[b]? = some (.cells #[v] t (0, 0))) (ht : mutT t = false) : w'.cell? ⟨b, 0, none⟩ = some v := cell_of_one (k.const _ _ _ _ hb ht)

theorem fits_write {p b : By} (h : p.length ≤ maxLen) : (Act.write p b).fits := h

set_option maxHeartbeats 4000000 in
set_option maxRecDepth 100000 in
theorem tryWrite {w : World} {base s f y : Nat} {lv : Value} {st : St} (h : Ok w base s f y lv st) {p b : By} {bs bp bb v : Value} (hp : p.length ≤ maxLen) (hb : b.length ≤ maxLen)
    (hbs : BoxIn w base 27 bs (.pointer (some ⟨s, 0, none⟩))) (hbp : BoxIn w base 9 bp (S p)) (hbb : BoxIn w base 31 bb v) (hv : BytesAt w v b)
    (hsz : tsize st.files ≤ 4611686018427387904) (hl : st.files.length < maxLen) (hk : (st.loose.length + 1) * 24 ≤ 140737488355328) :
    Calls Tryz.prog 39 #[bs, bp, bb] w (TryPost base s f y st (writeErr p b.length st) { st with files := tput p b st.files, loose := st.loose ++ [(dirOf p, .write p b)] } w) := by
  have hm := mayWrite_any h p b.length hp hb hsz
  obtain ⟨gs, rfl, _, hgs⟩ := hbs
  obtain ⟨gp, rfl, _, hgp⟩ := hbp
  obtain ⟨gb, rfl, _, hgb⟩ := hbb
  have cs := cell_of_one hgs; have cp := cell_of_one hgp; have cb := cell_of_one hgb
  have hvn : ∃ a c, v = .slice a b.length c := by
    rcases hv with ⟨rfl, rfl⟩ | ⟨a, c, rfl, _⟩
    · exact ⟨none, 0, rfl⟩
    · exact ⟨_, _, rfl⟩
  obtain ⟨a, c, rfl⟩ := hvn
  unfold S at cp hm
  have Hm := Lib.hid hm; have Hk := Lib.hid h; have Hv := Lib.hid hv
  clear hm h hv
  have e0 := (show (0 : Int) ≤ (b.length : Int) from by omega)
  go_enter Tryz.func39, Tryz.ntmps39
  go_wp2_with fail
  refine Hm.out.mono ?_
  rintro e w1 ⟨hB, ⟨h0, rfl⟩ | ⟨h0, ev, rfl, hf⟩⟩
  · have H0 := Lib.hid h0; clear h0
    have cs1 := (hB.cell (p := ⟨gs, 0, none⟩) (lt_of_block hgs)).trans cs
    have cp1 := (hB.cell (p := ⟨gp, 0, none⟩) (lt_of_block hgp)).trans cp
    have cb1 := (hB.cell (p := ⟨gb, 0, none⟩) (lt_of_block hgb)).trans cb
    unfold S
    have k1 : K base w w1 := K.of_new hB Hk.out.base_le
    have hgs1 := k1.const _ _ _ _ hgs rfl
    have hgp1 := k1.const _ _ _ _ hgp rfl
    have hgb1 := k1.const _ _ _ _ hgb rfl
    have hv1 : BytesAt w1.drew (.slice a b.length c) b := by
      rcases Hv.out with ⟨h1, h2⟩ | ⟨a', c', h1, h2⟩
      · exact .inl ⟨h1, h2⟩
      · cases h1
        refine .inr ⟨_, _, rfl, fun i hi => ?_⟩
        have e := h2 i hi
        rw [List.getElem?_eq_getElem hi] at e ⊢
        exact cell_below hB e
    have hble : b.length ≤ 140737488355328 := by
      have := H0.out
      unfold writeErr at this
      split at this
      · cases this
      · split at this
        · cases this
        · rename_i hno; omega
    have Hcl := Lib.hid (clone_any hv1 hble)
    have hwr : ∀ (w2 : World) (v2 : Value), base ≤ w2.heap.size → RowIn w2 base v2 b → Calls Tryz.prog 42 #[.string ⟨p.toArray⟩, v2] w2 (MadePost base (.write p b) w2) := fun w2 v2 h1 h2 => write_any h1 h2
    have hadd : ∀ (w3 : World) (pv : Value), Below w.heap.size w w3 → ActIn w3 base pv (.write p b) → Calls Tryz.prog 41 #[.pointer (some ⟨s, 0, none⟩), .agg #[.string ⟨(dirOf p).toArray⟩, pv]] w3 (AddPost base s f y { st with files := tput p b st.files, loose := st.loose ++ [(dirOf p, .write p b)] } w3) :=
      fun w3 pv h1 h2 => add_any (Hk.out.keep h1) h2 hp hl hk
    have Hwr := Lib.hid hwr; have Hadd := Lib.hid hadd; clear hwr hadd hv1
    have hbw1 : base ≤ w1.heap.size := Nat.le_trans Hk.out.base_le hB.size
    go_wp2_with fail
    go_region_held3 (fun w' => w'.cell? ⟨gs, 0, none⟩ = some (.pointer (some ⟨s, 0, none⟩)) ∧ w'.cell? ⟨gp, 0, none⟩ = some (.string ⟨p.toArray⟩) ∧ w'.cell? ⟨gb, 0, none⟩ = some (.slice a b.length c))
      (first | exact ⟨cs1, cp1, cb1⟩ | assumption | go_keep)
      (first
        | (go_at_call 32; refine Hcl.out.mono ?_; rintro e w2 ⟨v2, rfl, hr2, hB2'⟩; have hB2 := below_undrew hB2'; have hS2 := And.intro (cell_below hB2 cs1) (And.intro (cell_below hB2 cp1) (cell_below hB2 cb1)); have hr3 := hr2.mono (b' := base) hbw1; have hbw2 := Nat.le_trans hbw1 hB2.size)
        | (go_at_call 42; refine (Hwr.out _ _ hbw2 hr3).mono ?_; rintro e w3 ⟨fn, first, cap, rfl, hact, hB3⟩; have hS3 := And.intro (cell_below hB3 hS2.1) (And.intro (cell_below hB3 hS2.2.1) (cell_below hB3 hS2.2.2)))
        | (go_at_call 41; refine (Hadd.out _ _ (below_two hB (below_two (w' := w2) hB2 hB3)) hact).mono ?_; rintro e w4 ⟨rfl, hk4, lv4, hok4⟩; have k14 := ((K.of_new hB2 hbw1).trans (K.of_new hB3 hbw2)).trans hk4; have hS4 := And.intro (cell_keep k14 hgs1 rfl) (And.intro (cell_keep k14 hgp1 rfl) (cell_keep k14 hgb1 rfl))))
    go_wp2
    go_ret
    exact ⟨_, lv4, rfl, k1.trans k14, .inl ⟨H0.out, rfl, hok4⟩⟩
  · obtain ⟨ag, x, rfl, hf⟩ := hf
    have H0 := Lib.hid h0; clear h0
    have Hf := Lib.hid hf; clear hf
    unfold S
    go_wp2_with fail
    go_ret
    exact ⟨_, lv, rfl, K.of_new hB Hk.out.base_le, .inr ⟨H0.out, ⟨_, _, rfl, Hf.out⟩, Hk.out.keep hB⟩⟩

set_option maxHeartbeats 4000000 in
set_option maxRecDepth 100000 in
theorem tryRename {w : World} {base s f y : Nat} {lv : Value} {st : St} (h : Ok w base s f y lv st) {p q : By} {bs bp bq : Value} (hp : p.length ≤ maxLen) (hq : q.length ≤ maxLen)
    (hbs : BoxIn w base 27 bs (.pointer (some ⟨s, 0, none⟩))) (hbp : BoxIn w base 9 bp (S p)) (hbq : BoxIn w base 9 bq (S q))
    (hl : st.files.length < maxLen) (hk : (st.loose.length + 1) * 24 ≤ 140737488355328) :
    Calls Tryz.prog 45 #[bs, bp, bq] w (TryPost base s f y st (renameErr p q st.files) { st with files := (Act.rename p q).play st.files, loose := st.loose ++ [(dirOf p, .rename p q)] } w) := by
  have hm := mayRename_any h p q hp hq
  obtain ⟨gs, rfl, _, hgs⟩ := hbs
  obtain ⟨gp, rfl, _, hgp⟩ := hbp
  obtain ⟨gq, rfl, _, hgq⟩ := hbq
  have cs := cell_of_one hgs; have cp := cell_of_one hgp; have cq := cell_of_one hgq
  unfold S at cp cq hm
  have Hm := Lib.hid hm; have Hk := Lib.hid h
  clear hm h
  go_enter Tryz.func45, Tryz.ntmps45
  go_wp2_with fail
  refine Hm.out.mono ?_
  rintro e w1 ⟨hB, ⟨h0, rfl⟩ | ⟨h0, ev, rfl, hf⟩⟩
  · have H0 := Lib.hid h0; clear h0
    have cs1 := (hB.cell (p := ⟨gs, 0, none⟩) (lt_of_block hgs)).trans cs
    have cp1 := (hB.cell (p := ⟨gp, 0, none⟩) (lt_of_block hgp)).trans cp
    have cq1 := (hB.cell (p := ⟨gq, 0, none⟩) (lt_of_block hgq)).trans cq
    unfold S
    have k1 : K base w w1 := K.of_new hB Hk.out.base_le
    have hgs1 := k1.const _ _ _ _ hgs rfl
    have hgp1 := k1.const _ _ _ _ hgp rfl
    have hgq1 := k1.const _ _ _ _ hgq rfl
    have hwr : ∀ (w2 : World), base ≤ w2.heap.size → Calls Tryz.prog 47 #[.string ⟨p.toArray⟩, .string ⟨q.toArray⟩] w2 (MadePost base (.rename p q) w2) := fun w2 h1 => rename_any h1
    have hadd : ∀ (w3 : World) (pv : Value), Below w.heap.size w w3 → ActIn w3 base pv (.rename p q) → Calls Tryz.prog 41 #[.pointer (some ⟨s, 0, none⟩), .agg #[.string ⟨(dirOf p).toArray⟩, pv]] w3 (AddPost base s f y { st with files := (Act.rename p q).play st.files, loose := st.loose ++ [(dirOf p, .rename p q)] } w3) :=
      fun w3 pv h1 h2 => add_any (Hk.out.keep h1) h2 ⟨hp, hq⟩ hl hk
    have Hwr := Lib.hid hwr; have Hadd := Lib.hid hadd; clear hwr hadd
    have hbw1 : base ≤ w1.heap.size := Nat.le_trans Hk.out.base_le hB.size
    go_wp2_with fail
    go_region_held3 (fun w' => w'.cell? ⟨gs, 0, none⟩ = some (.pointer (some ⟨s, 0, none⟩)) ∧ w'.cell? ⟨gp, 0, none⟩ = some (.string ⟨p.toArray⟩) ∧ w'.cell? ⟨gq, 0, none⟩ = some (.string ⟨q.toArray⟩))
      (first | exact ⟨cs1, cp1, cq1⟩ | assumption | go_keep)
      (first
        | (go_at_call 47; refine (Hwr.out w1.drew hbw1).mono ?_; rintro e w3 ⟨fn, first, cap, rfl, hact, hB3'⟩; have hB3 := below_undrew hB3'; have hS3 := And.intro (cell_below hB3 cs1) (And.intro (cell_below hB3 cp1) (cell_below hB3 cq1)))
        | (go_at_call 41; refine (Hadd.out _ _ (below_two hB hB3) hact).mono ?_; rintro e w4 ⟨rfl, hk4, lv4, hok4⟩; have k14 := (K.of_new hB3 hbw1).trans hk4; have hS4 := And.intro (cell_keep k14 hgs1 rfl) (And.intro (cell_keep k14 hgp1 rfl) (cell_keep k14 hgq1 rfl))))
    go_wp2
    go_ret
    exact ⟨_, lv4, rfl, k1.trans k14, .inl ⟨H0.out, rfl, hok4⟩⟩
  · obtain ⟨ag, x, rfl, hf⟩ := hf
    have H0 := Lib.hid h0; clear h0
    have Hf := Lib.hid hf; clear hf
    unfold S
    go_wp2_with fail
    go_ret
    exact ⟨_, lv, rfl, K.of_new hB Hk.out.base_le, .inr ⟨H0.out, ⟨_, _, rfl, Hf.out⟩, Hk.out.keep hB⟩⟩
end Go.Proofs.YtbibogpeagnjoaaGreatDoor


namespace Go.Proofs.YtbibogpeagnjoaaGreatDoor
open Go Go.RowKit Go.Extern.Stop Go.Stop Go.Extern

theorem mComparable (h : Value) (w : World) : (Go.method 293 125 (.agg #[h]) "Comparable").run Tryz.prog w = .ok (137, .agg #[h]) w := by kernel_rfl
theorem noIsF (v : Value) (xT : TypeId) (w : World) : (Instr.typeAssert (.iface 85 v) xT 127 true).run Tryz.prog w = .ok (.tuple #[.nilIface, .bool false]) w := run_typeAssert_lacksB Tryz.underlying127 (by kernel_rfl) (by kernel_rfl) v xT w
theorem noIsE (v : Value) (xT : TypeId) (w : World) : (Instr.typeAssert (.iface 35 v) xT 127 true).run Tryz.prog w = .ok (.tuple #[.nilIface, .bool false]) w := run_typeAssert_lacksB Tryz.underlying127 (by kernel_rfl) (by kernel_rfl) v xT w
theorem noUnwrapE (v : Value) (xT : TypeId) (w : World) : (Instr.typeAssert (.iface 35 v) xT 130 true).run Tryz.prog w = .ok (.tuple #[.nilIface, .bool false]) w := run_typeAssert_lacksB Tryz.underlying130 (by kernel_rfl) (by kernel_rfl) v xT w
theorem noUnwrapsE (v : Value) (xT : TypeId) (w : World) : (Instr.typeAssert (.iface 35 v) xT 131 true).run Tryz.prog w = .ok (.tuple #[.nilIface, .bool false]) w := run_typeAssert_lacksB Tryz.underlying131 (by kernel_rfl) (by kernel_rfl) v xT w
theorem eqlFE (vx vy : Value) (w : World) : (binOp .eql 56 (.iface 85 vx) (.iface 35 vy)).run Tryz.prog w = .ok (.bool false) w := run_eql_iface_types _ _ vx vy Tryz.underlying56 (by decide) w
theorem run_equalIn_iface_int {P : Program} (w : World) (d : Nat) {ti tn : TypeId} {ms : Array (String × TypeId)} {i : TypeInfo} {k : IntKind} (a b : Int)
    (hi : P.underlying ti = some (.interface ms)) (hn : P.underlying tn = some (.int k)) (hinfo : P.info? tn = some i) (hcomp : i.comparable = true) :
    (Op.equalIn (d + 2) ti (.iface tn (.int k a)) (.iface tn (.int k b))).run P w = .ok (a == b) w := by
  simp [Op.equalIn, run_underlying hi, run_underlying hn, typeInfo, hinfo, hcomp]
theorem run_eql_iface_int {P : Program} (w : World) {ti tn : TypeId} {ms : Array (String × TypeId)} {i : TypeInfo} {k : IntKind} (a b : Int)
    (hi : P.underlying ti = some (.interface ms)) (hn : P.underlying tn = some (.int k)) (hinfo : P.info? tn = some i) (hcomp : i.comparable = true) :
    (binOp .eql ti (.iface tn (.int k a)) (.iface tn (.int k b))).run P w = .ok (.bool (a == b)) w := by
  simp only [binOp]
  simp [Op.equal, Op.maxDepth, run_equalIn_iface_int w 9998 a b hi hn hinfo hcomp]
theorem infoErrno : (Tryz.prog.info? 35).map (·.comparable) = some true := by kernel_rfl
theorem eqlEE (a b : Int) (w : World) : (binOp .eql 56 (.iface 35 (.int .i64 a)) (.iface 35 (.int .i64 b))).run Tryz.prog w = .ok (.bool (a == b)) w := by
  obtain ⟨i, hi, hc⟩ := Option.map_eq_some_iff.1 infoErrno
  exact run_eql_iface_int w a b Tryz.underlying56 Tryz.underlying35 hi hc
theorem comparableE (w : World) : (ReflectliteType.method (fun t => do Rtype.noPackHeld "Comparable" t; (fun a => Value.bool a.comparable) <$> typeInfo t) #[.agg #[.pointer (some ⟨2, 35, none⟩)]]).run Tryz.prog w = .ok (.bool true) w := by kernel_rfl

theorem eqlNE (w : World) : (binOp .eql 56 .nilIface (.iface 35 (.int .i64 13))).run Tryz.prog w = .ok (.bool false) w := by kernel_rfl

def BoolPost (b : Bool) (w : World) (e : Ending) (w' : World) : Prop := e = .returned (.bool b) ∧ w = w'

set_option maxHeartbeats 4000000 in
set_option maxRecDepth 100000 in
theorem is_fault (a : Nat) (x : ByteArray) (n : Int) (w : World) (h : w.heap[a]? = some (.cells #[.string x, .iface 35 (.int .i64 n)] 87 (0, 0))) :
    Calls Tryz.prog 77 #[.iface 85 (.pointer (some ⟨a, 0, none⟩)), .iface 35 (.int .i64 13), .bool true] w (BoolPost (n == 13) w) := by
  have q1 := noIsF; have q2 := noIsE; have q3 := noUnwrapE; have q4 := noUnwrapsE; have q5 := eqlFE; have q6 := mUnwrap; have q7 := unwrapF; have q8 := eqlEE
  go_enter Tryz.func77, Tryz.ntmps77
  go_wp2
  refine wp_loop_rounds 2 ?_
  rw [rounds_succ]
  go_wp2_with fail
  refine (unwrap_any a x n _ h).mono ?_
  rintro e w' ⟨rfl, rfl⟩
  go_wp2_with fail
  rw [rounds_succ]
  by_cases hn : n = 13
  · subst hn
    go_wp2_with fail
    go_ret
    exact ⟨rfl, rfl⟩
  · have hb : (n == 13) = false := by simpa using hn
    go_wp2_with fail
    go_ret
    exact ⟨by rw [hb]; rfl, rfl⟩

set_option maxHeartbeats 1000000 in
set_option maxRecDepth 100000 in
theorem errIs_nil (w : World) : Calls Tryz.prog 64 #[.nilIface, .iface 35 (.int .i64 13)] w (BoolPost false w) := by
  have q1 := eqlNE
  go_enter Tryz.func64, Tryz.ntmps64
  go_wp2
  go_ret
  exact ⟨rfl, rfl⟩

set_option maxHeartbeats 1000000 in
set_option maxRecDepth 100000 in
theorem errIs_fault (ev : Value) (n : Int) (w : World) (h : FaultIn w ev n) : Calls Tryz.prog 64 #[ev, .iface 35 (.int .i64 13)] w (BoolPost (n == 13) w) := by
  obtain ⟨a, x, rfl, h⟩ := h
  have hTO := @run_callFunc_extern Tryz.prog 76 _ ReflectliteType.typeOf Tryz.func76 (by kernel_rfl) (by kernel_rfl) (by kernel_rfl) (by kernel_rfl)
  have hCo := @run_callFunc_extern Tryz.prog 137 _ (ReflectliteType.method (fun t => do Rtype.noPackHeld "Comparable" t; pure (.bool (← typeInfo t).comparable))) Tryz.func137 (by kernel_rfl) (by kernel_rfl) (by kernel_rfl) (by kernel_rfl)
  have q1 := typeOfE; have q2 := mComparable; have q3 := comparableE
  have hin := is_fault a x n w h
  have Hin := Lib.hid hin; clear hin
  go_enter Tryz.func64, Tryz.ntmps64
  go_wp2_with fail
  refine Hin.out.mono ?_
  rintro e w' ⟨rfl, rfl⟩
  go_wp2
  go_ret
  exact ⟨rfl, rfl⟩
end Go.Proofs.YtbibogpeagnjoaaGreatDoor


namespace Go.Proofs.YtbibogpeagnjoaaGreatDoor
open Go Go.RowKit Go.Maps

theorem FaultIn.keep {w w' : World} {base : Nat} {ev : Value} {n : Int} (h : FaultIn w ev n) (k : K base w w') : FaultIn w' ev n := by
  obtain ⟨a, x, e, h⟩ := h
  exact ⟨a, x, e, k.const _ _ _ _ h rfl⟩
theorem Et.keep {w w' : World} {base : Nat} (h : Et w) (k : K base w w') (hb : 0 < base) : Et w' := by
  unfold Et at h ⊢
  rw [k.below.cell (p := ⟨0, 0, none⟩) hb]; exact h

/-- An act that is done counts, and burns the fuse. -/
def bump (st : St) : St := { st with acts := wrap64 (st.acts + 1), fuse := burnt st.fuse }
def doN (st : St) (er : Int) : Int := if on st = true then er else 13
def doSt (st : St) (er : Int) (st1 : St) : St := if on st = true then (if er = 0 then bump st1 else st) else { st with down := true }

/-- What an act comes to. -/
def DoPost (base s f y : Nat) (n : Int) (st : St) (w : World) (e : Ending) (w' : World) : Prop := e = .returned (.int .i64 n) ∧ K base w w' ∧ ∃ lv, Ok w' base s f y lv st

set_option maxHeartbeats 4000000 in
set_option maxRecDepth 100000 in
theorem do_off {w : World} {base s f y : Nat} {lv : Value} {st : St} (h : Ok w base s f y lv st) (het : Et w) (hb : 0 < base) (ho : on st = false) (fv : Value) :
    Calls Tryz.prog 38 #[.pointer (some ⟨s, 0, none⟩), fv] w (DoPost base s f y 13 { st with down := true } w) := by
  have hp : Calls Tryz.prog 63 #[.pointer (some ⟨s, 0, none⟩)] w fun e w' => ∃ a, e = .returned (.iface 85 (.pointer (some ⟨a, 0, none⟩))) ∧ FaultIn w' (.iface 85 (.pointer (some ⟨a, 0, none⟩))) 13 ∧ Below w.heap.size w w' :=
    (power_any h).mono fun e w' hd => by
      obtain ⟨h1, h2 | h2⟩ := hd
      · rw [ho] at h2; cases h2.1
      · obtain ⟨_, ev, h3, a, x, rfl, h4⟩ := h2
        exact ⟨a, h3, ⟨a, x, rfl, h4⟩, h1⟩
  have Hp := Lib.hid hp; have Hk := Lib.hid h; have Het := Lib.hid het
  clear hp h ho het
  go_enter Tryz.func38, Tryz.ntmps38
  go_wp2_with fail
  refine Hp.out.mono ?_
  rintro e w1 ⟨a, rfl, hf, hB⟩
  have his := errIs_fault _ 13 w1 hf
  have hk1 := Hk.out.keep hB
  have c6 := hk1.c6
  have f6 := hk1.free 6
  have hk2 := hk1.field 6 (.bool true) { st with down := true } rfl rfl rfl rfl
  have k1 : K base w w1 := K.of_new hB Hk.out.base_le
  have k2 : K base w1 (w1.setCell ⟨s, 6, none⟩ (.bool true)) := (K.refl _ _).setShelf hk1.blk hk1.base_s 6 _
  have htold := told_fault _ 13 _ (hf.keep k2) ((Het.out.keep k1 hb).keep k2 hb)
  have His := Lib.hid his; have Hk2 := Lib.hid hk2; have K1 := Lib.hid k1; have K2 := Lib.hid k2; have Ht := Lib.hid htold
  clear his hk1 hk2 k1 k2 htold hf
  go_wp2_with fail
  refine His.out.mono ?_
  rintro e w2 ⟨rfl, rfl⟩
  go_wp2_with fail
  refine Ht.out.mono ?_
  rintro e w3 ⟨rfl, hB3⟩
  go_wp2_with fail
  go_ret
  exact ⟨rfl, (K1.out.trans K2.out).new hB3 Hk2.out.base_le, _, Hk2.out.keep hB3⟩

set_option maxHeartbeats 4000000 in
set_option maxRecDepth 100000 in
theorem do_err {w : World} {base s f y : Nat} {lv : Value} {st st1 : St} {er : Int} (h : Ok w base s f y lv st) (het : Et w) (hb : 0 < base) (ho : on st = true) (he : er ≠ 0) (he13 : er ≠ 13)
    {g : Nat} {cap : Array Value} (hent : ∀ args w, (callFunc g args).run Tryz.prog w = .ok (.enter g args) w) (htry : Calls Tryz.prog g cap w (TryPost base s f y st er st1 w)) :
    Calls Tryz.prog 38 #[.pointer (some ⟨s, 0, none⟩), .func (.func g) #[] cap] w (DoPost base s f y er st w) := by
  have hp : Calls Tryz.prog 63 #[.pointer (some ⟨s, 0, none⟩)] w fun e w' => e = .returned .nilIface ∧ w = w' :=
    (power_any h).mono fun e w' hd => by
      obtain ⟨h1, h2 | h2⟩ := hd
      · exact ⟨h2.2.1, h2.2.2.symm⟩
      · rw [ho] at h2; cases h2.1
  have ht : Calls Tryz.prog g cap w fun e w' => ∃ a lv, e = .returned (.iface 85 (.pointer (some ⟨a, 0, none⟩))) ∧ FaultIn w' (.iface 85 (.pointer (some ⟨a, 0, none⟩))) er ∧ K base w w' ∧ Ok w' base s f y lv st :=
    htry.mono fun e w' hd => by
      obtain ⟨ev, lv', h1, h2, h3 | h3⟩ := hd
      · exact absurd h3.1 he
      · obtain ⟨_, ⟨a, x, rfl, h5⟩, h6⟩ := h3
        exact ⟨a, lv', h1, ⟨a, x, rfl, h5⟩, h2, h6⟩
  have Hp := Lib.hid hp; have Hk := Lib.hid h; have Het := Lib.hid het; have Ht := Lib.hid ht
  have H13 : Hid ((er == 13) = false) := by show (er == 13) = false; simpa using he13
  clear hp h ho het ht htry he he13
  go_enter Tryz.func38, Tryz.ntmps38
  go_wp2_with fail
  refine Hp.out.mono ?_
  rintro e w1 ⟨rfl, rfl⟩
  go_wp2_with fail
  refine Ht.out.mono ?_
  rintro e w2 ⟨a, lv2, rfl, hf, k2, hok2⟩
  have his := errIs_fault _ er w2 hf
  rw [H13.out] at his
  have htold := told_fault _ er _ hf (Het.out.keep k2 hb)
  have His := Lib.hid his; have Htold := Lib.hid htold; have K2 := Lib.hid k2; have Hk2 := Lib.hid hok2
  clear his htold k2 hok2 hf
  go_wp2_with fail
  refine His.out.mono ?_
  rintro e w3 ⟨rfl, rfl⟩
  go_wp2_with fail
  refine Htold.out.mono ?_
  rintro e w3 ⟨rfl, hB3⟩
  go_wp2_with fail
  go_ret
  exact ⟨rfl, K2.out.new hB3 Hk2.out.base_le, _, Hk2.out.keep hB3⟩

set_option maxHeartbeats 4000000 in
set_option maxRecDepth 100000 in
theorem do_ok {w : World} {base s f y : Nat} {lv : Value} {st st1 : St} (h : Ok w base s f y lv st) (ho : on st = true)
    {g : Nat} {cap : Array Value} (hent : ∀ args w, (callFunc g args).run Tryz.prog w = .ok (.enter g args) w) (htry : Calls Tryz.prog g cap w (TryPost base s f y st 0 st1 w)) :
    Calls Tryz.prog 38 #[.pointer (some ⟨s, 0, none⟩), .func (.func g) #[] cap] w (DoPost base s f y 0 (bump st1) w) := by
  have hp : Calls Tryz.prog 63 #[.pointer (some ⟨s, 0, none⟩)] w fun e w' => e = .returned .nilIface ∧ w = w' :=
    (power_any h).mono fun e w' hd => by
      obtain ⟨h1, h2 | h2⟩ := hd
      · exact ⟨h2.2.1, h2.2.2.symm⟩
      · rw [ho] at h2; cases h2.1
  have ht : Calls Tryz.prog g cap w fun e w' => ∃ lv, e = .returned .nilIface ∧ K base w w' ∧ Ok w' base s f y lv st1 :=
    htry.mono fun e w' hd => by
      obtain ⟨ev, lv', h1, h2, h3 | h3⟩ := hd
      · exact ⟨lv', by rw [h1, h3.2.1], h2, h3.2.2⟩
      · exact absurd rfl h3.1
  have Hp := Lib.hid hp; have Ht := Lib.hid ht
  clear hp h ho ht htry
  go_enter Tryz.func38, Tryz.ntmps38
  go_wp2_with fail
  refine Hp.out.mono ?_
  rintro e w1 ⟨rfl, rfl⟩
  go_wp2_with fail
  refine Ht.out.mono ?_
  rintro e w2 ⟨lv2, rfl, k2, hok2⟩
  have c4 := hok2.c4
  have f4 := hok2.free 4
  have hk3 := hok2.field 4 (.int .i64 (wrap64 (st1.acts + 1))) { st1 with acts := wrap64 (st1.acts + 1) } rfl rfl rfl rfl
  have k3 : K base w2 (w2.setCell ⟨s, 4, none⟩ (.int .i64 (wrap64 (st1.acts + 1)))) := (K.refl _ _).setShelf hok2.blk hok2.base_s 4 _
  have hburn := burn_any hk3
  have K2 := Lib.hid k2; have K3 := Lib.hid k3; have Hb := Lib.hid hburn
  clear k2 hk3 k3 hburn hok2
  go_wp2_with fail
  refine (errIs_nil _).mono ?_
  rintro e w3 ⟨rfl, rfl⟩
  go_wp2_with fail
  refine Hb.out.mono ?_
  rintro e w4 ⟨rfl, k4, hok4⟩
  have K4 := Lib.hid k4; have Hk4 := Lib.hid hok4; clear k4 hok4
  go_wp2_with fail
  refine (told_nil _).mono ?_
  rintro e w5 ⟨rfl, hB5⟩
  go_wp2_with fail
  go_ret
  exact ⟨rfl, ((K2.out.trans K3.out).trans K4.out).new hB5 Hk4.out.base_le, _, Hk4.out.keep hB5⟩

theorem do_any {w : World} {base s f y : Nat} {lv : Value} {st st1 : St} {er : Int} (h : Ok w base s f y lv st) (het : Et w) (hb : 0 < base) (he13 : er ≠ 13)
    {g : Nat} {cap : Array Value} (hent : ∀ args w, (callFunc g args).run Tryz.prog w = .ok (.enter g args) w) (htry : Calls Tryz.prog g cap w (TryPost base s f y st er st1 w)) :
    Calls Tryz.prog 38 #[.pointer (some ⟨s, 0, none⟩), .func (.func g) #[] cap] w (DoPost base s f y (doN st er) (doSt st er st1) w) := by
  unfold doN doSt
  by_cases ho : on st = true
  · rw [if_pos ho, if_pos ho]
    by_cases he : er = 0
    · subst he; rw [if_pos rfl]; exact do_ok h ho hent htry
    · rw [if_neg he]; exact do_err h het hb ho he he13 hent htry
  · rw [if_neg ho, if_neg ho]
    exact do_off h het hb (by simpa using ho) _
end Go.Proofs.YtbibogpeagnjoaaGreatDoor


namespace Go.Proofs.YtbibogpeagnjoaaGreatDoor
open Go Go.RowKit Go.Maps

/-- The bounds under which a shelf is kept: k tells how many files and acts there may be. -/
structure Bd (st : St) (k : Nat) : Prop where
  files : st.files.length ≤ k
  both : st.synced.length + st.loose.length ≤ k
  small : ∀ q ∈ st.files, q.2.length ≤ 262144
  smallS : ∀ q ∈ st.synced, q.2.length ≤ 262144
  smallL : ∀ a ∈ st.loose, ∀ p b, a.2 = .write p b → b.length ≤ 262144
  fits : ∀ a ∈ st.loose, a.2.fits
  lim : k ≤ 1000000

theorem tsize_small : ∀ {t : Tb}, (∀ q ∈ t, q.2.length ≤ 262144) → tsize t ≤ t.length * 262144
  | [], _ => Nat.zero_le _
  | q :: r, h => by
    have ih := tsize_small (t := r) (fun x hx => h x (by simp [hx]))
    have := h q (by simp)
    simp only [tsize, List.map_cons, List.sum_cons, List.length_cons] at ih ⊢
    omega

theorem Bd.size {st : St} {k : Nat} (h : Bd st k) : tsize st.files ≤ 4611686018427387904 := by
  have h1 := tsize_small h.small
  have h2 := h.files
  have h3 := h.lim
  have : st.files.length * 262144 ≤ 1000000 * 262144 := Nat.mul_le_mul_right _ (by omega)
  omega
theorem Bd.len {st : St} {k : Nat} (h : Bd st k) : st.files.length < maxLen := by have h2 := h.files; have h3 := h.lim; unfold maxLen; omega
theorem Bd.lenS {st : St} {k : Nat} (h : Bd st k) : st.synced.length < maxLen := by have h2 := h.both; have h3 := h.lim; unfold maxLen; omega
theorem Bd.loose {st : St} {k : Nat} (h : Bd st k) : (st.loose.length + 1) * 24 ≤ 140737488355328 := by have h2 := h.both; have h3 := h.lim; omega

/-- What Write does. -/
def wrote (p b : By) (st : St) : St := { st with files := tput p b st.files, loose := st.loose ++ [(dirOf p, .write p b)] }
def renamed (p q : By) (st : St) : St := { st with files := (Act.rename p q).play st.files, loose := st.loose ++ [(dirOf p, .rename p q)] }
def removed (p : By) (st : St) : St := { st with files := tdel p st.files, loose := st.loose ++ [(dirOf p, .remove p)] }

theorem writeErr_ne {p : By} {n : Int} {st : St} : writeErr p n st ≠ 13 := by
  unfold writeErr; split
  · decide
  · split
    · decide
    · split <;> decide
theorem renameErr_ne {p q : By} {t : Tb} : renameErr p q t ≠ 13 := by
  unfold renameErr; split
  · decide
  · split
    · decide
    · split
      · decide
      · split <;> decide
theorem thereErr_ne {p : By} {t : Tb} : thereErr p t ≠ 13 := by
  unfold thereErr; split
  · decide
  · split <;> decide

theorem DoPost.from {base s f y : Nat} {n : Int} {st : St} {w w1 : World} (hB : Below w.heap.size w w1) (hb : base ≤ w.heap.size) {e : Ending} {w' : World} (h : DoPost base s f y n st w1 e w') : DoPost base s f y n st w e w' :=
  ⟨h.1, (K.of_new hB hb).trans h.2.1, h.2.2⟩

theorem BytesAt.below {w w' : World} {v : Value} {b : By} (h : BytesAt w v b) (hB : Below w.heap.size w w') : BytesAt w' v b := by
  rcases h with h | ⟨a, c, rfl, h2⟩
  · exact .inl h
  · refine .inr ⟨_, _, rfl, fun i hi => ?_⟩
    have e := h2 i hi
    rw [List.getElem?_eq_getElem hi] at e ⊢
    exact (hB.cell (World.block_lt_of_cell? w _ e)).trans e

theorem BytesAt.slice {w : World} {v : Value} {b : By} (h : BytesAt w v b) : ∃ a c, v = .slice a b.length c := by
  rcases h with ⟨rfl, rfl⟩ | ⟨a, c, rfl, _⟩
  · exact ⟨none, 0, rfl⟩
  · exact ⟨_, _, rfl⟩

theorem box_new3 {w : World} {base : Nat} {t : TypeId} (o1 o2 : Obj) (v : Value) (hb : base ≤ w.heap.size) : BoxIn (((w.alloc o1).alloc o2).alloc (.cells #[v] t)) base t (.pointer (some ⟨w.heap.size + 1 + 1, 0, none⟩)) v := by
  have h := heap_alloc_new ((w.alloc o1).alloc o2) (.cells #[v] t)
  have e : ((w.alloc o1).alloc o2).heap.size = w.heap.size + 1 + 1 := by simp
  rw [e] at h
  exact ⟨_, rfl, by omega, h⟩

set_option maxHeartbeats 4000000 in
set_option maxRecDepth 100000 in
theorem Write_any {w : World} {base s f y k : Nat} {lv : Value} {st : St} (h : Ok w base s f y lv st) (hbd : Bd st k) (het : Et w) (hg : 0 < base) {p b : By} {v : Value} (hp : p.length ≤ maxLen) (hb : b.length ≤ maxLen) (hv : BytesAt w v b) :
    Calls Tryz.prog 9 #[.pointer (some ⟨s, 0, none⟩), S p, v] w (DoPost base s f y (doN st (writeErr p b.length st)) (doSt st (writeErr p b.length st) (wrote p b st)) w) := by
  have hmf : ∀ (fn : Fn) (first cap : Array Value) (w : World), (Instr.makeFunc fn first cap).run Tryz.prog w = .ok (.func fn first cap) w := fun _ _ _ _ => rfl
  obtain ⟨a, c, rfl⟩ := hv.slice
  have hbs := h.base_le
  have B1 := below_alloc w (.cells #[.pointer (some ⟨s, 0, none⟩)] 27)
  have B2 := below_alloc (w.alloc (.cells #[.pointer (some ⟨s, 0, none⟩)] 27)) (.cells #[S p] 9)
  have B3 := below_alloc ((w.alloc (.cells #[.pointer (some ⟨s, 0, none⟩)] 27)).alloc (.cells #[S p] 9)) (.cells #[.slice a b.length c] 31)
  have B := below_two (below_two B1 B2) B3
  have kB : K base w _ := K.of_new B hbs
  have x1 := ((box_new (t := 27) (.pointer (some ⟨s, 0, none⟩)) hbs).keep (K.of_new (base := base) B2 (by simp; omega)) rfl).keep (K.of_new (base := base) B3 (by simp; omega)) rfl
  have x2 := (box_new2 (t := 9) (.cells #[.pointer (some ⟨s, 0, none⟩)] 27) (S p) hbs).keep (K.of_new (base := base) B3 (by simp; omega)) rfl
  have x3 := box_new3 (t := 31) (.cells #[.pointer (some ⟨s, 0, none⟩)] 27) (.cells #[S p] 9) (.slice a b.length c) hbs
  have ht := tryWrite (h.keep B) hp hb x1 x2 x3 (hv.below B) hbd.size hbd.len hbd.loose
  have hd := do_any (h.keep B) (het.keep kB hg) hg writeErr_ne (enters_of Tryz.func39 (by kernel_rfl) rfl) ht
  have Hd := Lib.hid hd; have HB := Lib.hid B
  clear hd ht x1 x2 x3 kB B B1 B2 B3 h het hv hbd
  unfold S at Hd HB ⊢
  go_enter Tryz.func9, Tryz.ntmps9
  go_wp2_with fail
  refine Hd.out.mono ?_
  rintro e w' hD
  have hD' := hD.from HB.out hbs
  obtain ⟨rfl, hD2⟩ := hD'
  have HD := Lib.hid hD2; clear hD2 hD
  go_wp2_with fail
  go_ret
  exact ⟨rfl, HD.out⟩

set_option maxHeartbeats 4000000 in
set_option maxRecDepth 100000 in
theorem Rename_any {w : World} {base s f y k : Nat} {lv : Value} {st : St} (h : Ok w base s f y lv st) (hbd : Bd st k) (het : Et w) (hg : 0 < base) {p q : By} (hp : p.length ≤ maxLen) (hq : q.length ≤ maxLen) :
    Calls Tryz.prog 11 #[.pointer (some ⟨s, 0, none⟩), S p, S q] w (DoPost base s f y (doN st (renameErr p q st.files)) (doSt st (renameErr p q st.files) (renamed p q st)) w) := by
  have hmf : ∀ (fn : Fn) (first cap : Array Value) (w : World), (Instr.makeFunc fn first cap).run Tryz.prog w = .ok (.func fn first cap) w := fun _ _ _ _ => rfl
  have hbs := h.base_le
  have B1 := below_alloc w (.cells #[.pointer (some ⟨s, 0, none⟩)] 27)
  have B2 := below_alloc (w.alloc (.cells #[.pointer (some ⟨s, 0, none⟩)] 27)) (.cells #[S p] 9)
  have B3 := below_alloc ((w.alloc (.cells #[.pointer (some ⟨s, 0, none⟩)] 27)).alloc (.cells #[S p] 9)) (.cells #[S q] 9)
  have B := below_two (below_two B1 B2) B3
  have kB : K base w _ := K.of_new B hbs
  have x1 := ((box_new (t := 27) (.pointer (some ⟨s, 0, none⟩)) hbs).keep (K.of_new (base := base) B2 (by simp; omega)) rfl).keep (K.of_new (base := base) B3 (by simp; omega)) rfl
  have x2 := (box_new2 (t := 9) (.cells #[.pointer (some ⟨s, 0, none⟩)] 27) (S p) hbs).keep (K.of_new (base := base) B3 (by simp; omega)) rfl
  have x3 := box_new3 (t := 9) (.cells #[.pointer (some ⟨s, 0, none⟩)] 27) (.cells #[S p] 9) (S q) hbs
  have ht := tryRename (h.keep B) hp hq x1 x2 x3 hbd.len hbd.loose
  have hd := do_any (h.keep B) (het.keep kB hg) hg renameErr_ne (enters_of Tryz.func45 (by kernel_rfl) rfl) ht
  have Hd := Lib.hid hd; have HB := Lib.hid B
  clear hd ht x1 x2 x3 kB B B1 B2 B3 h het hbd
  unfold S at Hd HB ⊢
  go_enter Tryz.func11, Tryz.ntmps11
  go_wp2_with fail
  refine Hd.out.mono ?_
  rintro e w' hD
  have hD' := hD.from HB.out hbs
  obtain ⟨rfl, hD2⟩ := hD'
  have HD := Lib.hid hD2; clear hD2 hD
  go_wp2_with fail
  go_ret
  exact ⟨rfl, HD.out⟩
end Go.Proofs.YtbibogpeagnjoaaGreatDoor
