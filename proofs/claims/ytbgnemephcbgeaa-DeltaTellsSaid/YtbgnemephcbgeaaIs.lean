/-
  errors.Is at a delta's error.
-/
import Derived.Test.YtbgnemephcbgeaaMk
import Derived.LaidEql
import Derived.Stop.Asserts
import Derived.RowKitTokens
namespace Go.Proofs.Ytbgnemephcbgeaa
open Go Go.RowKit Go.Extern.Stop Go.Stop Go.Extern

theorem mUnwrap (a : Addr) (w : World) : (Go.method 243 95 (.pointer (some a)) "Unwrap").run Try.prog w = .ok (75, .pointer (some a)) w := by kernel_rfl
theorem unwrapF (v : Value) (xT : TypeId) (w : World) : (Instr.typeAssert (.iface 95 v) xT 106 true).run Try.prog w = .ok (.tuple #[.iface 95 v, .bool true]) w := run_typeAssert_hasB Try.underlying106 (by kernel_rfl) v xT w
theorem typeOfE (v : Value) (w : World) : (ReflectliteType.typeOf #[.iface 23 v]).run Try.prog w = .ok (.iface 101 (.agg #[.pointer (some ⟨1, 23, none⟩)])) w := by kernel_rfl
theorem unwrap_any (a : Nat) (x : ByteArray) (n : Int) (w : World) (h : w.heap[a]? = some (.cells #[.string x, .iface 23 (.int .i64 n)] 97 (0, 0))) :
    Calls Try.prog 75 #[.pointer (some ⟨a, 0, none⟩)] w fun e w' => e = .returned (.iface 23 (.int .i64 n)) ∧ w = w' := by
  have c1 : w.cell? ⟨a, 1, none⟩ = some (.iface 23 (.int .i64 n)) := by simp [World.cell?, h]
  go_enter Try.func75, Try.ntmps75
  go_wp2
  go_ret
  exact ⟨rfl, rfl⟩
def FaultIn (w : World) (ev : Value) (n : Int) : Prop := ∃ a x, ev = .iface 95 (.pointer (some ⟨a, 0, none⟩)) ∧ w.heap[a]? = some (.cells #[.string x, .iface 23 (.int .i64 n)] 97 (0, 0))
theorem FaultIn.below {w w' : World} {ev : Value} {n : Int} (h : FaultIn w ev n) (hb : Below w.heap.size w w') : FaultIn w' ev n := by
  obtain ⟨a, x, e, h⟩ := h
  exact ⟨a, x, e, (hb.block a (lt_heap h)).trans h⟩
theorem mComparable (h : Value) (w : World) : (Go.method 243 101 (.agg #[h]) "Comparable").run Try.prog w = .ok (79, .agg #[h]) w := by kernel_rfl
theorem noIsF (v : Value) (xT : TypeId) (w : World) : (Instr.typeAssert (.iface 95 v) xT 103 true).run Try.prog w = .ok (.tuple #[.nilIface, .bool false]) w := run_typeAssert_lacksB Try.underlying103 (by kernel_rfl) (by kernel_rfl) v xT w
theorem noIsE (v : Value) (xT : TypeId) (w : World) : (Instr.typeAssert (.iface 23 v) xT 103 true).run Try.prog w = .ok (.tuple #[.nilIface, .bool false]) w := run_typeAssert_lacksB Try.underlying103 (by kernel_rfl) (by kernel_rfl) v xT w
theorem noUnwrapE (v : Value) (xT : TypeId) (w : World) : (Instr.typeAssert (.iface 23 v) xT 106 true).run Try.prog w = .ok (.tuple #[.nilIface, .bool false]) w := run_typeAssert_lacksB Try.underlying106 (by kernel_rfl) (by kernel_rfl) v xT w
theorem noUnwrapsE (v : Value) (xT : TypeId) (w : World) : (Instr.typeAssert (.iface 23 v) xT 108 true).run Try.prog w = .ok (.tuple #[.nilIface, .bool false]) w := run_typeAssert_lacksB Try.underlying108 (by kernel_rfl) (by kernel_rfl) v xT w
theorem eqlFE (vx vy : Value) (w : World) : (binOp .eql 35 (.iface 95 vx) (.iface 23 vy)).run Try.prog w = .ok (.bool false) w := run_eql_iface_types _ _ vx vy Try.underlying35 (by decide) w
theorem run_equalIn_iface_int {P : Program} (w : World) (d : Nat) {ti tn : TypeId} {ms : Array (String × TypeId)} {i : TypeInfo} {k : IntKind} (a b : Int)
    (hi : P.underlying ti = some (.interface ms)) (hn : P.underlying tn = some (.int k)) (hinfo : P.info? tn = some i) (hcomp : i.comparable = true) :
    (Op.equalIn (d + 2) ti (.iface tn (.int k a)) (.iface tn (.int k b))).run P w = .ok (a == b) w := by
  simp [Op.equalIn, run_underlying hi, run_underlying hn, typeInfo, hinfo, hcomp]
theorem run_eql_iface_int {P : Program} (w : World) {ti tn : TypeId} {ms : Array (String × TypeId)} {i : TypeInfo} {k : IntKind} (a b : Int)
    (hi : P.underlying ti = some (.interface ms)) (hn : P.underlying tn = some (.int k)) (hinfo : P.info? tn = some i) (hcomp : i.comparable = true) :
    (binOp .eql ti (.iface tn (.int k a)) (.iface tn (.int k b))).run P w = .ok (.bool (a == b)) w := by
  simp only [binOp]
  simp [Op.equal, Op.maxDepth, run_equalIn_iface_int w 9998 a b hi hn hinfo hcomp]
theorem infoErrno : (Try.prog.info? 23).map (·.comparable) = some true := by kernel_rfl
theorem eqlEE (a b : Int) (w : World) : (binOp .eql 35 (.iface 23 (.int .i64 a)) (.iface 23 (.int .i64 b))).run Try.prog w = .ok (.bool (a == b)) w := by
  obtain ⟨i, hi, hc⟩ := Option.map_eq_some_iff.1 infoErrno
  exact run_eql_iface_int w a b Try.underlying35 Try.underlying23 hi hc
theorem comparableE (w : World) : (ReflectliteType.method (fun t => do Rtype.noPackHeld "Comparable" t; (fun a => Value.bool a.comparable) <$> typeInfo t) #[.agg #[.pointer (some ⟨1, 23, none⟩)]]).run Try.prog w = .ok (.bool true) w := by kernel_rfl

theorem eqlNE (w : World) : (binOp .eql 35 .nilIface (.iface 23 (.int .i64 3))).run Try.prog w = .ok (.bool false) w := by kernel_rfl

def BoolPost (b : Bool) (w : World) (e : Ending) (w' : World) : Prop := e = .returned (.bool b) ∧ w = w'

set_option maxHeartbeats 4000000 in
set_option maxRecDepth 100000 in
theorem is_fault (a : Nat) (x : ByteArray) (n : Int) (w : World) (h : w.heap[a]? = some (.cells #[.string x, .iface 23 (.int .i64 n)] 97 (0, 0))) :
    Calls Try.prog 46 #[.iface 95 (.pointer (some ⟨a, 0, none⟩)), .iface 23 (.int .i64 3), .bool true] w (BoolPost (n == 3) w) := by
  have q1 := noIsF; have q2 := noIsE; have q3 := noUnwrapE; have q4 := noUnwrapsE; have q5 := eqlFE; have q6 := mUnwrap; have q7 := unwrapF; have q8 := eqlEE
  go_enter Try.func46, Try.ntmps46
  go_wp2
  refine wp_loop_rounds 2 ?_
  rw [rounds_succ]
  go_wp2_with fail
  refine (unwrap_any a x n _ h).mono ?_
  rintro e w' ⟨rfl, rfl⟩
  go_wp2_with fail
  rw [rounds_succ]
  by_cases hn : n = 3
  · subst hn
    go_wp2_with fail
    go_ret
    exact ⟨rfl, rfl⟩
  · have hb : (n == 3) = false := by simpa using hn
    go_wp2_with fail
    go_ret
    exact ⟨by rw [hb]; rfl, rfl⟩

set_option maxHeartbeats 1000000 in
set_option maxRecDepth 100000 in
theorem errIs_nil (w : World) : Calls Try.prog 32 #[.nilIface, .iface 23 (.int .i64 3)] w (BoolPost false w) := by
  have q1 := eqlNE
  go_enter Try.func32, Try.ntmps32
  go_wp2
  go_ret
  exact ⟨rfl, rfl⟩

set_option maxHeartbeats 1000000 in
set_option maxRecDepth 100000 in
theorem errIs_fault (ev : Value) (n : Int) (w : World) (h : FaultIn w ev n) : Calls Try.prog 32 #[ev, .iface 23 (.int .i64 3)] w (BoolPost (n == 3) w) := by
  obtain ⟨a, x, rfl, h⟩ := h
  have hTO := @run_callFunc_extern Try.prog 45 _ ReflectliteType.typeOf Try.func45 (by kernel_rfl) (by kernel_rfl) (by kernel_rfl) (by kernel_rfl)
  have hCo := @run_callFunc_extern Try.prog 79 _ (ReflectliteType.method (fun t => do Rtype.noPackHeld "Comparable" t; pure (.bool (← typeInfo t).comparable))) Try.func79 (by kernel_rfl) (by kernel_rfl) (by kernel_rfl) (by kernel_rfl)
  have q1 := typeOfE; have q2 := mComparable; have q3 := comparableE
  have hin := is_fault a x n w h
  have Hin := Lib.hid hin; clear hin
  go_enter Try.func32, Try.ntmps32
  go_wp2_with fail
  refine Hin.out.mono ?_
  rintro e w' ⟨rfl, rfl⟩
  go_wp2
  go_ret
  exact ⟨rfl, rfl⟩

set_option maxHeartbeats 1000000 in
set_option maxRecDepth 100000 in
theorem told_fault {w : World} {ev : Value} (h : FaultIn w ev 3) : Calls Try.prog 16 #[ev] w fun e w' => e = .returned (.int .i64 3) ∧ w = w' := by
  have H := Lib.hid (errIs_fault ev 3 w h)
  clear h
  go_enter Try.func16, Try.ntmps16
  go_wp2_with fail
  refine H.out.mono ?_
  rintro e w' ⟨rfl, rfl⟩
  go_wp2
  go_ret
  exact ⟨rfl, rfl⟩
set_option maxHeartbeats 1000000 in
set_option maxRecDepth 100000 in
theorem told_nil (w : World) : Calls Try.prog 16 #[.nilIface] w fun e w' => e = .returned (.int .i64 0) ∧ w = w' := by
  have H := Lib.hid (errIs_nil w)
  go_enter Try.func16, Try.ntmps16
  go_wp2_with fail
  refine H.out.mono ?_
  rintro e w' ⟨rfl, rfl⟩
  go_wp2
  go_ret
  exact ⟨rfl, rfl⟩
theorem wrong_any (s : Bs) (w : World) : Calls Try.prog 40 #[.string ⟨s.toArray⟩] w fun e w' => ∃ ev, e = .returned ev ∧ FaultIn w' ev 3 ∧ Below w.heap.size w w' := by
  have HB := Lib.hid (below_new w (.cells #[.string ⟨s.toArray⟩, .iface 23 (.int .i64 3)] 97))
  have HK : Hid ((w.alloc (.cells #[.string ⟨s.toArray⟩, .iface 23 (.int .i64 3)] 97)).heap[w.heap.size]? = some (.cells #[.string ⟨s.toArray⟩, .iface 23 (.int .i64 3)] 97 (0, 0))) := Lib.hid (heap_alloc_at rfl rfl)
  go_enter Try.func40, Try.ntmps40
  go_wp2
  go_ret
  exact ⟨_, rfl, ⟨_, _, rfl, HK.out⟩, HB.out⟩
end Go.Proofs.Ytbgnemephcbgeaa
