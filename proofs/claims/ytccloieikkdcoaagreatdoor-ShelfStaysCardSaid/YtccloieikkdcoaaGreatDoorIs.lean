/-
  errors.Is at a shelf's error, and the error of a power that is gone.
-/
import Derived.Test.YtccloieikkdcoaaGreatDoorAs
namespace Go.Proofs.YtccloieikkdcoaaGreatDoor
open Go Go.RowKit Go.Extern.Stop Go.Stop Go.Extern

theorem mComparable (h : Value) (w : World) : (Go.method 296 128 (.agg #[h]) "Comparable").run Tryz.prog w = .ok (141, .agg #[h]) w := by kernel_rfl
theorem noIsF (v : Value) (xT : TypeId) (w : World) : (Instr.typeAssert (.iface 89 v) xT 130 true).run Tryz.prog w = .ok (.tuple #[.nilIface, .bool false]) w := run_typeAssert_lacksB Tryz.underlying130 (by kernel_rfl) (by kernel_rfl) v xT w
theorem noIsE (v : Value) (xT : TypeId) (w : World) : (Instr.typeAssert (.iface 35 v) xT 130 true).run Tryz.prog w = .ok (.tuple #[.nilIface, .bool false]) w := run_typeAssert_lacksB Tryz.underlying130 (by kernel_rfl) (by kernel_rfl) v xT w
theorem noUnwrapE (v : Value) (xT : TypeId) (w : World) : (Instr.typeAssert (.iface 35 v) xT 133 true).run Tryz.prog w = .ok (.tuple #[.nilIface, .bool false]) w := run_typeAssert_lacksB Tryz.underlying133 (by kernel_rfl) (by kernel_rfl) v xT w
theorem noUnwrapsE (v : Value) (xT : TypeId) (w : World) : (Instr.typeAssert (.iface 35 v) xT 134 true).run Tryz.prog w = .ok (.tuple #[.nilIface, .bool false]) w := run_typeAssert_lacksB Tryz.underlying134 (by kernel_rfl) (by kernel_rfl) v xT w
theorem eqlFE (vx vy : Value) (w : World) : (binOp .eql 62 (.iface 89 vx) (.iface 35 vy)).run Tryz.prog w = .ok (.bool false) w := run_eql_iface_types _ _ vx vy Tryz.underlying62 (by decide) w
theorem run_equalIn_iface_int {P : Program} (w : World) (d : Nat) {ti tn : TypeId} {ms : Array (String × TypeId)} {i : TypeInfo} {k : IntKind} (a b : Int)
    (hi : P.underlying ti = some (.interface ms)) (hn : P.underlying tn = some (.int k)) (hinfo : P.info? tn = some i) (hcomp : i.comparable = true) :
    (Op.equalIn (d + 2) ti (.iface tn (.int k a)) (.iface tn (.int k b))).run P w = .ok (a == b) w := by
  simp [Op.equalIn, run_underlying hi, run_underlying hn, typeInfo, hinfo, hcomp]
theorem run_eql_iface_int {P : Program} (w : World) {ti tn : TypeId} {ms : Array (String × TypeId)} {i : TypeInfo} {k : IntKind} (a b : Int)
    (hi : P.underlying ti = some (.interface ms)) (hn : P.underlying tn = some (.int k)) (hinfo : P.info? tn = some i) (hcomp : i.comparable = true) :
    (binOp .eql ti (.iface tn (.int k a)) (.iface tn (.int k b))).run P w = .ok (.bool (a == b)) w := by
  simp only [binOp]
  simp [Op.equal, Op.maxDepth, run_equalIn_iface_int w 9998 a b hi hn hinfo hcomp]
theorem infoErrno : (Tryz.prog.info? 35).map (·.comparable) = some true := by kernel_rfl
theorem eqlEE (a b : Int) (w : World) : (binOp .eql 62 (.iface 35 (.int .i64 a)) (.iface 35 (.int .i64 b))).run Tryz.prog w = .ok (.bool (a == b)) w := by
  obtain ⟨i, hi, hc⟩ := Option.map_eq_some_iff.1 infoErrno
  exact run_eql_iface_int w a b Tryz.underlying62 Tryz.underlying35 hi hc
theorem comparableE (w : World) : (ReflectliteType.method (fun t => do Rtype.noPackHeld "Comparable" t; (fun a => Value.bool a.comparable) <$> typeInfo t) #[.agg #[.pointer (some ⟨2, 35, none⟩)]]).run Tryz.prog w = .ok (.bool true) w := by kernel_rfl

theorem eqlNE (w : World) : (binOp .eql 62 .nilIface (.iface 35 (.int .i64 13))).run Tryz.prog w = .ok (.bool false) w := by kernel_rfl

def BoolPost (b : Bool) (w : World) (e : Ending) (w' : World) : Prop := e = .returned (.bool b) ∧ w = w'

set_option maxHeartbeats 4000000 in
set_option maxRecDepth 100000 in
theorem is_fault (a : Nat) (x : ByteArray) (n : Int) (w : World) (h : w.heap[a]? = some (.cells #[.string x, .iface 35 (.int .i64 n)] 91 (0, 0))) :
    Calls Tryz.prog 81 #[.iface 89 (.pointer (some ⟨a, 0, none⟩)), .iface 35 (.int .i64 13), .bool true] w (BoolPost (n == 13) w) := by
  have q1 := noIsF; have q2 := noIsE; have q3 := noUnwrapE; have q4 := noUnwrapsE; have q5 := eqlFE; have q6 := mUnwrap; have q7 := unwrapF; have q8 := eqlEE
  go_enter Tryz.func81, Tryz.ntmps81
  go_wp2
  refine wp_loop_rounds 2 ?_
  rw [rounds_succ]
  go_wp2_with fail
  refine (unwrap_any a x n _ h).mono ?_
  rintro e w' ⟨rfl, rfl⟩
  go_wp2_with fail
  rw [rounds_succ]
  by_cases hn : n = 13
  · subst hn
    go_wp2_with fail
    go_ret
    exact ⟨rfl, rfl⟩
  · have hb : (n == 13) = false := by simpa using hn
    go_wp2_with fail
    go_ret
    exact ⟨by rw [hb]; rfl, rfl⟩

set_option maxHeartbeats 1000000 in
set_option maxRecDepth 100000 in
theorem errIs_nil (w : World) : Calls Tryz.prog 68 #[.nilIface, .iface 35 (.int .i64 13)] w (BoolPost false w) := by
  have q1 := eqlNE
  go_enter Tryz.func68, Tryz.ntmps68
  go_wp2
  go_ret
  exact ⟨rfl, rfl⟩

set_option maxHeartbeats 1000000 in
set_option maxRecDepth 100000 in
theorem errIs_fault (ev : Value) (n : Int) (w : World) (h : FaultIn w ev n) : Calls Tryz.prog 68 #[ev, .iface 35 (.int .i64 13)] w (BoolPost (n == 13) w) := by
  obtain ⟨a, x, rfl, h⟩ := h
  have hTO := @run_callFunc_extern Tryz.prog 80 _ ReflectliteType.typeOf Tryz.func80 (by kernel_rfl) (by kernel_rfl) (by kernel_rfl) (by kernel_rfl)
  have hCo := @run_callFunc_extern Tryz.prog 141 _ (ReflectliteType.method (fun t => do Rtype.noPackHeld "Comparable" t; pure (.bool (← typeInfo t).comparable))) Tryz.func141 (by kernel_rfl) (by kernel_rfl) (by kernel_rfl) (by kernel_rfl)
  have q1 := typeOfE; have q2 := mComparable; have q3 := comparableE
  have hin := is_fault a x n w h
  have Hin := Lib.hid hin; clear hin
  go_enter Tryz.func68, Tryz.ntmps68
  go_wp2_with fail
  refine Hin.out.mono ?_
  rintro e w' ⟨rfl, rfl⟩
  go_wp2
  go_ret
  exact ⟨rfl, rfl⟩
end Go.Proofs.YtccloieikkdcoaaGreatDoor
