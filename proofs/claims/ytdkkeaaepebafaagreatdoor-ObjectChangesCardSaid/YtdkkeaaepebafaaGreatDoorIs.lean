/-
  errors.Is at a fault, made of errWrong or of errOther.
-/
import Derived.Test.YtdkkeaaepebafaaGreatDoorCheck
import Derived.LaidEql
import Derived.Stop.Asserts
namespace Go.Proofs.YtdkkeaaepebafaaGreatDoor
open Go Go.RowKit Go.Extern.Stop Go.Stop Go.Extern

/-- The blocks that errWrong and errOther point to are two. -/
structure Eb (w : World) : Prop where
  er : Er w
  blk : ∃ a b : Addr, ∃ ca cb : Array Value, ∃ ta tb, a ≠ b ∧ w.cell? ⟨1, 0, none⟩ = some (.iface 240 (.pointer (some a))) ∧ w.cell? ⟨3, 0, none⟩ = some (.iface 240 (.pointer (some b)))
    ∧ w.heap[a.block]? = some (.cells ca ta (0, 0)) ∧ w.heap[b.block]? = some (.cells cb tb (0, 0))
theorem Eb.below {w w' : World} (h : Eb w) (hb : Below w.heap.size w w') : Eb w' := by
  obtain ⟨h1, a, b, ca, cb, ta, tb, hab, h2, h3, h4, h5⟩ := h
  exact ⟨h1.below hb, a, b, ca, cb, ta, tb, hab, cell_to h2 hb, cell_to h3 hb, (hb.block _ (lt_heap h4)).trans h4, (hb.block _ (lt_heap h5)).trans h5⟩

theorem mUnwrap (a : Addr) (w : World) : (Go.method 369 92 (.pointer (some a)) "Unwrap").run Tryz.prog w = .ok (205, .pointer (some a)) w := by kernel_rfl
theorem mComparable (h : Value) (w : World) : (Go.method 369 154 (.agg #[h]) "Comparable").run Tryz.prog w = .ok (212, .agg #[h]) w := by kernel_rfl
theorem unwrapF (v : Value) (xT : TypeId) (w : World) : (Instr.typeAssert (.iface 92 v) xT 162 true).run Tryz.prog w = .ok (.tuple #[.iface 92 v, .bool true]) w := run_typeAssert_hasB Tryz.underlying162 (by kernel_rfl) v xT w
theorem noIsF (v : Value) (xT : TypeId) (w : World) : (Instr.typeAssert (.iface 92 v) xT 190 true).run Tryz.prog w = .ok (.tuple #[.nilIface, .bool false]) w := run_typeAssert_lacksB Tryz.underlying190 (by kernel_rfl) (by kernel_rfl) v xT w
theorem noIsE (v : Value) (xT : TypeId) (w : World) : (Instr.typeAssert (.iface 240 v) xT 190 true).run Tryz.prog w = .ok (.tuple #[.nilIface, .bool false]) w := run_typeAssert_lacksB Tryz.underlying190 (by kernel_rfl) (by kernel_rfl) v xT w
theorem noUnwrapE (v : Value) (xT : TypeId) (w : World) : (Instr.typeAssert (.iface 240 v) xT 162 true).run Tryz.prog w = .ok (.tuple #[.nilIface, .bool false]) w := run_typeAssert_lacksB Tryz.underlying162 (by kernel_rfl) (by kernel_rfl) v xT w
theorem noUnwrapsE (v : Value) (xT : TypeId) (w : World) : (Instr.typeAssert (.iface 240 v) xT 164 true).run Tryz.prog w = .ok (.tuple #[.nilIface, .bool false]) w := run_typeAssert_lacksB Tryz.underlying164 (by kernel_rfl) (by kernel_rfl) v xT w
theorem eqlFE (vx vy : Value) (w : World) : (binOp .eql 66 (.iface 92 vx) (.iface 240 vy)).run Tryz.prog w = .ok (.bool false) w := run_eql_iface_types _ _ vx vy Tryz.underlying66 (by decide) w
theorem infoPS : (Tryz.prog.info? 240).map (·.comparable) = some true := by kernel_rfl
theorem infoS : (Tryz.prog.info? 259).map (fun i => decide (i.size ≠ 0)) = some true := by kernel_rfl
theorem eqlSame (a : Addr) (w : World) : (binOp .eql 66 (.iface 240 (.pointer (some a))) (.iface 240 (.pointer (some a)))).run Tryz.prog w = .ok (.bool true) w := by
  obtain ⟨i, hi, hc⟩ := Option.map_eq_some_iff.1 infoPS
  obtain ⟨j, hj, _⟩ := Option.map_eq_some_iff.1 infoS
  exact run_eql_iface_ptr_same w a Tryz.underlying66 Tryz.underlying240 hi hc hj
theorem eqlOther {a b : Addr} {ca cb : Array Value} {ta tb : TypeId} (w : World) (hne : a ≠ b) (ha : w.heap[a.block]? = some (.cells ca ta (0, 0))) (hb : w.heap[b.block]? = some (.cells cb tb (0, 0))) :
    (binOp .eql 66 (.iface 240 (.pointer (some a))) (.iface 240 (.pointer (some b)))).run Tryz.prog w = .ok (.bool false) w := by
  obtain ⟨i, hi, hc⟩ := Option.map_eq_some_iff.1 infoPS
  obtain ⟨j, hj, hs⟩ := Option.map_eq_some_iff.1 infoS
  exact run_eql_iface_ptr_other w Tryz.underlying66 Tryz.underlying240 hi hc hj (of_decide_eq_true hs) hne ha hb
theorem eqlNil (v : Value) (w : World) : (binOp .eql 66 .nilIface (.iface 240 v)).run Tryz.prog w = .ok (.bool false) w := run_eql_iface_nil_left w _ v Tryz.underlying66
theorem typeOfE (v : Value) (w : World) : (ReflectliteType.typeOf #[.iface 240 v]).run Tryz.prog w = .ok (.iface 154 (.agg #[.pointer (some ⟨11, 240, none⟩)])) w := by kernel_rfl
theorem comparableE (w : World) : (ReflectliteType.method (fun t => do Rtype.noPackHeld "Comparable" t; (fun a => Value.bool a.comparable) <$> typeInfo t) #[.agg #[.pointer (some ⟨11, 240, none⟩)]]).run Tryz.prog w = .ok (.bool true) w := by kernel_rfl

theorem unwrap_any (a : Nat) (x : ByteArray) (p : Value) (w : World) (h : w.heap[a]? = some (.cells #[.string x, .iface 240 p] 97 (0, 0))) :
    Calls Tryz.prog 205 #[.pointer (some ⟨a, 0, none⟩)] w fun e w' => e = .returned (.iface 240 p) ∧ w = w' := by
  have c1 : w.cell? ⟨a, 1, none⟩ = some (.iface 240 p) := by simp [World.cell?, h]
  go_enter Tryz.func205, Tryz.ntmps205
  go_wp2
  go_ret
  exact ⟨rfl, rfl⟩

def BoolPost (b : Bool) (w : World) (e : Ending) (w' : World) : Prop := e = .returned (.bool b) ∧ w = w'
set_option maxHeartbeats 4000000 in
set_option maxRecDepth 100000 in
theorem is_same (a : Nat) (b : Addr) (x : ByteArray) (w : World) (h : w.heap[a]? = some (.cells #[.string x, .iface 240 (.pointer (some b))] 97 (0, 0))) :
    Calls Tryz.prog 127 #[.iface 92 (.pointer (some ⟨a, 0, none⟩)), .iface 240 (.pointer (some b)), .bool true] w (BoolPost true w) := by
  have q1 := noIsF; have q2 := noIsE; have q3 := noUnwrapE; have q4 := noUnwrapsE; have q5 := eqlFE; have q6 := mUnwrap; have q7 := unwrapF; have q8 := eqlSame b
  go_enter Tryz.func127, Tryz.ntmps127
  go_wp2
  refine wp_loop_rounds 2 ?_
  rw [rounds_succ]
  go_wp2_with fail
  refine (unwrap_any a x _ _ h).mono ?_
  rintro e w' ⟨rfl, rfl⟩
  go_wp2_with fail
  rw [rounds_succ]
  go_wp2_with fail
  go_ret
  exact ⟨rfl, rfl⟩
set_option maxHeartbeats 4000000 in
set_option maxRecDepth 100000 in
theorem is_other (a : Nat) (b c : Addr) (x : ByteArray) (w : World) (h : w.heap[a]? = some (.cells #[.string x, .iface 240 (.pointer (some c))] 97 (0, 0)))
    {cc cb : Array Value} {tc tb : TypeId} (hne : c ≠ b) (hc : w.heap[c.block]? = some (.cells cc tc (0, 0))) (hb : w.heap[b.block]? = some (.cells cb tb (0, 0))) :
    Calls Tryz.prog 127 #[.iface 92 (.pointer (some ⟨a, 0, none⟩)), .iface 240 (.pointer (some b)), .bool true] w (BoolPost false w) := by
  have q1 := noIsF; have q2 := noIsE; have q3 := noUnwrapE; have q4 := noUnwrapsE; have q5 := eqlFE; have q6 := mUnwrap; have q7 := unwrapF; have q8 := eqlOther w hne hc hb
  clear hne hc hb
  go_enter Tryz.func127, Tryz.ntmps127
  go_wp2
  refine wp_loop_rounds 2 ?_
  rw [rounds_succ]
  go_wp2_with fail
  refine (unwrap_any a x _ _ h).mono ?_
  rintro e w' ⟨rfl, rfl⟩
  go_wp2_with fail
  rw [rounds_succ]
  go_wp2_with fail
  go_ret
  exact ⟨rfl, rfl⟩

set_option maxHeartbeats 1000000 in
set_option maxRecDepth 100000 in
theorem errIs_nil (v : Value) (w : World) : Calls Tryz.prog 101 #[.nilIface, .iface 240 v] w (BoolPost false w) := by
  have q1 := eqlNil
  go_enter Tryz.func101, Tryz.ntmps101
  go_wp2
  go_ret
  exact ⟨rfl, rfl⟩
set_option maxHeartbeats 1000000 in
set_option maxRecDepth 100000 in
theorem errIs_of (a : Nat) (b : Addr) (r : Bool) (w : World) (h : Calls Tryz.prog 127 #[.iface 92 (.pointer (some ⟨a, 0, none⟩)), .iface 240 (.pointer (some b)), .bool true] w (BoolPost r w)) :
    Calls Tryz.prog 101 #[.iface 92 (.pointer (some ⟨a, 0, none⟩)), .iface 240 (.pointer (some b))] w (BoolPost r w) := by
  have hTO := @run_callFunc_extern Tryz.prog 108 _ ReflectliteType.typeOf Tryz.func108 (by kernel_rfl) (by kernel_rfl) (by kernel_rfl) (by kernel_rfl)
  have hCo := @run_callFunc_extern Tryz.prog 212 _ (ReflectliteType.method (fun t => do Rtype.noPackHeld "Comparable" t; pure (.bool (← typeInfo t).comparable))) Tryz.func212 (by kernel_rfl) (by kernel_rfl) (by kernel_rfl) (by kernel_rfl)
  have q1 := typeOfE; have q2 := mComparable; have q3 := comparableE
  have Hin := Lib.hid h; clear h
  go_enter Tryz.func101, Tryz.ntmps101
  go_wp2_with fail
  refine Hin.out.mono ?_
  rintro e w' ⟨rfl, rfl⟩
  go_wp2
  go_ret
  exact ⟨rfl, rfl⟩
end Go.Proofs.YtdkkeaaepebafaaGreatDoor
