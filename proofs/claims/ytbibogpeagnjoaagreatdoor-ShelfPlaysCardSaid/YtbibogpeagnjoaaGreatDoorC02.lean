/-
  errors.As and errors.Is at the shelf's errors: told. (After the kit's worked example of errors.As.)
  errors.As at a shelf's error: told.
  The shelf's small methods: power, burn, table.size, what is told of a path in a map.
  table.size: how many bytes all files have, in whatever order the map tells them.
  mayWrite, there: whether a path may be written, whether it is there.
-/
import Derived.LaidEql
import Derived.Stop.Asserts
import Derived.RowKitTokens
import Derived.Test.YtbibogpeagnjoaaGreatDoorC01
import Derived.Maps.RangeWalk
import Derived.WalkSmall
import Derived.Deep.RegionHeld3

namespace Go.Proofs.YtbibogpeagnjoaaGreatDoor
open Go Go.RowKit Go.Extern.Stop Go.Stop Go.Extern

/-- What the program's text lays in errors.errorType. -/
def Et (w : World) : Prop := w.cell? ⟨0, 0, none⟩ = some (.iface 125 (.agg #[.pointer (some ⟨2, 56, none⟩)]))

theorem rlm (z : Sem Value) (f : TypeId → Addr → Nat → Nat → Sem Value) (v : Value) :
    ReflectliteValue.method z f #[v] = (do match ← ReflectliteValue.parts v with | none => z | some (t, a, fl) => f t a fl (fl % 32)) := rfl

theorem valueOfP (t : Addr) (w : World) : (ReflectliteValue.unpack (.iface 103 (.pointer (some t)))).run Tryz.prog w
    = .ok (.agg #[.pointer (some ⟨2, 103, none⟩), .pointer (some ⟨w.heap.size, 0, none⟩), .int .u64 150]) (w.alloc (.cells #[.pointer (some t)] 103)) := by kernel_rfl
theorem typeP (a : Addr) (w : World) : (ReflectliteValue.methodAny (ReflectliteValue.valueError "reflectlite.Value.Type" 0) (fun t _ _ _ => ReflectliteType.toType t) #[.agg #[.pointer (some ⟨2, 103, none⟩), .pointer (some a), .int .u64 150]]).run Tryz.prog w
    = .ok (.iface 125 (.agg #[.pointer (some ⟨2, 103, none⟩)])) w := by kernel_rfl
theorem kindP (w : World) : ((ReflectliteType.abiMethod fun t => (fun a : Nat => Value.int IntKind.u8 (a : Int)) <$> Rtype.kind t) #[.pointer (some ⟨2, 103, none⟩)]).run Tryz.prog w = .ok (.int .u8 22) w := by kernel_rfl
theorem kindE (w : World) : ((ReflectliteType.abiMethod fun t => (fun a : Nat => Value.int IntKind.u8 (a : Int)) <$> Rtype.kind t) #[.pointer (some ⟨2, 35, none⟩)]).run Tryz.prog w = .ok (.int .u8 2) w := by kernel_rfl
theorem partsP (a : Addr) (w : World) : (ReflectliteValue.parts (.agg #[.pointer (some ⟨2, 103, none⟩), .pointer (some a), .int .u64 150])).run Tryz.prog w = .ok (some (103, a, 150)) w := by kernel_rfl
theorem isNilP (a p : Addr) (W : World) (ha : W.cell? a = some (.pointer (some p))) :
    (ReflectliteValue.method (ReflectliteValue.valueError "reflectlite.Value.IsNil" 0) ReflectliteValue.isNil #[.agg #[.pointer (some ⟨2, 103, none⟩), .pointer (some a), .int .u64 150]]).run Tryz.prog W = .ok (.bool false) W := by
  rw [rlm]
  simp only [Sem.run_bind, partsP, Result.andThen]
  simp [ReflectliteValue.isNil, loadVar, isAgg, underlying, Tryz.underlying103, ha, Result.andThen]
theorem elemP (w : World) : (ReflectliteType.method ReflectliteType.elem #[.agg #[.pointer (some ⟨2, 103, none⟩)]]).run Tryz.prog w = .ok (.iface 125 (.agg #[.pointer (some ⟨2, 35, none⟩)])) w := by kernel_rfl
theorem implementsE (w : World) : (ReflectliteType.relation "Implements" ReflectliteType.implements_ #[.agg #[.pointer (some ⟨2, 35, none⟩)], .iface 125 (.agg #[.pointer (some ⟨2, 56, none⟩)])]).run Tryz.prog w = .ok (.bool true) w := by kernel_rfl
theorem typeOfF (v : Value) (w : World) : (ReflectliteType.typeOf #[.iface 85 v]).run Tryz.prog w = .ok (.iface 125 (.agg #[.pointer (some ⟨2, 85, none⟩)])) w := by kernel_rfl
theorem typeOfE (v : Value) (w : World) : (ReflectliteType.typeOf #[.iface 35 v]).run Tryz.prog w = .ok (.iface 125 (.agg #[.pointer (some ⟨2, 35, none⟩)])) w := by kernel_rfl
theorem assignF (w : World) : (ReflectliteType.relation "AssignableTo" ReflectliteType.assignableTo #[.agg #[.pointer (some ⟨2, 85, none⟩)], .iface 125 (.agg #[.pointer (some ⟨2, 35, none⟩)])]).run Tryz.prog w = .ok (.bool false) w := by kernel_rfl
theorem assignE (w : World) : (ReflectliteType.relation "AssignableTo" ReflectliteType.assignableTo #[.agg #[.pointer (some ⟨2, 35, none⟩)], .iface 125 (.agg #[.pointer (some ⟨2, 35, none⟩)])]).run Tryz.prog w = .ok (.bool true) w := by kernel_rfl
theorem valueOfE (n : Int) (w : World) : (ReflectliteValue.unpack (.iface 35 (.int .i64 n))).run Tryz.prog w
    = .ok (.agg #[.pointer (some ⟨2, 35, none⟩), .pointer (some ⟨w.heap.size, 0, none⟩), .int .u64 130]) (w.alloc (.cells #[.int .i64 n] 35)) := by kernel_rfl
theorem elemOfP (w : World) : (Rtype.elem? 103).run Tryz.prog w = .ok (some 35) w := by kernel_rfl
theorem mkE (p : Addr) (w : World) : (ReflectliteValue.mk 35 p ReflectliteValue.flagAddr).run Tryz.prog w = .ok (.agg #[.pointer (some ⟨2, 35, none⟩), .pointer (some p), .int .u64 386]) w := by kernel_rfl
theorem elemVP (a p : Addr) (W : World) (ha : W.cell? a = some (.pointer (some p))) :
    (ReflectliteValue.method (ReflectliteValue.valueError "reflectlite.Value.Elem" 0) ReflectliteValue.elem #[.agg #[.pointer (some ⟨2, 103, none⟩), .pointer (some a), .int .u64 150]]).run Tryz.prog W
      = .ok (.agg #[.pointer (some ⟨2, 35, none⟩), .pointer (some p), .int .u64 386]) W := by
  rw [rlm]
  simp only [Sem.run_bind, partsP, Result.andThen]
  simp [ReflectliteValue.elem, loadVar, isAgg, underlying, Tryz.underlying103, ha, Result.andThen, elemOfP, mkE]
theorem rls (v x : Value) : ReflectliteValue.set #[v, x] = (do
    let (some (dst, a, fl), some (src, b, _)) := (← ReflectliteValue.parts v, ← ReflectliteValue.parts x)
      | unsupported (.noEntry "extern/(internal/reflectlite.Value).Set.zeroValue")
    if fl / ReflectliteValue.flagAddr % 2 == 0 then unsupported (.noEntry "extern/(internal/reflectlite.Value).Set.unaddressable")
    let val ← loadVar src b
    if ← Rtype.directlyAssignable dst src then storeVar dst a val
    else if ← Rtype.implements dst src then
      if (← Rtype.kind src) == 20 then
        match val with
        | .nilIface => unsupported (.noEntry "extern/reflectlite: a nil value of one interface type handed on as a value of another")
        | _ => storeVar dst a val
      else storeVar dst a (.iface src val)
    else panicString ("reflectlite.Set: value of type " ++ (← Rtype.spelt src) ++ " is not assignable to type " ++ (← Rtype.spelt dst))
    pure (.tuple #[])) := rfl
theorem partsEa (a : Addr) (w : World) : (ReflectliteValue.parts (.agg #[.pointer (some ⟨2, 35, none⟩), .pointer (some a), .int .u64 386])).run Tryz.prog w = .ok (some (35, a, 386)) w := by kernel_rfl
theorem partsE (a : Addr) (w : World) : (ReflectliteValue.parts (.agg #[.pointer (some ⟨2, 35, none⟩), .pointer (some a), .int .u64 130])).run Tryz.prog w = .ok (some (35, a, 130)) w := by kernel_rfl
theorem directE (w : World) : (Rtype.directlyAssignable 35 35).run Tryz.prog w = .ok true w := by kernel_rfl
theorem setE (ta b : Addr) (n : Int) (old : Value) (W : World) (hb : W.cell? b = some (.int .i64 n)) (ht : W.cell? ta = some old) (hf : W.frozen? ta = false) :
    (ReflectliteValue.set #[.agg #[.pointer (some ⟨2, 35, none⟩), .pointer (some ta), .int .u64 386], .agg #[.pointer (some ⟨2, 35, none⟩), .pointer (some b), .int .u64 130]]).run Tryz.prog W
      = .ok (.tuple #[]) (W.setCell ta (.int .i64 n)) := by
  rw [rls]
  simp only [Sem.run_bind, partsEa, partsE, Result.andThen]
  simp [ReflectliteValue.flagAddr, loadVar, isAgg, underlying, Tryz.underlying35, hb, Result.andThen, directE, storeVar, Value.cells, storeCells, Addr.add]
  rw [run_store Tryz.prog W ta _ _ (by rfl)]
  simp [ht, hf]

theorem as_nil (t : Value) (w : World) : Calls Tryz.prog 71 #[.nilIface, t] w fun e w' => e = .returned (.bool false) ∧ w' = w := by
  go_enter Tryz.func71, Tryz.ntmps71
  go_wp2
  go_ret
  exact ⟨rfl, rfl⟩
end Go.Proofs.YtbibogpeagnjoaaGreatDoor


namespace Go.Proofs.YtbibogpeagnjoaaGreatDoor
open Go Go.RowKit Go.Extern.Stop Go.Stop Go.Extern

theorem mAssign (h : Value) (w : World) : (Go.method 293 125 (.agg #[h]) "AssignableTo").run Tryz.prog w = .ok (136, .agg #[h]) w := by kernel_rfl
theorem mUnwrap (a : Addr) (w : World) : (Go.method 293 85 (.pointer (some a)) "Unwrap").run Tryz.prog w = .ok (131, .pointer (some a)) w := by kernel_rfl
theorem mKind (h : Value) (w : World) : (Go.method 293 125 (.agg #[h]) "Kind").run Tryz.prog w = .ok (126, h) w := by kernel_rfl
theorem mElem (h : Value) (w : World) : (Go.method 293 125 (.agg #[h]) "Elem").run Tryz.prog w = .ok (138, .agg #[h]) w := by kernel_rfl
theorem mImplements (h : Value) (w : World) : (Go.method 293 125 (.agg #[h]) "Implements").run Tryz.prog w = .ok (139, .agg #[h]) w := by kernel_rfl
theorem noAsF (v : Value) (xT : TypeId) (w : World) : (Instr.typeAssert (.iface 85 v) xT 136 true).run Tryz.prog w = .ok (.tuple #[.nilIface, .bool false]) w := run_typeAssert_lacksB Tryz.underlying136 (by kernel_rfl) (by kernel_rfl) v xT w
theorem unwrapF (v : Value) (xT : TypeId) (w : World) : (Instr.typeAssert (.iface 85 v) xT 130 true).run Tryz.prog w = .ok (.tuple #[.iface 85 v, .bool true]) w := run_typeAssert_hasB Tryz.underlying130 (by kernel_rfl) v xT w

/-- (*fault).Unwrap. -/
theorem unwrap_any (a : Nat) (x : ByteArray) (n : Int) (w : World) (h : w.heap[a]? = some (.cells #[.string x, .iface 35 (.int .i64 n)] 87 (0, 0))) :
    Calls Tryz.prog 131 #[.pointer (some ⟨a, 0, none⟩)] w fun e w' => e = .returned (.iface 35 (.int .i64 n)) ∧ w = w' := by
  have c1 : w.cell? ⟨a, 1, none⟩ = some (.iface 35 (.int .i64 n)) := by simp [World.cell?, h]
  go_enter Tryz.func131, Tryz.ntmps131
  go_wp2
  go_ret
  exact ⟨rfl, rfl⟩

/-- What errors.as at a fault comes to. -/
def AsPost (t : Addr) (n : Int) (w : World) (e : Ending) (w' : World) : Prop := e = .returned (.bool true) ∧ w.grownBy w' (some t.block) ∧ w'.cell? t = some (.int .i64 n)

theorem grown_trans {a b c : World} {row : Option Nat} (h : a.grownBy b row) (k : b.grownBy c row) : a.grownBy c row :=
  ⟨k.os.trans h.os, k.tape.trans h.tape, k.output.trans h.output, Nat.le_trans h.size k.size, fun i hi hr => (k.block i (Nat.lt_of_lt_of_le hi h.size) hr).trans (h.block i hi hr)⟩

theorem below_grown_new {w w' : World} {o : Obj} (hg : (w.alloc o).grownBy w' (some w.heap.size)) : Below w.heap.size w w' :=
  (below_alloc w o).grown hg (by simp) (fun k hk => by cases hk; exact Nat.le_refl _)

theorem grown_setCell (w : World) (t : Addr) (u : Value) : w.grownBy (w.setCell t u) (some t.block) :=
  ⟨rfl, rfl, rfl, by simp [World.setCell], fun k _ hk => Below.heap_setCell _ _ _ _ (fun e => hk (by rw [e]))⟩

set_option maxHeartbeats 4000000 in
set_option maxRecDepth 100000 in
theorem as_fault (a : Nat) (x : ByteArray) (n : Int) (t v : Addr) (old : Value) (w : World) (h : w.heap[a]? = some (.cells #[.string x, .iface 35 (.int .i64 n)] 87 (0, 0)))
    (hv : w.cell? v = some (.pointer (some t))) (ht : w.cell? t = some old) (hf : w.frozen? t = false) :
    Calls Tryz.prog 81 #[.iface 85 (.pointer (some ⟨a, 0, none⟩)), .iface 103 (.pointer (some t)), .agg #[.pointer (some ⟨2, 103, none⟩), .pointer (some v), .int .u64 150], .iface 125 (.agg #[.pointer (some ⟨2, 35, none⟩)])] w (AsPost t n w) := by
  have hTO := @run_callFunc_extern Tryz.prog 76 _ ReflectliteType.typeOf Tryz.func76 (by kernel_rfl) (by kernel_rfl) (by kernel_rfl) (by kernel_rfl)
  have hVO := @run_callFunc_extern Tryz.prog 78 _ (fun args => ReflectliteValue.unpack (args.getD 0 (.tuple #[]))) Tryz.func78 (by kernel_rfl) (by kernel_rfl) (by kernel_rfl) (by kernel_rfl)
  have hAT := @run_callFunc_extern Tryz.prog 136 _ (ReflectliteType.relation "AssignableTo" ReflectliteType.assignableTo) Tryz.func136 (by kernel_rfl) (by kernel_rfl) (by kernel_rfl) (by kernel_rfl)
  have hEl := @run_callFunc_extern Tryz.prog 86 _ (ReflectliteValue.method (ReflectliteValue.valueError "reflectlite.Value.Elem" 0) ReflectliteValue.elem) Tryz.func86 (by kernel_rfl) (by kernel_rfl) (by kernel_rfl) (by kernel_rfl)
  have hSe := @run_callFunc_extern Tryz.prog 87 _ ReflectliteValue.set Tryz.func87 (by kernel_rfl) (by kernel_rfl) (by kernel_rfl) (by kernel_rfl)
  have q1 := typeOfF; have q2 := typeOfE; have q3 := assignF; have q4 := assignE; have q5 := valueOfE; have q6 := mAssign; have q7 := noAsF; have q8 := unwrapF; have q9 := mUnwrap
  have hvl := World.block_lt_of_cell? w v hv
  have htl := World.block_lt_of_cell? w t ht
  have hal := lt_of_block h
  have el := elemVP v t (w.alloc (.cells #[.pointer (some ⟨2, 103, none⟩), .pointer (some v), .int .u64 150] 112)) (by rw [World.cell?_alloc_lt _ _ v hvl]; exact hv)
  have st := setE t ⟨w.heap.size + 1, 0, none⟩ n old ((w.alloc (.cells #[.pointer (some ⟨2, 103, none⟩), .pointer (some v), .int .u64 150] 112)).alloc (.cells #[.int .i64 n] 35))
    (by rw [World.cell?_alloc_at _ _ _ _ (by simp)]; rfl)
    (by rw [World.cell?_alloc_lt _ _ t (by simp; omega), World.cell?_alloc_lt _ _ t htl]; exact ht)
    (by rw [World.frozen?_alloc_old _ _ t (by simp; omega), World.frozen?_alloc_old _ _ t (Nat.ne_of_lt htl)]; exact hf)
  go_enter Tryz.func81, Tryz.ntmps81
  go_wp2
  refine wp_loop_rounds 2 ?_
  rw [rounds_succ]
  go_wp2_with fail
  refine (unwrap_any a x n _ ?hb).mono ?_
  case hb => rw [Below.heap_alloc _ _ a (lt_of_block h)]; exact h
  rintro e w' ⟨rfl, rfl⟩
  go_wp2_with fail
  rw [rounds_succ]
  go_wp2_with fail
  go_ret
  refine ⟨rfl, grown_trans (grown_trans (World.grownBy_alloc _ _ _) (World.grownBy_alloc _ _ _)) (grown_setCell _ _ _), World.cell?_setCell_same _ _ _ (u := old) ?_⟩
  rw [World.cell?_alloc_lt _ _ t (by simp; omega), World.cell?_alloc_lt _ _ t htl, ht]

set_option maxHeartbeats 4000000 in
set_option maxRecDepth 100000 in
theorem errAs_fault (a : Nat) (x : ByteArray) (n : Int) (t : Addr) (old : Value) (w : World) (h : w.heap[a]? = some (.cells #[.string x, .iface 35 (.int .i64 n)] 87 (0, 0)))
    (het : Et w) (ht : w.cell? t = some old) (hf : w.frozen? t = false) :
    Calls Tryz.prog 71 #[.iface 85 (.pointer (some ⟨a, 0, none⟩)), .iface 103 (.pointer (some t))] w (AsPost t n w) := by
  have hVO := @run_callFunc_extern Tryz.prog 78 _ (fun args => ReflectliteValue.unpack (args.getD 0 (.tuple #[]))) Tryz.func78 (by kernel_rfl) (by kernel_rfl) (by kernel_rfl) (by kernel_rfl)
  have hVT := @run_callFunc_extern Tryz.prog 79 _ (ReflectliteValue.methodAny (ReflectliteValue.valueError "reflectlite.Value.Type" 0) (fun t _ _ _ => ReflectliteType.toType t)) Tryz.func79 (by kernel_rfl) (by kernel_rfl) (by kernel_rfl) (by kernel_rfl)
  have hIN := @run_callFunc_extern Tryz.prog 80 _ (ReflectliteValue.method (ReflectliteValue.valueError "reflectlite.Value.IsNil" 0) ReflectliteValue.isNil) Tryz.func80 (by kernel_rfl) (by kernel_rfl) (by kernel_rfl) (by kernel_rfl)
  have hKi := @run_callFunc_extern Tryz.prog 126 _ (ReflectliteType.abiMethod fun t => do pure (.int .u8 (← Rtype.kind t))) Tryz.func126 (by kernel_rfl) (by kernel_rfl) (by kernel_rfl) (by kernel_rfl)
  have hTE := @run_callFunc_extern Tryz.prog 138 _ (ReflectliteType.method ReflectliteType.elem) Tryz.func138 (by kernel_rfl) (by kernel_rfl) (by kernel_rfl) (by kernel_rfl)
  have hTI := @run_callFunc_extern Tryz.prog 139 _ (ReflectliteType.relation "Implements" ReflectliteType.implements_) Tryz.func139 (by kernel_rfl) (by kernel_rfl) (by kernel_rfl) (by kernel_rfl)
  have htl := World.block_lt_of_cell? w t ht
  have hal := lt_of_block h
  have hgl := World.block_lt_of_cell? w ⟨0, 0, none⟩ het
  have q1 := valueOfP; have q2 := typeP; have q3 := kindP; have q4 := kindE; have q5 := elemP; have q6 := implementsE; have q7 := mKind; have q8 := mElem; have q9 := mImplements
  have n8 := isNilP ⟨w.heap.size, 0, none⟩ t ((w.alloc (.cells #[.pointer (some t)] 103)).alloc (.cells #[.pointer (some ⟨2, 103, none⟩), .pointer (some ⟨w.heap.size, 0, none⟩), .int .u64 150] 112)) (by simp)
  have hg2 : ((w.alloc (.cells #[.pointer (some t)] 103)).alloc (.cells #[.pointer (some ⟨2, 103, none⟩), .pointer (some ⟨w.heap.size, 0, none⟩), .int .u64 150] 112)).cell? ⟨0, 0, none⟩ = some (.iface 125 (.agg #[.pointer (some ⟨2, 56, none⟩)])) := by
    rw [World.cell?_alloc_lt _ _ ⟨0, 0, none⟩ (by simp), World.cell?_alloc_lt _ _ ⟨0, 0, none⟩ hgl]; exact het
  have hin := as_fault a x n t ⟨w.heap.size, 0, none⟩ old ((w.alloc (.cells #[.pointer (some t)] 103)).alloc (.cells #[.pointer (some ⟨2, 103, none⟩), .pointer (some ⟨w.heap.size, 0, none⟩), .int .u64 150] 112))
    (by rw [Below.heap_alloc _ _ a (by simp; omega), Below.heap_alloc _ _ a hal]; exact h) (by simp)
    (by rw [World.cell?_alloc_lt _ _ t (by simp; omega), World.cell?_alloc_lt _ _ t htl]; exact ht)
    (by rw [World.frozen?_alloc_old _ _ t (by simp; omega), World.frozen?_alloc_old _ _ t (Nat.ne_of_lt htl)]; exact hf)
  have Hin := Lib.hid hin; clear hin het
  go_enter Tryz.func71, Tryz.ntmps71
  go_wp2_with fail
  refine Hin.out.mono ?_
  rintro e w' ⟨rfl, hg, hc⟩
  go_wp2
  go_ret
  exact ⟨rfl, grown_trans (grown_trans (World.grownBy_alloc _ _ _) (World.grownBy_alloc _ _ _)) hg, hc⟩

/-- What told comes to. -/
def IntPost (n : Int) (w : World) (e : Ending) (w' : World) : Prop := e = .returned (.int .i64 n) ∧ Below w.heap.size w w'

set_option maxHeartbeats 1000000 in
theorem told_nil (w : World) : Calls Tryz.prog 57 #[.nilIface] w (IntPost 0 w) := by
  have hin := fun t w => as_nil t w
  have Hin := Lib.hid hin; clear hin
  go_enter Tryz.func57, Tryz.ntmps57
  go_wp2_with fail
  refine (Hin.out _ _).mono ?_
  rintro e w' ⟨rfl, rfl⟩
  go_wp2
  go_ret
  exact ⟨rfl, below_alloc w _⟩

set_option maxHeartbeats 1000000 in
theorem told_fault (ev : Value) (n : Int) (w : World) (h : FaultIn w ev n) (het : Et w) : Calls Tryz.prog 57 #[ev] w (IntPost n w) := by
  obtain ⟨a, x, rfl, h⟩ := h
  have hal := lt_of_block h
  have hgl := World.block_lt_of_cell? w ⟨0, 0, none⟩ het
  have hin := fun (w1 : World) (h1 : w1 = w.alloc (.cells #[.int .i64 0] 35)) => errAs_fault a x n ⟨w.heap.size, 0, none⟩ (.int .i64 0) w1
    (by rw [h1, Below.heap_alloc _ _ a hal]; exact h)
    (by unfold Et; rw [h1, World.cell?_alloc_lt _ _ ⟨0, 0, none⟩ hgl]; exact het)
    (by rw [h1]; simp) (by rw [h1]; simp)
  have Hin := Lib.hid (hin _ rfl); clear hin het
  go_enter Tryz.func57, Tryz.ntmps57
  go_wp2_with fail
  refine Hin.out.mono ?_
  rintro e w' ⟨rfl, hg, hc⟩
  go_wp2
  go_ret
  exact ⟨rfl, below_grown_new hg⟩
end Go.Proofs.YtbibogpeagnjoaaGreatDoor


namespace Go.Proofs.YtbibogpeagnjoaaGreatDoor
open Go Go.RowKit Go.Maps

section
variable {w : World} {base s f y : Nat} {lv : Value} {st : St}
theorem Ok.cell (h : Ok w base s f y lv st) (i : Nat) : w.cell? ⟨s, i, none⟩ = (shelfCells f y lv st)[i]? := by simp [World.cell?, h.blk]
theorem Ok.free (h : Ok w base s f y lv st) (i : Nat) : w.frozen? ⟨s, i, none⟩ = false := by simp [World.frozen?, h.blk]
theorem Ok.c0 (h : Ok w base s f y lv st) : w.cell? ⟨s, 0, none⟩ = some (.map (some f)) := h.cell 0
theorem Ok.c1 (h : Ok w base s f y lv st) : w.cell? ⟨s, 1, none⟩ = some (.map (some y)) := h.cell 1
theorem Ok.c2 (h : Ok w base s f y lv st) : w.cell? ⟨s, 2, none⟩ = some lv := h.cell 2
theorem Ok.c3 (h : Ok w base s f y lv st) : w.cell? ⟨s, 3, none⟩ = some (.int .i64 st.room) := h.cell 3
theorem Ok.c4 (h : Ok w base s f y lv st) : w.cell? ⟨s, 4, none⟩ = some (.int .i64 st.acts) := h.cell 4
theorem Ok.c5 (h : Ok w base s f y lv st) : w.cell? ⟨s, 5, none⟩ = some (.int .i64 st.fuse) := h.cell 5
theorem Ok.c6 (h : Ok w base s f y lv st) : w.cell? ⟨s, 6, none⟩ = some (.bool st.down) := h.cell 6
end

/-- May an act be done? -/
def on (st : St) : Bool := !st.down && !(st.fuse == 0)

def PowerPost (st : St) (w : World) (e : Ending) (w' : World) : Prop :=
  Below w.heap.size w w' ∧ ((on st = true ∧ e = .returned .nilIface ∧ w' = w) ∨ (on st = false ∧ ∃ ev, e = .returned ev ∧ FaultIn w' ev 13))

set_option maxHeartbeats 1000000 in
theorem power_any {w : World} {base s f y : Nat} {lv : Value} {st : St} (h : Ok w base s f y lv st) : Calls Tryz.prog 63 #[.pointer (some ⟨s, 0, none⟩)] w (PowerPost st w) := by
  have c5 := h.c5; have c6 := h.c6
  clear h
  rcases hd : st.down with _ | _
  · by_cases hf : st.fuse = 0
    · have ho : on st = false := by unfold on; rw [hd, hf]; rfl
      rw [hd] at c6; rw [hf] at c5
      have Ho := Lib.hid ho; clear hd hf ho
      go_enter Tryz.func63, Tryz.ntmps63
      go_wp2
      go_ret
      exact ⟨⟨rfl, rfl, rfl, by simp, fun k hk => Below.heap_alloc _ _ _ hk⟩, .inr ⟨Ho.out, _, rfl, _, _, rfl, heap_alloc_new w _⟩⟩
    · have ho : on st = true := by unfold on; rw [hd]; simpa using hf
      have hb : (st.fuse == 0) = false := by simpa using hf
      rw [hd] at c6
      have Ho := Lib.hid ho; clear hd hf ho
      go_enter Tryz.func63, Tryz.ntmps63
      go_wp2
      go_ret
      exact ⟨Below.refl _ _, .inl ⟨Ho.out, rfl, rfl⟩⟩
  · have ho : on st = false := by unfold on; rw [hd]; rfl
    rw [hd] at c6
    have Ho := Lib.hid ho; clear hd ho
    go_enter Tryz.func63, Tryz.ntmps63
    go_wp2
    go_ret
    exact ⟨⟨rfl, rfl, rfl, by simp, fun k hk => Below.heap_alloc _ _ _ hk⟩, .inr ⟨Ho.out, _, rfl, _, _, rfl, heap_alloc_new w _⟩⟩

/-! ### writing a field of the shelf -/
theorem set_block {w : World} {s : Nat} {cs : Array Value} {e : TypeId} {fz : Nat × Nat} (h : w.heap[s]? = some (.cells cs e fz)) (i : Nat) (u : Value) : (w.setCell ⟨s, i, none⟩ u).heap[s]? = some (.cells (cs.setIfInBounds i u) e fz) := by
  have hlt := lt_of_block h
  have h' : w.heap[s] = .cells cs e fz := by simpa [Array.getElem?_eq_getElem hlt] using h
  show (w.heap.modify s _)[s]? = _
  rw [Array.getElem?_eq_getElem (by simpa using hlt), Array.getElem_modify_self, h']
  rfl

theorem K.setShelf {base s : Nat} {a w : World} (k : K base a w) {c : Array Value} {fz : Nat × Nat} (hb : w.heap[s]? = some (.cells c 64 fz)) (hp : base ≤ s) (i : Nat) (u : Value) : K base a (w.setCell ⟨s, i, none⟩ u) :=
  k.setMut (p := ⟨s, i, none⟩) hb rfl hp u

/-- A field of the shelf is written: the rest is as it was. -/
theorem Ok.field {w : World} {base s f y : Nat} {lv : Value} {st : St} (h : Ok w base s f y lv st) (i : Nat) (u : Value) (st' : St) (hc : (shelfCells f y lv st).setIfInBounds i u = shelfCells f y lv st')
    (h1 : st'.files = st.files) (h2 : st'.synced = st.synced) (h3 : st'.loose = st.loose) : Ok (w.setCell ⟨s, i, none⟩ u) base s f y lv st' := by
  have k : K base w (w.setCell ⟨s, i, none⟩ u) := (K.refl base w).setShelf h.blk h.base_s i u
  have hne : ∀ (k : Nat) (xs : Array MapEntry) (c : Nat), w.heap[k]? = some (Obj.map xs c) → (w.setCell ⟨s, i, none⟩ u).heap[k]? = w.heap[k]? := fun k xs c hk =>
    Below.heap_setCell _ _ _ _ (fun e => by subst e; rw [h.blk] at hk; cases hk)
  refine ⟨?_, h.base_s, h.ne, ?_, ?_, ?_⟩
  · rw [set_block h.blk, hc]
  · obtain ⟨xs, c, hk⟩ := h.files.isMap
    rw [h1]; exact h.files.keep k (hne _ _ _ hk)
  · obtain ⟨xs, c, hk⟩ := h.synced.isMap
    rw [h2]; exact h.synced.keep k (hne _ _ _ hk)
  · obtain ⟨vs, r1, r2⟩ := h.loose
    rw [h3]
    refine ⟨vs, ?_, r2.keep k⟩
    refine ⟨r1.1, ?_⟩
    rcases r1.2 with r | ⟨g, cap, cur, e1, e2, e3, r⟩
    · exact .inl r
    · refine .inr ⟨g, cap, cur, e1, e2, ?_, r⟩
      rw [Below.heap_setCell _ _ _ _ (fun e => by simp only at e; subst e; rw [h.blk] at e3; cases e3)]
      exact e3

def burnt (n : Int) : Int := if n = -1 then -1 else wrap64 (n - 1)

/-- What burn comes to. -/
def UnitPost (w : World) (P : World → Prop) (base : Nat) (e : Ending) (w' : World) : Prop := e = .returned (.tuple #[]) ∧ K base w w' ∧ P w'

set_option maxHeartbeats 1000000 in
theorem burn_any {w : World} {base s f y : Nat} {lv : Value} {st : St} (h : Ok w base s f y lv st) : Calls Tryz.prog 65 #[.pointer (some ⟨s, 0, none⟩)] w (UnitPost w (fun w' => Ok w' base s f y lv { st with fuse := burnt st.fuse }) base) := by
  have c5 := h.c5; have f5 := h.free 5
  by_cases hf : st.fuse = -1
  · have hb : (st.fuse != -1) = false := by rw [hf]; rfl
    have hs : { st with fuse := burnt st.fuse } = st := by unfold burnt; rw [if_pos hf]; cases st; simp at hf ⊢; exact hf.symm
    have Hs := Lib.hid hs; have H := Lib.hid h; clear hs hf h
    go_enter Tryz.func65, Tryz.ntmps65
    go_wp2
    go_end0
    exact ⟨rfl, K.refl _ _, by rw [Hs.out]; exact H.out⟩
  · have hb : (st.fuse != -1) = true := by simpa using hf
    have hs := h.field 5 (.int .i64 (wrap64 (st.fuse - 1))) { st with fuse := burnt st.fuse } (by unfold burnt; rw [if_neg hf]; rfl) rfl rfl rfl
    have k := (K.refl base w).setShelf h.blk h.base_s 5 (.int .i64 (wrap64 (st.fuse - 1)))
    have Hs := Lib.hid hs; have Hk := Lib.hid k; clear hs hf h k
    go_enter Tryz.func65, Tryz.ntmps65
    go_wp2
    go_end0
    exact ⟨rfl, Hk.out, Hs.out⟩
end Go.Proofs.YtbibogpeagnjoaaGreatDoor


namespace Go.Proofs.YtbibogpeagnjoaaGreatDoor
open Go Go.RowKit Go.Maps

def sizeDone (left : Lit → Bool) (t : Tb) : Nat := tsize (t.filter fun q => !(left (.string q.1)))

theorem sizeDone_le (left : Lit → Bool) : ∀ t : Tb, sizeDone left t ≤ tsize t
  | [] => Nat.le_refl _
  | q :: r => by
    have ih := sizeDone_le left r
    unfold sizeDone at ih ⊢
    cases h : left (.string q.1)
    · rw [List.filter_cons_of_pos (by rw [h]; rfl)]; simp only [tsize, List.map_cons, List.sum_cons] at ih ⊢; omega
    · rw [List.filter_cons_of_neg (by rw [h]; simp)]; simp only [tsize, List.map_cons, List.sum_cons] at ih ⊢; omega

theorem sizeDone_start {left : Lit → Bool} {t : Tb} (h : ∀ q ∈ t, left (.string q.1) = true) : sizeDone left t = 0 := by
  unfold sizeDone
  rw [List.filter_eq_nil_iff.2 (fun q hq => by rw [h q hq]; simp)]; rfl
theorem sizeDone_end {left : Lit → Bool} {t : Tb} (h : ∀ kl, left kl = false) : sizeDone left t = tsize t := by
  unfold sizeDone
  rw [List.filter_eq_self.2 (fun q _ => by rw [h]; rfl)]

theorem sizeDone_congr {l1 l2 : Lit → Bool} {t : Tb} (h : ∀ q ∈ t, l1 (.string q.1) = l2 (.string q.1)) : sizeDone l1 t = sizeDone l2 t := by
  unfold sizeDone
  rw [List.filter_congr (fun q hq => by rw [h q hq])]

theorem sizeDone_step {left : Lit → Bool} {p b : By} (hl : left (.string p) = true) : ∀ {t : Tb}, Rises t → tget p t = some b →
    sizeDone (fun z => left z && !z.sameKey (.string p)) t = sizeDone left t + b.length
  | [], _, h => by cases h
  | q :: r, hr, h => by
    have h' := List.pairwise_cons.1 hr
    unfold tget at h
    cases hq : (q.1 == p)
    · rw [List.find?_cons_of_neg (by simp [hq])] at h
      have ih := sizeDone_step hl h'.2 h
      unfold sizeDone at ih ⊢
      have e : (Lit.string q.1).sameKey (.string p) = false := hq
      cases hlq : left (.string q.1)
      · rw [List.filter_cons_of_pos (by simp [hlq]), List.filter_cons_of_pos (by simp [hlq])]
        simp only [tsize, List.map_cons, List.sum_cons] at ih ⊢; omega
      · rw [List.filter_cons_of_neg (by simp [hlq, e]), List.filter_cons_of_neg (by simp [hlq])]
        exact ih
    · rw [List.find?_cons_of_pos (by simp [hq])] at h
      have e2 : q.2 = b := by simpa using h
      have e1 : q.1 = p := by simpa using hq
      have e : (Lit.string q.1).sameKey (.string p) = true := hq
      have hrest : sizeDone (fun z => left z && !z.sameKey (.string p)) r = sizeDone left r := sizeDone_congr fun x hx => by
        have : (Lit.string x.1).sameKey (.string p) = false := by
          rw [sameKey_string]; simpa using fun e' => before_ne (h'.1 x hx) (by rw [e1, e'])
        rw [this]; simp
      unfold sizeDone at hrest ⊢
      rw [List.filter_cons_of_pos (by simp [e]), List.filter_cons_of_neg (by rw [e1, hl]; simp)]
      simp only [tsize, List.map_cons, List.sum_cons] at hrest ⊢
      rw [hrest, e2]; omega

theorem law9 : Keyed Tryz.prog 9 := string_keyed Tryz.underlying9
theorem keyOf_S {p : By} (hp : p.length ≤ maxLen) : keyOf Tryz.prog 9 (S p) = some (.string p) := Go.WideMaps.keyOf_string_mk Tryz.underlying9 (s := ⟨p.toArray⟩) (by simpa [ByteArray.size] using hp)
theorem keyOf_string_inv {key : Value} {kl : Lit} (h : keyOf Tryz.prog 9 key = some kl) : ∃ p : By, key = S p ∧ kl = .string p := by
  cases key <;> simp [keyOf, mapKey, Tryz.underlying9] at h
  rename_i x
  exact ⟨x.data.toList, rfl, h.2.symm⟩
theorem heldR_shape {v : Value} {z : DataW Value × List MemPlace} (h : heldR v = some z) : ∃ x : Option Addr × Nat × Nat, v = .slice x.1 x.2.1 x.2.2 := by
  obtain ⟨⟨a, n, c, rfl⟩, _⟩ := heldR_inv h
  exact ⟨(a, n, c), rfl⟩

/-- What a map of files tells of a path. -/
theorem tab_at {w : World} {base : Nat} {t : Tb} {es : List (Lit × DataW Value)} (he : EntsOk (RowIn w base) es t) (p : By) (z : DataW Value) :
    (tget p t = none ∧ Maps.has (.map es) (.string p) = false ∧ (DataW.map es).atKey (.string p) z = z) ∨
    (∃ b v, tget p t = some b ∧ Maps.has (.map es) (.string p) = true ∧ (DataW.map es).atKey (.string p) z = .held v ∧ RowIn w base v b) := by
  rcases he.find p with ⟨h1, h2⟩ | ⟨b, v, k, h1, h2, h3⟩
  · refine .inl ⟨h1, ?_, ?_⟩
    · show es.any (fun x => x.1.sameKey (.string p)) = false
      rw [List.any_eq_false]
      intro x hx
      simpa using List.find?_eq_none.1 h2 x hx
    · unfold DataW.atKey; simp only [h2]
  · refine .inr ⟨b, v, h1, ?_, ?_, h3⟩
    · show es.any (fun x => x.1.sameKey (.string p)) = true
      rw [List.any_eq_true]
      exact ⟨(k, .held v), List.mem_of_find?_eq_some h2, by simpa using List.find?_some h2⟩
    · unfold DataW.atKey; simp only [h2]

def SizePost (n : Nat) (w : World) (e : Ending) (w' : World) : Prop := e = .returned (.int .i64 n) ∧ Below w.heap.size w w'

set_option maxHeartbeats 2000000 in
theorem size_any {w : World} {base m : Nat} {t : Tb} (h : TabIn w base m t) (hb : tsize t ≤ 4611686018427387904) : Calls Tryz.prog 58 #[.map (some m)] w (SizePost (tsize t) w) := by
  obtain ⟨_, hr, es, hown, he⟩ := h
  go_enter Tryz.func58, Tryz.ntmps58
  go_wp2_with (at_range; refine wpList_range_own _ rfl _ 54 rfl 9 31 law9 Tryz.underlying54 heldR m t.length (.map es) rfl hown ?_; intro w0 hrg0 hg0 hs0)
  have hB0 : Below w.heap.size w w0 := (Below.refl _ w).grown hg0 (Nat.le_refl _) (fun k hk => by cases hk)
  go_frame
  go_loopw [3] (fun x wr => ∃ left cnt, wr.ranges Tryz.prog 9 heldR m w.heap.size t.length (.map es) left cnt ∧ x = .int .i64 (sizeDone left t) ∧ Below w.heap.size w wr) (fun _ wr => wr.rangeLeft m w.heap.size)
  case atStart =>
    refine ⟨_, _, hrg0, ?_, hB0⟩
    rw [sizeDone_start]; · rfl
    intro q hq
    rcases tab_at he q.1 .nil with ⟨h1, _⟩ | ⟨b, v, h1, h2, _⟩
    · rw [tget_of_mem hr (b := q.2) hq] at h1; cases h1
    · exact h2
  case round =>
    obtain ⟨left, cnt, hrg, rfl, hBl⟩ := hrel
    have hle := sizeDone_le left t
    go_wp2_with (at_next; refine wpList_next_ranges _ rfl _ rfl 9 law9 heldR S (fun x : Option Addr × Nat × Nat => .slice x.1 x.2.1 x.2.2) (fun key kl hk => by obtain ⟨p, e, _⟩ := keyOf_string_inv hk; exact ⟨p, e⟩) (fun v z hz => heldR_shape hz) m w.heap.size t.length (.map es) left cnt rfl hrg ?_ ?_)
    · intro hc0 hl0
      have e := sizeDone_end (t := t) hl0
      have E := Lib.hid e; clear e hl0 hle
      go_wp2
      go_ret
      exact ⟨by rw [E.out]; rfl, hBl⟩
    · intro p a n c kl z zp w1 cnt1 hk hl hz hat hrg1 hlt hg1 hs1 hen
      obtain ⟨p', ep, rfl⟩ := keyOf_string_inv hk
      have hstep : ∃ b : By, sizeDone (fun z => left z && !z.sameKey (.string p')) t = sizeDone left t + b.length ∧ b.length = n := by
        rcases tab_at he p' (.lit (.bool true)) with ⟨h1, _, h2⟩ | ⟨b, v, h1, _, h2, h3⟩
        · exfalso
          obtain ⟨_, hz2⟩ := heldR_inv hz
          rw [hat] at h2
          cases hz2
          cases h2
        · refine ⟨b, sizeDone_step hl hr h1, ?_⟩
          obtain ⟨_, hz2⟩ := heldR_inv hz
          rw [hat] at h2
          cases hz2
          cases h2
          obtain ⟨a', c', e⟩ := h3.shape
          cases e; rfl
      obtain ⟨b, hst, rfl⟩ := hstep
      have hle1 := sizeDone_le (fun z => left z && !z.sameKey (.string p')) t
      have hbd : sizeDone left t + b.length ≤ 4611686018427387904 := by omega
      have Hst := Lib.hid hst
      have hB1 : Below w.heap.size w w1 := hBl.grown hg1 hBl.size (fun k hk => by cases hk; exact Nat.le_refl _)
      have Hm : Hid (w1.rangeLeft m w.heap.size < wr.rangeLeft m w.heap.size) := by
        show w1.rangeLeft m w.heap.size < wr.rangeLeft m w.heap.size
        rw [hrg1.left_eq, hrg.left_eq]; exact hlt
      clear hle1 hst hle hl hat hz hk hrg hlt hg1 hs1
      go_wp2
      go_roundw
      case rel => exact ⟨_, _, hrg1, by rw [Hst.out]; go_num, hB1⟩
      case measure => exact Hm.out
end Go.Proofs.YtbibogpeagnjoaaGreatDoor


namespace Go.Proofs.YtbibogpeagnjoaaGreatDoor
open Go Go.RowKit Go.Maps

theorem zeroBytes (w : World) : (zeroValue 31).run Tryz.prog w = .ok (.slice none 0 0) w := by kernel_rfl

/-- 'v, ok := m[p]'. -/
theorem TabIn.look {w : World} {base m : Nat} {t : Tb} (h : TabIn w base m t) (p : By) (hp : p.length ≤ maxLen) :
    (tget p t = none ∧ (Instr.lookup 54 (.map (some m)) (.string ⟨p.toArray⟩) true).run Tryz.prog w = .ok (.tuple #[.slice none 0 0, .bool false]) w) ∨
    (∃ b a c, tget p t = some b ∧ RowIn w base (.slice a b.length c) b ∧ (Instr.lookup 54 (.map (some m)) (.string ⟨p.toArray⟩) true).run Tryz.prog w = .ok (.tuple #[.slice a b.length c, .bool true]) w) := by
  obtain ⟨_, hr, es, hown, he⟩ := h
  obtain ⟨v, ps, hrun, hv⟩ := hown.look_ok law9 Tryz.underlying54 (zeroBytes w) (zd := .held (.slice none 0 0)) (zp := []) rfl (keyOf_S hp)
  rcases tab_at he p (.held (.slice none 0 0)) with ⟨h1, h2, h3⟩ | ⟨b, v', h1, h2, h3, h4⟩
  · refine .inl ⟨h1, ?_⟩
    rw [h2] at hrun
    rw [h3] at hv
    obtain ⟨⟨a, n, c, rfl⟩, e⟩ := heldR_inv hv
    cases e
    exact hrun
  · rw [h2] at hrun
    rw [h3] at hv
    obtain ⟨⟨a, n, c, rfl⟩, e⟩ := heldR_inv hv
    cases e
    obtain ⟨a', c', e⟩ := h4.shape
    cases e
    exact .inr ⟨b, _, _, h1, h4, hrun⟩

theorem TabIn.len {w : World} {base m : Nat} {t : Tb} (h : TabIn w base m t) (ty : TypeId) : (Builtin.len_ #[54] ty #[.map (some m)]).run Tryz.prog w = .ok (.int .i64 (t.length : Int)) w := by
  obtain ⟨_, hr, es, hown, he⟩ := h
  have := hown.len Tryz.underlying54 ty
  rw [this, ← he.length]; rfl

/-- What tells whether an act may be done: its directory, or an error. -/
def MayPost (p : By) (er : Int) (w : World) (e : Ending) (w' : World) : Prop :=
  Below w.heap.size w w' ∧ ((er = 0 ∧ e = .returned (.tuple #[S (dirOf p), .nilIface])) ∨ (er ≠ 0 ∧ ∃ ev, e = .returned (.tuple #[S [], ev]) ∧ FaultIn w' ev er))

/-- A directory that is told, or an error, as two contracts. -/
theorem dir_yes {p : By} (w : World) (hp : p.length ≤ maxLen) (h : pathB p = true) : Calls Tryz.prog 31 #[S p] w fun e w' => e = .returned (.tuple #[S (dirOf p), .nilIface]) ∧ Below w.heap.size w w' :=
  (directory_any p w hp).mono fun e w' hd => by
    obtain ⟨h1, h2 | h2⟩ := hd
    · exact ⟨h2.2, h1⟩
    · rw [h] at h2; cases h2.1
theorem dir_no {p : By} (w : World) (hp : p.length ≤ maxLen) (h : pathB p = false) : Calls Tryz.prog 31 #[S p] w fun e w' => ∃ a, e = .returned (.tuple #[S [], .iface 85 (.pointer (some ⟨a, 0, none⟩))]) ∧ FaultIn w' (.iface 85 (.pointer (some ⟨a, 0, none⟩))) 1 ∧ Below w.heap.size w w' :=
  (directory_any p w hp).mono fun e w' hd => by
    obtain ⟨h1, h2 | h2⟩ := hd
    · rw [h] at h2; cases h2.1
    · obtain ⟨_, ev, h3, a, x, rfl, h4⟩ := h2
      exact ⟨a, h3, ⟨a, x, rfl, h4⟩, h1⟩

def thereErr (p : By) (t : Tb) : Int := if pathB p = false then 1 else if tget p t = none then 12 else 0

set_option maxHeartbeats 2000000 in
set_option maxRecDepth 100000 in
theorem there_any {w : World} {base s f y : Nat} {lv : Value} {st : St} (h : Ok w base s f y lv st) (p : By) (hp : p.length ≤ maxLen) :
    Calls Tryz.prog 50 #[.pointer (some ⟨s, 0, none⟩), S p] w (MayPost p (thereErr p st.files) w) := by
  cases hb : pathB p
  · have hd := dir_no w hp hb
    have he : thereErr p st.files = 1 := by unfold thereErr; rw [if_pos hb]
    have He := Lib.hid he
    clear hb he h
    have Hd := Lib.hid hd; clear hd
    unfold S at Hd
    unfold S
    go_enter Tryz.func50, Tryz.ntmps50
    go_wp2_with fail
    refine Hd.out.mono ?_
    rintro e w' ⟨a, rfl, hf, hB⟩
    have Hf := Lib.hid hf; clear hf
    go_wp2_with fail
    go_ret2
    exact ⟨hB, .inr ⟨by rw [He.out]; decide, _, rfl, by rw [He.out]; exact Hf.out⟩⟩
  · have hd := dir_yes w hp hb
    have he : thereErr p st.files = if tget p st.files = none then 12 else 0 := by unfold thereErr; rw [if_neg (by rw [hb]; simp)]
    have He := Lib.hid he
    clear hb he
    have Hd := Lib.hid hd; clear hd
    have Hk := Lib.hid h; clear h
    unfold S at Hd
    unfold S
    go_enter Tryz.func50, Tryz.ntmps50
    go_wp2_with fail
    refine Hd.out.mono ?_
    rintro e w' ⟨rfl, hB⟩
    have hk := Hk.out.keep hB
    have c0 := hk.c0
    rcases hk.files.look p hp with ⟨h1, hlook⟩ | ⟨b, a, c, h1, h2, hlook⟩
    · have H1 := Lib.hid h1; clear h1 hk
      go_wp2_with fail
      go_ret2
      refine ⟨?_, .inr ⟨by rw [He.out, if_pos H1.out]; decide, _, rfl, ?_⟩⟩
      · exact hB.trans ((below_alloc w' _).mono hB.size)
      · rw [He.out, if_pos H1.out]; exact ⟨_, _, rfl, heap_alloc_new w' _⟩
    · have H1 := Lib.hid h1; clear h1 hk h2
      go_wp2_with fail
      go_ret2
      exact ⟨hB, .inl ⟨by rw [He.out, if_neg (by rw [H1.out]; simp)], rfl⟩⟩
end Go.Proofs.YtbibogpeagnjoaaGreatDoor
