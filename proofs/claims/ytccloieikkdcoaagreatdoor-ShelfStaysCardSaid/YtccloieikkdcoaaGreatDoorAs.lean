/-
  errors.As at a shelf's error: told.
-/
import Derived.Test.YtccloieikkdcoaaGreatDoorErr
namespace Go.Proofs.YtccloieikkdcoaaGreatDoor
open Go Go.RowKit Go.Extern.Stop Go.Stop Go.Extern

theorem mAssign (h : Value) (w : World) : (Go.method 296 128 (.agg #[h]) "AssignableTo").run Tryz.prog w = .ok (140, .agg #[h]) w := by kernel_rfl
theorem mUnwrap (a : Addr) (w : World) : (Go.method 296 89 (.pointer (some a)) "Unwrap").run Tryz.prog w = .ok (135, .pointer (some a)) w := by kernel_rfl
theorem mKind (h : Value) (w : World) : (Go.method 296 128 (.agg #[h]) "Kind").run Tryz.prog w = .ok (130, h) w := by kernel_rfl
theorem mElem (h : Value) (w : World) : (Go.method 296 128 (.agg #[h]) "Elem").run Tryz.prog w = .ok (142, .agg #[h]) w := by kernel_rfl
theorem mImplements (h : Value) (w : World) : (Go.method 296 128 (.agg #[h]) "Implements").run Tryz.prog w = .ok (143, .agg #[h]) w := by kernel_rfl
theorem noAsF (v : Value) (xT : TypeId) (w : World) : (Instr.typeAssert (.iface 89 v) xT 139 true).run Tryz.prog w = .ok (.tuple #[.nilIface, .bool false]) w := run_typeAssert_lacksB Tryz.underlying139 (by kernel_rfl) (by kernel_rfl) v xT w
theorem unwrapF (v : Value) (xT : TypeId) (w : World) : (Instr.typeAssert (.iface 89 v) xT 133 true).run Tryz.prog w = .ok (.tuple #[.iface 89 v, .bool true]) w := run_typeAssert_hasB Tryz.underlying133 (by kernel_rfl) v xT w

/-- (*fault).Unwrap. -/
theorem unwrap_any (a : Nat) (x : ByteArray) (n : Int) (w : World) (h : w.heap[a]? = some (.cells #[.string x, .iface 35 (.int .i64 n)] 91 (0, 0))) :
    Calls Tryz.prog 135 #[.pointer (some ⟨a, 0, none⟩)] w fun e w' => e = .returned (.iface 35 (.int .i64 n)) ∧ w = w' := by
  have c1 : w.cell? ⟨a, 1, none⟩ = some (.iface 35 (.int .i64 n)) := by simp [World.cell?, h]
  go_enter Tryz.func135, Tryz.ntmps135
  go_wp2
  go_ret
  exact ⟨rfl, rfl⟩

/-- What errors.as at a fault comes to. -/
def AsPost (t : Addr) (n : Int) (w : World) (e : Ending) (w' : World) : Prop := e = .returned (.bool true) ∧ w.grownBy w' (some t.block) ∧ w'.cell? t = some (.int .i64 n)

theorem grown_trans {a b c : World} {row : Option Nat} (h : a.grownBy b row) (k : b.grownBy c row) : a.grownBy c row :=
  ⟨k.os.trans h.os, k.tape.trans h.tape, k.output.trans h.output, Nat.le_trans h.size k.size, fun i hi hr => (k.block i (Nat.lt_of_lt_of_le hi h.size) hr).trans (h.block i hi hr)⟩

theorem below_grown_new {w w' : World} {o : Obj} (hg : (w.alloc o).grownBy w' (some w.heap.size)) : Below w.heap.size w w' :=
  (below_alloc w o).grown hg (by simp) (fun k hk => by cases hk; exact Nat.le_refl _)

theorem grown_setCell (w : World) (t : Addr) (u : Value) : w.grownBy (w.setCell t u) (some t.block) :=
  ⟨rfl, rfl, rfl, by simp [World.setCell], fun k _ hk => Below.heap_setCell _ _ _ _ (fun e => hk (by rw [e]))⟩

set_option maxHeartbeats 4000000 in
set_option maxRecDepth 100000 in
theorem as_fault (a : Nat) (x : ByteArray) (n : Int) (t v : Addr) (old : Value) (w : World) (h : w.heap[a]? = some (.cells #[.string x, .iface 35 (.int .i64 n)] 91 (0, 0)))
    (hv : w.cell? v = some (.pointer (some t))) (ht : w.cell? t = some old) (hf : w.frozen? t = false) :
    Calls Tryz.prog 85 #[.iface 89 (.pointer (some ⟨a, 0, none⟩)), .iface 106 (.pointer (some t)), .agg #[.pointer (some ⟨2, 106, none⟩), .pointer (some v), .int .u64 150], .iface 128 (.agg #[.pointer (some ⟨2, 35, none⟩)])] w (AsPost t n w) := by
  have hTO := @run_callFunc_extern Tryz.prog 80 _ ReflectliteType.typeOf Tryz.func80 (by kernel_rfl) (by kernel_rfl) (by kernel_rfl) (by kernel_rfl)
  have hVO := @run_callFunc_extern Tryz.prog 82 _ (fun args => ReflectliteValue.unpack (args.getD 0 (.tuple #[]))) Tryz.func82 (by kernel_rfl) (by kernel_rfl) (by kernel_rfl) (by kernel_rfl)
  have hAT := @run_callFunc_extern Tryz.prog 140 _ (ReflectliteType.relation "AssignableTo" ReflectliteType.assignableTo) Tryz.func140 (by kernel_rfl) (by kernel_rfl) (by kernel_rfl) (by kernel_rfl)
  have hEl := @run_callFunc_extern Tryz.prog 90 _ (ReflectliteValue.method (ReflectliteValue.valueError "reflectlite.Value.Elem" 0) ReflectliteValue.elem) Tryz.func90 (by kernel_rfl) (by kernel_rfl) (by kernel_rfl) (by kernel_rfl)
  have hSe := @run_callFunc_extern Tryz.prog 91 _ ReflectliteValue.set Tryz.func91 (by kernel_rfl) (by kernel_rfl) (by kernel_rfl) (by kernel_rfl)
  have q1 := typeOfF; have q2 := typeOfE; have q3 := assignF; have q4 := assignE; have q5 := valueOfE; have q6 := mAssign; have q7 := noAsF; have q8 := unwrapF; have q9 := mUnwrap
  have hvl := World.block_lt_of_cell? w v hv
  have htl := World.block_lt_of_cell? w t ht
  have hal := lt_of_block h
  have el := elemVP v t (w.alloc (.cells #[.pointer (some ⟨2, 106, none⟩), .pointer (some v), .int .u64 150] 115)) (by rw [World.cell?_alloc_lt _ _ v hvl]; exact hv)
  have st := setE t ⟨w.heap.size + 1, 0, none⟩ n old ((w.alloc (.cells #[.pointer (some ⟨2, 106, none⟩), .pointer (some v), .int .u64 150] 115)).alloc (.cells #[.int .i64 n] 35))
    (by rw [World.cell?_alloc_at _ _ _ _ (by simp)]; rfl)
    (by rw [World.cell?_alloc_lt _ _ t (by simp; omega), World.cell?_alloc_lt _ _ t htl]; exact ht)
    (by rw [World.frozen?_alloc_old _ _ t (by simp; omega), World.frozen?_alloc_old _ _ t (Nat.ne_of_lt htl)]; exact hf)
  go_enter Tryz.func85, Tryz.ntmps85
  go_wp2
  refine wp_loop_rounds 2 ?_
  rw [rounds_succ]
  go_wp2_with fail
  refine (unwrap_any a x n _ ?hb).mono ?_
  case hb => rw [Below.heap_alloc _ _ a (lt_of_block h)]; exact h
  rintro e w' ⟨rfl, rfl⟩
  go_wp2_with fail
  rw [rounds_succ]
  go_wp2_with fail
  go_ret
  refine ⟨rfl, grown_trans (grown_trans (World.grownBy_alloc _ _ _) (World.grownBy_alloc _ _ _)) (grown_setCell _ _ _), World.cell?_setCell_same _ _ _ (u := old) ?_⟩
  rw [World.cell?_alloc_lt _ _ t (by simp; omega), World.cell?_alloc_lt _ _ t htl, ht]

set_option maxHeartbeats 4000000 in
set_option maxRecDepth 100000 in
theorem errAs_fault (a : Nat) (x : ByteArray) (n : Int) (t : Addr) (old : Value) (w : World) (h : w.heap[a]? = some (.cells #[.string x, .iface 35 (.int .i64 n)] 91 (0, 0)))
    (het : Et w) (ht : w.cell? t = some old) (hf : w.frozen? t = false) :
    Calls Tryz.prog 75 #[.iface 89 (.pointer (some ⟨a, 0, none⟩)), .iface 106 (.pointer (some t))] w (AsPost t n w) := by
  have hVO := @run_callFunc_extern Tryz.prog 82 _ (fun args => ReflectliteValue.unpack (args.getD 0 (.tuple #[]))) Tryz.func82 (by kernel_rfl) (by kernel_rfl) (by kernel_rfl) (by kernel_rfl)
  have hVT := @run_callFunc_extern Tryz.prog 83 _ (ReflectliteValue.methodAny (ReflectliteValue.valueError "reflectlite.Value.Type" 0) (fun t _ _ _ => ReflectliteType.toType t)) Tryz.func83 (by kernel_rfl) (by kernel_rfl) (by kernel_rfl) (by kernel_rfl)
  have hIN := @run_callFunc_extern Tryz.prog 84 _ (ReflectliteValue.method (ReflectliteValue.valueError "reflectlite.Value.IsNil" 0) ReflectliteValue.isNil) Tryz.func84 (by kernel_rfl) (by kernel_rfl) (by kernel_rfl) (by kernel_rfl)
  have hKi := @run_callFunc_extern Tryz.prog 130 _ (ReflectliteType.abiMethod fun t => do pure (.int .u8 (← Rtype.kind t))) Tryz.func130 (by kernel_rfl) (by kernel_rfl) (by kernel_rfl) (by kernel_rfl)
  have hTE := @run_callFunc_extern Tryz.prog 142 _ (ReflectliteType.method ReflectliteType.elem) Tryz.func142 (by kernel_rfl) (by kernel_rfl) (by kernel_rfl) (by kernel_rfl)
  have hTI := @run_callFunc_extern Tryz.prog 143 _ (ReflectliteType.relation "Implements" ReflectliteType.implements_) Tryz.func143 (by kernel_rfl) (by kernel_rfl) (by kernel_rfl) (by kernel_rfl)
  have htl := World.block_lt_of_cell? w t ht
  have hal := lt_of_block h
  have hgl := World.block_lt_of_cell? w ⟨0, 0, none⟩ het
  have q1 := valueOfP; have q2 := typeP; have q3 := kindP; have q4 := kindE; have q5 := elemP; have q6 := implementsE; have q7 := mKind; have q8 := mElem; have q9 := mImplements
  have n8 := isNilP ⟨w.heap.size, 0, none⟩ t ((w.alloc (.cells #[.pointer (some t)] 106)).alloc (.cells #[.pointer (some ⟨2, 106, none⟩), .pointer (some ⟨w.heap.size, 0, none⟩), .int .u64 150] 115)) (by simp)
  have hg2 : ((w.alloc (.cells #[.pointer (some t)] 106)).alloc (.cells #[.pointer (some ⟨2, 106, none⟩), .pointer (some ⟨w.heap.size, 0, none⟩), .int .u64 150] 115)).cell? ⟨0, 0, none⟩ = some (.iface 128 (.agg #[.pointer (some ⟨2, 62, none⟩)])) := by
    rw [World.cell?_alloc_lt _ _ ⟨0, 0, none⟩ (by simp), World.cell?_alloc_lt _ _ ⟨0, 0, none⟩ hgl]; exact het
  have hin := as_fault a x n t ⟨w.heap.size, 0, none⟩ old ((w.alloc (.cells #[.pointer (some t)] 106)).alloc (.cells #[.pointer (some ⟨2, 106, none⟩), .pointer (some ⟨w.heap.size, 0, none⟩), .int .u64 150] 115))
    (by rw [Below.heap_alloc _ _ a (by simp; omega), Below.heap_alloc _ _ a hal]; exact h) (by simp)
    (by rw [World.cell?_alloc_lt _ _ t (by simp; omega), World.cell?_alloc_lt _ _ t htl]; exact ht)
    (by rw [World.frozen?_alloc_old _ _ t (by simp; omega), World.frozen?_alloc_old _ _ t (Nat.ne_of_lt htl)]; exact hf)
  have Hin := Lib.hid hin; clear hin het
  go_enter Tryz.func75, Tryz.ntmps75
  go_wp2_with fail
  refine Hin.out.mono ?_
  rintro e w' ⟨rfl, hg, hc⟩
  go_wp2
  go_ret
  exact ⟨rfl, grown_trans (grown_trans (World.grownBy_alloc _ _ _) (World.grownBy_alloc _ _ _)) hg, hc⟩

/-- What told comes to. -/
def IntPost (n : Int) (w : World) (e : Ending) (w' : World) : Prop := e = .returned (.int .i64 n) ∧ Below w.heap.size w w'

set_option maxHeartbeats 1000000 in
theorem told_nil (w : World) : Calls Tryz.prog 61 #[.nilIface] w (IntPost 0 w) := by
  have hin := fun t w => as_nil t w
  have Hin := Lib.hid hin; clear hin
  go_enter Tryz.func61, Tryz.ntmps61
  go_wp2_with fail
  refine (Hin.out _ _).mono ?_
  rintro e w' ⟨rfl, rfl⟩
  go_wp2
  go_ret
  exact ⟨rfl, below_alloc w _⟩

set_option maxHeartbeats 1000000 in
theorem told_fault (ev : Value) (n : Int) (w : World) (h : FaultIn w ev n) (het : Et w) : Calls Tryz.prog 61 #[ev] w (IntPost n w) := by
  obtain ⟨a, x, rfl, h⟩ := h
  have hal := lt_of_block h
  have hgl := World.block_lt_of_cell? w ⟨0, 0, none⟩ het
  have hin := fun (w1 : World) (h1 : w1 = w.alloc (.cells #[.int .i64 0] 35)) => errAs_fault a x n ⟨w.heap.size, 0, none⟩ (.int .i64 0) w1
    (by rw [h1, Below.heap_alloc _ _ a hal]; exact h)
    (by unfold Et; rw [h1, World.cell?_alloc_lt _ _ ⟨0, 0, none⟩ hgl]; exact het)
    (by rw [h1]; simp) (by rw [h1]; simp)
  have Hin := Lib.hid (hin _ rfl); clear hin het
  go_enter Tryz.func61, Tryz.ntmps61
  go_wp2_with fail
  refine Hin.out.mono ?_
  rintro e w' ⟨rfl, hg, hc⟩
  go_wp2
  go_ret
  exact ⟨rfl, below_grown_new hg⟩
end Go.Proofs.YtccloieikkdcoaaGreatDoor
