/-
  Errors inside object: need, within; errors.As at a fault: told.
-/
import Derived.LaidEql
import Derived.LaidEqlPtr
import Derived.Stop.Asserts
import Derived.RowKitTokens
import Derived.Lib.Hide
import Derived.Test.YtngphfogomchfaaGreatDoorC02

namespace Go.Proofs.YtngphfogomchfaaGreatDoor
open Go Go.RowKit Go.Extern.Stop Go.Stop Go.Extern
/-- What the program's text lays in errors.errorType. -/
def Et (w : World) : Prop := w.cell? ⟨2, 0, none⟩ = some (.iface 178 (.agg #[.pointer (some ⟨11, 99, none⟩)]))
theorem rlm (z : Sem Value) (f : TypeId → Addr → Nat → Nat → Sem Value) (v : Value) :
    ReflectliteValue.method z f #[v] = (do match ← ReflectliteValue.parts v with | none => z | some (t, a, fl) => f t a fl (fl % 32)) := rfl
theorem valueOfP (t : Addr) (w : World) : (ReflectliteValue.unpack (.iface 136 (.pointer (some t)))).run Tryz.prog w
    = .ok (.agg #[.pointer (some ⟨11, 136, none⟩), .pointer (some ⟨w.heap.size, 0, none⟩), .int .u64 150]) (w.alloc (.cells #[.pointer (some t)] 136)) := by kernel_rfl
theorem typeP (a : Addr) (w : World) : (ReflectliteValue.methodAny (ReflectliteValue.valueError "reflectlite.Value.Type" 0) (fun t _ _ _ => ReflectliteType.toType t) #[.agg #[.pointer (some ⟨11, 136, none⟩), .pointer (some a), .int .u64 150]]).run Tryz.prog w
    = .ok (.iface 178 (.agg #[.pointer (some ⟨11, 136, none⟩)])) w := by kernel_rfl
theorem kindP (w : World) : ((ReflectliteType.abiMethod fun t => (fun a : Nat => Value.int IntKind.u8 (a : Int)) <$> Rtype.kind t) #[.pointer (some ⟨11, 136, none⟩)]).run Tryz.prog w = .ok (.int .u8 22) w := by kernel_rfl
theorem kindE (w : World) : ((ReflectliteType.abiMethod fun t => (fun a : Nat => Value.int IntKind.u8 (a : Int)) <$> Rtype.kind t) #[.pointer (some ⟨11, 134, none⟩)]).run Tryz.prog w = .ok (.int .u8 22) w := by kernel_rfl
theorem partsP (a : Addr) (w : World) : (ReflectliteValue.parts (.agg #[.pointer (some ⟨11, 136, none⟩), .pointer (some a), .int .u64 150])).run Tryz.prog w = .ok (some (136, a, 150)) w := by kernel_rfl
theorem isNilP (a p : Addr) (W : World) (ha : W.cell? a = some (.pointer (some p))) :
    (ReflectliteValue.method (ReflectliteValue.valueError "reflectlite.Value.IsNil" 0) ReflectliteValue.isNil #[.agg #[.pointer (some ⟨11, 136, none⟩), .pointer (some a), .int .u64 150]]).run Tryz.prog W = .ok (.bool false) W := by
  rw [rlm]
  simp only [Sem.run_bind, partsP, Result.andThen]
  simp [ReflectliteValue.isNil, loadVar, isAgg, underlying, Tryz.underlying136, ha, Result.andThen]
theorem elemP (w : World) : (ReflectliteType.method ReflectliteType.elem #[.agg #[.pointer (some ⟨11, 136, none⟩)]]).run Tryz.prog w = .ok (.iface 178 (.agg #[.pointer (some ⟨11, 134, none⟩)])) w := by kernel_rfl
theorem implementsE (w : World) : (ReflectliteType.relation "Implements" ReflectliteType.implements_ #[.agg #[.pointer (some ⟨11, 134, none⟩)], .iface 178 (.agg #[.pointer (some ⟨11, 99, none⟩)])]).run Tryz.prog w = .ok (.bool true) w := by kernel_rfl
theorem typeOfF (v : Value) (w : World) : (ReflectliteType.typeOf #[.iface 134 v]).run Tryz.prog w = .ok (.iface 178 (.agg #[.pointer (some ⟨11, 134, none⟩)])) w := by kernel_rfl
theorem assignF (w : World) : (ReflectliteType.relation "AssignableTo" ReflectliteType.assignableTo #[.agg #[.pointer (some ⟨11, 134, none⟩)], .iface 178 (.agg #[.pointer (some ⟨11, 134, none⟩)])]).run Tryz.prog w = .ok (.bool true) w := by kernel_rfl
theorem valueOfE (p : Option Addr) (w : World) : (ReflectliteValue.unpack (.iface 134 (.pointer p))).run Tryz.prog w
    = .ok (.agg #[.pointer (some ⟨11, 134, none⟩), .pointer (some ⟨w.heap.size, 0, none⟩), .int .u64 150]) (w.alloc (.cells #[.pointer p] 134)) := by kernel_rfl
theorem elemOfP (w : World) : (Rtype.elem? 136).run Tryz.prog w = .ok (some 134) w := by kernel_rfl
theorem mkE (p : Addr) (w : World) : (ReflectliteValue.mk 134 p ReflectliteValue.flagAddr).run Tryz.prog w = .ok (.agg #[.pointer (some ⟨11, 134, none⟩), .pointer (some p), .int .u64 406]) w := by kernel_rfl
theorem elemVP (a p : Addr) (W : World) (ha : W.cell? a = some (.pointer (some p))) :
    (ReflectliteValue.method (ReflectliteValue.valueError "reflectlite.Value.Elem" 0) ReflectliteValue.elem #[.agg #[.pointer (some ⟨11, 136, none⟩), .pointer (some a), .int .u64 150]]).run Tryz.prog W
      = .ok (.agg #[.pointer (some ⟨11, 134, none⟩), .pointer (some p), .int .u64 406]) W := by
  rw [rlm]
  simp only [Sem.run_bind, partsP, Result.andThen]
  simp [ReflectliteValue.elem, loadVar, isAgg, underlying, Tryz.underlying136, ha, Result.andThen, elemOfP, mkE]
theorem rls (v x : Value) : ReflectliteValue.set #[v, x] = (do
    let (some (dst, a, fl), some (src, b, _)) := (← ReflectliteValue.parts v, ← ReflectliteValue.parts x)
      | unsupported (.noEntry "extern/(internal/reflectlite.Value).Set.zeroValue")
    if fl / ReflectliteValue.flagAddr % 2 == 0 then unsupported (.noEntry "extern/(internal/reflectlite.Value).Set.unaddressable")
    let val ← loadVar src b
    if ← Rtype.directlyAssignable dst src then storeVar dst a val
    else if ← Rtype.implements dst src then
      if (← Rtype.kind src) == 20 then
        match val with
        | .nilIface => unsupported (.noEntry "extern/reflectlite: a nil value of one interface type handed on as a value of another")
        | _ => storeVar dst a val
      else storeVar dst a (.iface src val)
    else panicString ("reflectlite.Set: value of type " ++ (← Rtype.spelt src) ++ " is not assignable to type " ++ (← Rtype.spelt dst))
    pure (.tuple #[])) := rfl
theorem partsEa (a : Addr) (w : World) : (ReflectliteValue.parts (.agg #[.pointer (some ⟨11, 134, none⟩), .pointer (some a), .int .u64 406])).run Tryz.prog w = .ok (some (134, a, 406)) w := by kernel_rfl
theorem partsE (a : Addr) (w : World) : (ReflectliteValue.parts (.agg #[.pointer (some ⟨11, 134, none⟩), .pointer (some a), .int .u64 150])).run Tryz.prog w = .ok (some (134, a, 150)) w := by kernel_rfl
theorem directE (w : World) : (Rtype.directlyAssignable 134 134).run Tryz.prog w = .ok true w := by kernel_rfl
theorem setE (ta b : Addr) (p : Option Addr) (old : Value) (W : World) (hb : W.cell? b = some (.pointer p)) (ht : W.cell? ta = some old) (hf : W.frozen? ta = false) :
    (ReflectliteValue.set #[.agg #[.pointer (some ⟨11, 134, none⟩), .pointer (some ta), .int .u64 406], .agg #[.pointer (some ⟨11, 134, none⟩), .pointer (some b), .int .u64 150]]).run Tryz.prog W
      = .ok (.tuple #[]) (W.setCell ta (.pointer p)) := by
  rw [rls]
  simp only [Sem.run_bind, partsEa, partsE, Result.andThen]
  simp [ReflectliteValue.flagAddr, loadVar, isAgg, underlying, Tryz.underlying134, hb, Result.andThen, directE, storeVar, Value.cells, storeCells, Addr.add]
  rw [run_store Tryz.prog W ta _ _ (by rfl)]
  simp [ht, hf]
theorem as_nil (t : Value) (w : World) : Calls Tryz.prog 85 #[.nilIface, t] w fun e w' => e = .returned (.bool false) ∧ w' = w := by
  go_enter Tryz.func85, Tryz.ntmps85
  go_wp2
  go_ret
  exact ⟨rfl, rfl⟩
theorem mAssign (h : Value) (w : World) : (Go.method 397 178 (.agg #[h]) "AssignableTo").run Tryz.prog w = .ok (230, .agg #[h]) w := by kernel_rfl
theorem mKind (h : Value) (w : World) : (Go.method 397 178 (.agg #[h]) "Kind").run Tryz.prog w = .ok (220, h) w := by kernel_rfl
theorem mElem (h : Value) (w : World) : (Go.method 397 178 (.agg #[h]) "Elem").run Tryz.prog w = .ok (232, .agg #[h]) w := by kernel_rfl
theorem mImplements (h : Value) (w : World) : (Go.method 397 178 (.agg #[h]) "Implements").run Tryz.prog w = .ok (233, .agg #[h]) w := by kernel_rfl
theorem grown_setCell (w : World) (t : Addr) (u : Value) : w.grownBy (w.setCell t u) (some t.block) :=
  ⟨rfl, rfl, rfl, by simp [World.setCell], fun k _ hk => Below.heap_setCell _ _ _ _ (fun e => hk (by rw [e]))⟩
theorem below_new (w : World) (o : Obj) : Below w.heap.size w (w.alloc o) := (Below.refl _ w).alloc (Nat.le_refl _) o
theorem below_grown_new {w w' : World} {o : Obj} (hg : (w.alloc o).grownBy w' (some w.heap.size)) : Below w.heap.size w w' :=
  (below_new w o).grown hg (by simp) (fun k hk => by cases hk; exact Nat.le_refl _)
/-- What errors.as at a fault comes to. -/
def AsPost (t : Addr) (p : Option Addr) (w : World) (e : Ending) (w' : World) : Prop := e = .returned (.bool true) ∧ w.grownBy w' (some t.block) ∧ w'.cell? t = some (.pointer p)
set_option maxHeartbeats 4000000 in
set_option maxRecDepth 100000 in
theorem as_fault (p : Option Addr) (t v : Addr) (old : Value) (w : World)
    (hv : w.cell? v = some (.pointer (some t))) (ht : w.cell? t = some old) (hf : w.frozen? t = false) :
    Calls Tryz.prog 106 #[.iface 134 (.pointer p), .iface 136 (.pointer (some t)), .agg #[.pointer (some ⟨11, 136, none⟩), .pointer (some v), .int .u64 150], .iface 178 (.agg #[.pointer (some ⟨11, 134, none⟩)])] w (AsPost t p w) := by
  have hTO := @run_callFunc_extern Tryz.prog 120 _ ReflectliteType.typeOf Tryz.func120 (by kernel_rfl) (by kernel_rfl) (by kernel_rfl) (by kernel_rfl)
  have hVO := @run_callFunc_extern Tryz.prog 103 _ (fun args => ReflectliteValue.unpack (args.getD 0 (.tuple #[]))) Tryz.func103 (by kernel_rfl) (by kernel_rfl) (by kernel_rfl) (by kernel_rfl)
  have hAT := @run_callFunc_extern Tryz.prog 230 _ (ReflectliteType.relation "AssignableTo" ReflectliteType.assignableTo) Tryz.func230 (by kernel_rfl) (by kernel_rfl) (by kernel_rfl) (by kernel_rfl)
  have hEl := @run_callFunc_extern Tryz.prog 121 _ (ReflectliteValue.method (ReflectliteValue.valueError "reflectlite.Value.Elem" 0) ReflectliteValue.elem) Tryz.func121 (by kernel_rfl) (by kernel_rfl) (by kernel_rfl) (by kernel_rfl)
  have hSe := @run_callFunc_extern Tryz.prog 122 _ ReflectliteValue.set Tryz.func122 (by kernel_rfl) (by kernel_rfl) (by kernel_rfl) (by kernel_rfl)
  have q1 := typeOfF; have q4 := assignF; have q5 := valueOfE; have q6 := mAssign
  have hvl := World.block_lt_of_cell? w v hv
  have htl := World.block_lt_of_cell? w t ht
  have el := elemVP v t (w.alloc (.cells #[.pointer (some ⟨11, 136, none⟩), .pointer (some v), .int .u64 150] 155)) (by rw [World.cell?_alloc_lt _ _ v hvl]; exact hv)
  have st := setE t ⟨w.heap.size + 1, 0, none⟩ p old ((w.alloc (.cells #[.pointer (some ⟨11, 136, none⟩), .pointer (some v), .int .u64 150] 155)).alloc (.cells #[.pointer p] 134))
    (by rw [World.cell?_alloc_at _ _ _ _ (by simp)]; rfl)
    (by rw [World.cell?_alloc_lt _ _ t (by simp; omega), World.cell?_alloc_lt _ _ t htl]; exact ht)
    (by rw [World.frozen?_alloc_old _ _ t (by simp; omega), World.frozen?_alloc_old _ _ t (Nat.ne_of_lt htl)]; exact hf)
  go_enter Tryz.func106, Tryz.ntmps106
  go_wp2
  refine wp_loop_rounds 1 ?_
  rw [rounds_succ]
  go_wp2_with fail
  go_ret
  refine ⟨rfl, grown_trans (grown_trans (World.grownBy_alloc _ _ _) (World.grownBy_alloc _ _ _)) (grown_setCell _ _ _), World.cell?_setCell_same _ _ _ (u := old) ?_⟩
  rw [World.cell?_alloc_lt _ _ t (by simp; omega), World.cell?_alloc_lt _ _ t htl, ht]
set_option maxHeartbeats 4000000 in
set_option maxRecDepth 100000 in
theorem errAs_fault (p : Option Addr) (t : Addr) (old : Value) (w : World) (het : Et w) (ht : w.cell? t = some old) (hf : w.frozen? t = false) :
    Calls Tryz.prog 85 #[.iface 134 (.pointer p), .iface 136 (.pointer (some t))] w (AsPost t p w) := by
  have hVO := @run_callFunc_extern Tryz.prog 103 _ (fun args => ReflectliteValue.unpack (args.getD 0 (.tuple #[]))) Tryz.func103 (by kernel_rfl) (by kernel_rfl) (by kernel_rfl) (by kernel_rfl)
  have hVT := @run_callFunc_extern Tryz.prog 104 _ (ReflectliteValue.methodAny (ReflectliteValue.valueError "reflectlite.Value.Type" 0) (fun t _ _ _ => ReflectliteType.toType t)) Tryz.func104 (by kernel_rfl) (by kernel_rfl) (by kernel_rfl) (by kernel_rfl)
  have hIN := @run_callFunc_extern Tryz.prog 105 _ (ReflectliteValue.method (ReflectliteValue.valueError "reflectlite.Value.IsNil" 0) ReflectliteValue.isNil) Tryz.func105 (by kernel_rfl) (by kernel_rfl) (by kernel_rfl) (by kernel_rfl)
  have hKi := @run_callFunc_extern Tryz.prog 220 _ (ReflectliteType.abiMethod fun t => do pure (.int .u8 (← Rtype.kind t))) Tryz.func220 (by kernel_rfl) (by kernel_rfl) (by kernel_rfl) (by kernel_rfl)
  have hTE := @run_callFunc_extern Tryz.prog 232 _ (ReflectliteType.method ReflectliteType.elem) Tryz.func232 (by kernel_rfl) (by kernel_rfl) (by kernel_rfl) (by kernel_rfl)
  have hTI := @run_callFunc_extern Tryz.prog 233 _ (ReflectliteType.relation "Implements" ReflectliteType.implements_) Tryz.func233 (by kernel_rfl) (by kernel_rfl) (by kernel_rfl) (by kernel_rfl)
  have htl := World.block_lt_of_cell? w t ht
  have hgl := World.block_lt_of_cell? w ⟨2, 0, none⟩ het
  have q1 := valueOfP; have q2 := typeP; have q3 := kindP; have q4 := kindE; have q5 := elemP; have q6 := implementsE; have q7 := mKind; have q8 := mElem; have q9 := mImplements
  have n8 := isNilP ⟨w.heap.size, 0, none⟩ t ((w.alloc (.cells #[.pointer (some t)] 136)).alloc (.cells #[.pointer (some ⟨11, 136, none⟩), .pointer (some ⟨w.heap.size, 0, none⟩), .int .u64 150] 155)) (by simp)
  have hg2 : ((w.alloc (.cells #[.pointer (some t)] 136)).alloc (.cells #[.pointer (some ⟨11, 136, none⟩), .pointer (some ⟨w.heap.size, 0, none⟩), .int .u64 150] 155)).cell? ⟨2, 0, none⟩ = some (.iface 178 (.agg #[.pointer (some ⟨11, 99, none⟩)])) := by
    rw [World.cell?_alloc_lt _ _ ⟨2, 0, none⟩ (by have h := hgl; simp at h ⊢; omega), World.cell?_alloc_lt _ _ ⟨2, 0, none⟩ hgl]; exact het
  have hin := as_fault p t ⟨w.heap.size, 0, none⟩ old ((w.alloc (.cells #[.pointer (some t)] 136)).alloc (.cells #[.pointer (some ⟨11, 136, none⟩), .pointer (some ⟨w.heap.size, 0, none⟩), .int .u64 150] 155))
    (by simp)
    (by rw [World.cell?_alloc_lt _ _ t (by simp; omega), World.cell?_alloc_lt _ _ t htl]; exact ht)
    (by rw [World.frozen?_alloc_old _ _ t (by simp; omega), World.frozen?_alloc_old _ _ t (Nat.ne_of_lt htl)]; exact hf)
  have Hin := Lib.hid hin; clear hin het
  go_enter Tryz.func85, Tryz.ntmps85
  go_wp2_with fail
  refine Hin.out.mono ?_
  rintro e w' ⟨rfl, hg, hc⟩
  go_wp2
  go_ret
  exact ⟨rfl, grown_trans (grown_trans (World.grownBy_alloc _ _ _) (World.grownBy_alloc _ _ _)) hg, hc⟩
/-- An error that is a fault. -/
def FV (ev : Value) : Prop := ∃ p, ev = .iface 134 (.pointer (some p))
def RetBelow (v : Value) (w : World) (e : Ending) (w' : World) : Prop := e = .returned v ∧ Below w.heap.size w w'
theorem told_hin (p : Option Addr) (w : World) (het : Et w) : Calls Tryz.prog 85 #[.iface 134 (.pointer p), .iface 136 (.pointer (some ⟨w.heap.size, 0, none⟩))] (w.alloc (.cells #[.pointer none] 134)) (AsPost ⟨w.heap.size, 0, none⟩ p (w.alloc (.cells #[.pointer none] 134))) := by
  have hgl := World.block_lt_of_cell? w ⟨2, 0, none⟩ het
  refine errAs_fault p _ (.pointer none) _ ?_ (by simp) (by simp)
  unfold Et; rw [World.cell?_alloc_lt _ _ ⟨2, 0, none⟩ hgl]; exact het
set_option maxHeartbeats 1000000 in
theorem toldS_nil (s : Value) (w : World) : Calls Tryz.prog 57 #[s, .nilIface] w (RetBelow (.tuple #[s, .bool true]) w) := by
  have Hin := Lib.hid (fun t w => as_nil t w)
  go_enter Tryz.func57, Tryz.ntmps57
  go_wp2_with fail
  refine (Hin.out _ _).mono ?_
  rintro e w' ⟨rfl, rfl⟩
  go_wp2
  go_ret2
  exact ⟨rfl, below_new w _⟩
set_option maxHeartbeats 1000000 in
theorem toldS_fault (s ev : Value) (w : World) (h : FV ev) (het : Et w) : Calls Tryz.prog 57 #[s, ev] w (RetBelow (.tuple #[.string ⟨#[]⟩, .bool false]) w) := by
  obtain ⟨p, rfl⟩ := h
  have Hin := Lib.hid (told_hin (some p) w het); clear het
  go_enter Tryz.func57, Tryz.ntmps57
  go_wp2_with fail
  refine Hin.out.mono ?_
  rintro e w' ⟨rfl, hg, hc⟩
  go_wp2
  go_ret2
  exact ⟨rfl, below_grown_new hg⟩
set_option maxHeartbeats 1000000 in
theorem toldW_nil (s : Value) (w : World) : Calls Tryz.prog 72 #[s, .nilIface] w (RetBelow (.tuple #[s, .bool true]) w) := by
  have Hin := Lib.hid (fun t w => as_nil t w)
  go_enter Tryz.func72, Tryz.ntmps72
  go_wp2_with fail
  refine (Hin.out _ _).mono ?_
  rintro e w' ⟨rfl, rfl⟩
  go_wp2
  go_ret2
  exact ⟨rfl, below_new w _⟩
set_option maxHeartbeats 1000000 in
theorem toldW_fault (s ev : Value) (w : World) (h : FV ev) (het : Et w) : Calls Tryz.prog 72 #[s, ev] w (RetBelow (.tuple #[.slice none 0 0, .bool false]) w) := by
  obtain ⟨p, rfl⟩ := h
  have Hin := Lib.hid (told_hin (some p) w het); clear het
  go_enter Tryz.func72, Tryz.ntmps72
  go_wp2_with fail
  refine Hin.out.mono ?_
  rintro e w' ⟨rfl, hg, hc⟩
  go_wp2
  go_ret2
  exact ⟨rfl, below_grown_new hg⟩
theorem need_yes (s ev : Value) (w : World) : Calls Tryz.prog 95 #[.bool true, s, ev] w fun e w' => e = .returned .nilIface ∧ w = w' := by
  go_enter Tryz.func95, Tryz.ntmps95
  go_wp2
  go_ret
  exact ⟨rfl, rfl⟩
theorem need_no (s : ByteArray) (te : TypeId) (pe : Value) (w : World) : Calls Tryz.prog 95 #[.bool false, .string s, .iface te pe] w fun e w' => e = .returned (.iface 134 (.pointer (some ⟨w.heap.size, 0, none⟩))) ∧ w.alloc (.cells #[.string s, .iface te pe] 144) = w' := by
  go_enter Tryz.func95, Tryz.ntmps95
  go_wp2
  go_ret
  exact ⟨rfl, rfl⟩
theorem within_nil (s : Value) (w : World) : Calls Tryz.prog 96 #[s, .nilIface] w fun e w' => e = .returned .nilIface ∧ w = w' := by
  go_enter Tryz.func96, Tryz.ntmps96
  go_wp2
  go_ret
  exact ⟨rfl, rfl⟩
theorem within_some (s : ByteArray) (ev : Value) (h : FV ev) (w : World) : Calls Tryz.prog 96 #[.string s, ev] w fun e w' => e = .returned (.iface 134 (.pointer (some ⟨w.heap.size, 0, none⟩))) ∧ w.alloc (.cells #[.string s, ev] 144) = w' := by
  obtain ⟨p, rfl⟩ := h
  go_enter Tryz.func96, Tryz.ntmps96
  go_wp2
  go_ret
  exact ⟨rfl, rfl⟩
end Go.Proofs.YtngphfogomchfaaGreatDoor
