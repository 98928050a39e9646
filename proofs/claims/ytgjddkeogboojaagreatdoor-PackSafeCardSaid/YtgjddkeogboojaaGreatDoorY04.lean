/-
  errors.As at a pack's errors: told. told. Bytes, rows of structs, a world as it was but for some blocks; regions that draw their order, step by step. Regions that draw their order, step by step. fits, whole, Get. Get.
-/
import Derived.LaidEql
import Derived.Stop.Asserts
import Derived.RowKitTokens
import Derived.Lib.Hide
import Derived.Test.YtgjddkeogboojaaGreatDoorY03
import Derived.BigRegion
import Derived.Test.YtgjddkeogboojaaGreatDoorProg
import Derived.Below
import Derived.Laws.OwnMore
import Derived.Deep.Draws
import Derived.Laws.Rows
import Derived.Laws.AppendOwnNone
import Derived.Laws.IdiomStrings
import Derived.Deep.QuietTactic
import Derived.BigQuiet
import Derived.IntWalk
import Derived.Lib.IndexLaws
import Derived.Lib.AppendIntMem
import Derived.Lib.LaidTab
import Derived.OrdersHeld
import Derived.Deep.RegionHeld
import Derived.Deep.RegionHeld3
import Derived.RangeFuncBox
import Derived.Test.YtgjddkeogboojaaGreatDoorY01
import Derived.Lib.MinMax
set_option maxHeartbeats 16000000
set_option maxRecDepth 100000
namespace Go.Proofs.YtgjddkeogboojaaGreatDoor.Pk
open Go.Proofs.YtgjddkeogboojaaGreatDoor
open Go Go.RowKit Go.Extern.Stop Go.Stop Go.Extern
theorem valueOfP (t : Addr) (w : World) : (ReflectliteValue.unpack (.iface 105 (.pointer (some t)))).run Tryz.prog w
 = .ok (.agg #[.pointer (some ⟨11, 105, none⟩), .pointer (some ⟨w.heap.size, 0, none⟩), .int .u64 150]) (w.alloc (.cells #[.pointer (some t)] 105)) := by kernel_rfl
theorem typeP (a : Addr) (w : World) : (ReflectliteValue.methodAny (ReflectliteValue.valueError "reflectlite.Value.Type" 0) (fun t _ _ _ => ReflectliteType.toType t) #[.agg #[.pointer (some ⟨11, 105, none⟩), .pointer (some a), .int .u64 150]]).run Tryz.prog w
 = .ok (.iface 172 (.agg #[.pointer (some ⟨11, 105, none⟩)])) w := by kernel_rfl
theorem kindP (w : World) : ((ReflectliteType.abiMethod fun t => (fun a : Nat => Value.int IntKind.u8 (a : Int)) <$> Rtype.kind t) #[.pointer (some ⟨11, 105, none⟩)]).run Tryz.prog w = .ok (.int .u8 22) w := by kernel_rfl
theorem kindE (w : World) : ((ReflectliteType.abiMethod fun t => (fun a : Nat => Value.int IntKind.u8 (a : Int)) <$> Rtype.kind t) #[.pointer (some ⟨11, 26, none⟩)]).run Tryz.prog w = .ok (.int .u8 2) w := by kernel_rfl
theorem partsP (a : Addr) (w : World) : (ReflectliteValue.parts (.agg #[.pointer (some ⟨11, 105, none⟩), .pointer (some a), .int .u64 150])).run Tryz.prog w = .ok (some (105, a, 150)) w := by kernel_rfl
theorem isNilP (a p : Addr) (W : World) (ha : W.cell? a = some (.pointer (some p))) :
 (ReflectliteValue.method (ReflectliteValue.valueError "reflectlite.Value.IsNil" 0) ReflectliteValue.isNil #[.agg #[.pointer (some ⟨11, 105, none⟩), .pointer (some a), .int .u64 150]]).run Tryz.prog W = .ok (.bool false) W := by
 rw [rlm];simp only [Sem.run_bind, partsP, Result.andThen];simp [ReflectliteValue.isNil, loadVar, isAgg, underlying, Tryz.underlying105, ha, Result.andThen]
theorem elemP (w : World) : (ReflectliteType.method ReflectliteType.elem #[.agg #[.pointer (some ⟨11, 105, none⟩)]]).run Tryz.prog w = .ok (.iface 172 (.agg #[.pointer (some ⟨11, 26, none⟩)])) w := by kernel_rfl
theorem implementsE (w : World) : (ReflectliteType.relation "Implements" ReflectliteType.implements_ #[.agg #[.pointer (some ⟨11, 26, none⟩)], .iface 172 (.agg #[.pointer (some ⟨11, 64, none⟩)])]).run Tryz.prog w = .ok (.bool true) w := by kernel_rfl
theorem typeOfF (v : Value) (w : World) : (ReflectliteType.typeOf #[.iface 107 v]).run Tryz.prog w = .ok (.iface 172 (.agg #[.pointer (some ⟨11, 107, none⟩)])) w := by kernel_rfl
theorem typeOfE (v : Value) (w : World) : (ReflectliteType.typeOf #[.iface 26 v]).run Tryz.prog w = .ok (.iface 172 (.agg #[.pointer (some ⟨11, 26, none⟩)])) w := by kernel_rfl
theorem assignF (w : World) : (ReflectliteType.relation "AssignableTo" ReflectliteType.assignableTo #[.agg #[.pointer (some ⟨11, 107, none⟩)], .iface 172 (.agg #[.pointer (some ⟨11, 26, none⟩)])]).run Tryz.prog w = .ok (.bool false) w := by kernel_rfl
theorem zkg (w : World) : (ReflectliteType.relation "AssignableTo" ReflectliteType.assignableTo #[.agg #[.pointer (some ⟨11, 26, none⟩)], .iface 172 (.agg #[.pointer (some ⟨11, 26, none⟩)])]).run Tryz.prog w = .ok (.bool true) w := by kernel_rfl
theorem valueOfE (n : Int) (w : World) : (ReflectliteValue.unpack (.iface 26 (.int .i64 n))).run Tryz.prog w
 = .ok (.agg #[.pointer (some ⟨11, 26, none⟩), .pointer (some ⟨w.heap.size, 0, none⟩), .int .u64 130]) (w.alloc (.cells #[.int .i64 n] 26)) := by kernel_rfl
theorem elemOfP (w : World) : (Rtype.elem? 105).run Tryz.prog w = .ok (some 26) w := by kernel_rfl
theorem mkE (p : Addr) (w : World) : (ReflectliteValue.mk 26 p ReflectliteValue.flagAddr).run Tryz.prog w = .ok (.agg #[.pointer (some ⟨11, 26, none⟩), .pointer (some p), .int .u64 386]) w := by kernel_rfl
theorem elemVP (a p : Addr) (W : World) (ha : W.cell? a = some (.pointer (some p))) :
 (ReflectliteValue.method (ReflectliteValue.valueError "reflectlite.Value.Elem" 0) ReflectliteValue.elem #[.agg #[.pointer (some ⟨11, 105, none⟩), .pointer (some a), .int .u64 150]]).run Tryz.prog W
   = .ok (.agg #[.pointer (some ⟨11, 26, none⟩), .pointer (some p), .int .u64 386]) W := by
 rw [rlm];simp only [Sem.run_bind, partsP, Result.andThen];simp [ReflectliteValue.elem, loadVar, isAgg, underlying, Tryz.underlying105, ha, Result.andThen, elemOfP, mkE]
theorem partsEa (a : Addr) (w : World) : (ReflectliteValue.parts (.agg #[.pointer (some ⟨11, 26, none⟩), .pointer (some a), .int .u64 386])).run Tryz.prog w = .ok (some (26, a, 386)) w := by kernel_rfl
theorem partsE (a : Addr) (w : World) : (ReflectliteValue.parts (.agg #[.pointer (some ⟨11, 26, none⟩), .pointer (some a), .int .u64 130])).run Tryz.prog w = .ok (some (26, a, 130)) w := by kernel_rfl
theorem directE (w : World) : (Rtype.directlyAssignable 26 26).run Tryz.prog w = .ok true w := by kernel_rfl
theorem setE (ta b : Addr) (n : Int) (old : Value) (W : World) (hb : W.cell? b = some (.int .i64 n)) (ht : W.cell? ta = some old) (hf : W.frozen? ta = false) :
 (ReflectliteValue.set #[.agg #[.pointer (some ⟨11, 26, none⟩), .pointer (some ta), .int .u64 386], .agg #[.pointer (some ⟨11, 26, none⟩), .pointer (some b), .int .u64 130]]).run Tryz.prog W
   = .ok (.tuple #[]) (W.setCell ta (.int .i64 n)) := by
 rw [rls];simp only [Sem.run_bind, partsEa, partsE, Result.andThen];simp [ReflectliteValue.flagAddr, loadVar, isAgg, underlying, Tryz.underlying26, hb, Result.andThen, directE, storeVar, Value.cells, storeCells, Addr.add];rw [run_store Tryz.prog W ta _ _ (by rfl)];simp [ht, hf]
theorem mUnwrap (a : Addr) (w : World) : (Go.method 464 107 (.pointer (some a)) "Unwrap").run Tryz.prog w = .ok (270, .pointer (some a)) w := by kernel_rfl
theorem noAsF (v : Value) (xT : TypeId) (w : World) : (Instr.typeAssert (.iface 107 v) xT 177 true).run Tryz.prog w = .ok (.tuple #[.nilIface, .bool false]) w := run_typeAssert_lacksB Tryz.underlying177 (by kernel_rfl) (by kernel_rfl) v xT w
theorem unwrapF (v : Value) (xT : TypeId) (w : World) : (Instr.typeAssert (.iface 107 v) xT 180 true).run Tryz.prog w = .ok (.tuple #[.iface 107 v, .bool true]) w := run_typeAssert_hasB Tryz.underlying180 (by kernel_rfl) v xT w
theorem unwrap_any (a : Nat) (x : Int) (n : Int) (w : World) (h : w.heap[a]? = some (.cells #[.int .i64 x, .iface 26 (.int .i64 n)] 109 (0, 0))) :
 Calls Tryz.prog 270 #[.pointer (some ⟨a, 0, none⟩)] w fun e w' => e = .returned (.iface 26 (.int .i64 n)) ∧ w = w' := by
 have c1 : w.cell? ⟨a, 1, none⟩ = some (.iface 26 (.int .i64 n)) := by simp [World.cell?, h]
 go_enter Tryz.func270, Tryz.ntmps270
 go_wp2
 go_ret
 exact ⟨rfl, rfl⟩
def AsPost (t : Addr) (n : Int) (w : World) (e : Ending) (w' : World) : Prop := e = .returned (.bool true) ∧ w.grownBy w' (some t.block) ∧ w'.cell? t = some (.int .i64 n)
theorem as_fault (a : Nat) (x : Int) (n : Int) (t v : Addr) (old : Value) (w : World) (h : w.heap[a]? = some (.cells #[.int .i64 x, .iface 26 (.int .i64 n)] 109 (0, 0)))
 (hv : w.cell? v = some (.pointer (some t))) (ht : w.cell? t = some old) (hf : w.frozen? t = false) :
 Calls Tryz.prog 70 #[.iface 107 (.pointer (some ⟨a, 0, none⟩)), .iface 105 (.pointer (some t)), .agg #[.pointer (some ⟨11, 105, none⟩), .pointer (some v), .int .u64 150], .iface 172 (.agg #[.pointer (some ⟨11, 26, none⟩)])] w (AsPost t n w) := by
 have hTO := zzzc.1;have hVO := zzza.1;have hAT := zzzi.1;have hEl := zzze.1;have hSe := zzzn.1;have q1 := typeOfF; have q2 := typeOfE; have q3 := assignF; have q4 := zkg; have q5 := valueOfE; have q6 := zew; have q7 := noAsF; have q8 := unwrapF; have q9 := mUnwrap;have hvl := World.block_lt_of_cell? w v hv;have htl := World.block_lt_of_cell? w t ht;have hal := lt_heap h;have el := elemVP v t (w.alloc (.cells #[.pointer (some ⟨11, 105, none⟩), .pointer (some v), .int .u64 150] 136)) (by rw [World.cell?_alloc_lt _ _ v hvl]; exact hv)
 have st := setE t ⟨w.heap.size + 1, 0, none⟩ n old ((w.alloc (.cells #[.pointer (some ⟨11, 105, none⟩), .pointer (some v), .int .u64 150] 136)).alloc (.cells #[.int .i64 n] 26))
  (by rw [World.cell?_alloc_at _ _ _ _ (by simp)]; rfl)
  (by rw [World.cell?_alloc_lt _ _ t (by simp; omega), World.cell?_alloc_lt _ _ t htl]; exact ht)
  (by rw [World.frozen?_alloc_old _ _ t (by simp; omega), World.frozen?_alloc_old _ _ t (Nat.ne_of_lt htl)]; exact hf)
 go_enter Tryz.func70, Tryz.ntmps70
 go_wp2
 refine wp_loop_rounds 2 ?_;rw [rounds_succ]
 go_wp2_with fail
 refine (unwrap_any a x n _ ?hb).mono ?_
 case hb => rw [Below.heap_alloc _ _ a (lt_heap h)]; exact h
 rintro e w' ⟨rfl, rfl⟩
 go_wp2_with fail
 rw [rounds_succ]
 go_wp2_with fail
 go_ret
 refine ⟨rfl, z0u (z0u (World.grownBy_alloc _ _ _) (World.grownBy_alloc _ _ _)) (z4a _ _ _), World.cell?_setCell_same _ _ _ (u := old) ?_⟩;rw [World.cell?_alloc_lt _ _ t (by simp; omega), World.cell?_alloc_lt _ _ t htl, ht]
theorem errAs_fault (a : Nat) (x : Int) (n : Int) (t : Addr) (old : Value) (w : World) (h : w.heap[a]? = some (.cells #[.int .i64 x, .iface 26 (.int .i64 n)] 109 (0, 0)))
 (het : Et w) (ht : w.cell? t = some old) (hf : w.frozen? t = false) :
 Calls Tryz.prog 51 #[.iface 107 (.pointer (some ⟨a, 0, none⟩)), .iface 105 (.pointer (some t))] w (AsPost t n w) := by
 have hVO := zzza.1;have hVT := zzzb.1;have hIN := zzzd.1;have hKi := zzzg.1;have hTE := zzzl.1;have hTI := zzzj.1;have htl := World.block_lt_of_cell? w t ht;have hal := lt_heap h;have hgl := World.block_lt_of_cell? w ⟨0, 0, none⟩ het;have q1 := valueOfP; have q2 := typeP; have q3 := kindP; have q4 := kindE; have q5 := elemP; have q6 := implementsE; have q7 := mKind; have q8 := mElem; have q9 := z65;have n8 := isNilP ⟨w.heap.size, 0, none⟩ t ((w.alloc (.cells #[.pointer (some t)] 105)).alloc (.cells #[.pointer (some ⟨11, 105, none⟩), .pointer (some ⟨w.heap.size, 0, none⟩), .int .u64 150] 136)) (by simp)
 have hg2 : ((w.alloc (.cells #[.pointer (some t)] 105)).alloc (.cells #[.pointer (some ⟨11, 105, none⟩), .pointer (some ⟨w.heap.size, 0, none⟩), .int .u64 150] 136)).cell? ⟨0, 0, none⟩ = some (.iface 172 (.agg #[.pointer (some ⟨11, 64, none⟩)])) := by
  rw [World.cell?_alloc_lt _ _ ⟨0, 0, none⟩ (by simp), World.cell?_alloc_lt _ _ ⟨0, 0, none⟩ hgl]; exact het
 have hin := as_fault a x n t ⟨w.heap.size, 0, none⟩ old ((w.alloc (.cells #[.pointer (some t)] 105)).alloc (.cells #[.pointer (some ⟨11, 105, none⟩), .pointer (some ⟨w.heap.size, 0, none⟩), .int .u64 150] 136))
  (by rw [Below.heap_alloc _ _ a (by simp; omega), Below.heap_alloc _ _ a hal]; exact h) (by simp)
  (by rw [World.cell?_alloc_lt _ _ t (by simp; omega), World.cell?_alloc_lt _ _ t htl]; exact ht)
  (by rw [World.frozen?_alloc_old _ _ t (by simp; omega), World.frozen?_alloc_old _ _ t (Nat.ne_of_lt htl)]; exact hf)
 have Hin := zh hin; clear hin het
 go_enter Tryz.func51, Tryz.ntmps51
 go_wp2_with fail
 refine Hin.out.mono ?_;rintro e w' ⟨rfl, hg, hc⟩
 go_wp2
 go_ret
 exact ⟨rfl, z0u (z0u (World.grownBy_alloc _ _ _) (World.grownBy_alloc _ _ _)) hg, hc⟩
theorem as_no (n : Int) (t v : Addr) (old : Value) (w : World)
 (hv : w.cell? v = some (.pointer (some t))) (ht : w.cell? t = some old) (hf : w.frozen? t = false) :
 Calls Tryz.prog 70 #[.iface 26 (.int .i64 n), .iface 105 (.pointer (some t)), .agg #[.pointer (some ⟨11, 105, none⟩), .pointer (some v), .int .u64 150], .iface 172 (.agg #[.pointer (some ⟨11, 26, none⟩)])] w (AsPost t n w) := by
 have hTO := zzzc.1;have hVO := zzza.1;have hAT := zzzi.1;have hEl := zzze.1;have hSe := zzzn.1;have q2 := typeOfE; have q4 := zkg; have q5 := valueOfE; have q6 := zew;have hvl := World.block_lt_of_cell? w v hv;have htl := World.block_lt_of_cell? w t ht;have el := elemVP v t (w.alloc (.cells #[.pointer (some ⟨11, 105, none⟩), .pointer (some v), .int .u64 150] 136)) (by rw [World.cell?_alloc_lt _ _ v hvl]; exact hv)
 have st := setE t ⟨w.heap.size + 1, 0, none⟩ n old ((w.alloc (.cells #[.pointer (some ⟨11, 105, none⟩), .pointer (some v), .int .u64 150] 136)).alloc (.cells #[.int .i64 n] 26))
  (by rw [World.cell?_alloc_at _ _ _ _ (by simp)]; rfl)
  (by rw [World.cell?_alloc_lt _ _ t (by simp; omega), World.cell?_alloc_lt _ _ t htl]; exact ht)
  (by rw [World.frozen?_alloc_old _ _ t (by simp; omega), World.frozen?_alloc_old _ _ t (Nat.ne_of_lt htl)]; exact hf)
 go_enter Tryz.func70, Tryz.ntmps70
 go_wp2
 refine wp_loop_rounds 1 ?_;rw [rounds_succ]
 go_wp2_with fail
 go_ret
 refine ⟨rfl, z0u (z0u (World.grownBy_alloc _ _ _) (World.grownBy_alloc _ _ _)) (z4a _ _ _), World.cell?_setCell_same _ _ _ (u := old) ?_⟩;rw [World.cell?_alloc_lt _ _ t (by simp; omega), World.cell?_alloc_lt _ _ t htl, ht]
theorem errAs_no (n : Int) (t : Addr) (old : Value) (w : World)
 (het : Et w) (ht : w.cell? t = some old) (hf : w.frozen? t = false) :
 Calls Tryz.prog 51 #[.iface 26 (.int .i64 n), .iface 105 (.pointer (some t))] w (AsPost t n w) := by
 have hVO := zzza.1;have hVT := zzzb.1;have hIN := zzzd.1;have hKi := zzzg.1;have hTE := zzzl.1;have hTI := zzzj.1;have htl := World.block_lt_of_cell? w t ht;have hgl := World.block_lt_of_cell? w ⟨0, 0, none⟩ het;have q1 := valueOfP; have q2 := typeP; have q3 := kindP; have q4 := kindE; have q5 := elemP; have q6 := implementsE; have q7 := mKind; have q8 := mElem; have q9 := z65;have n8 := isNilP ⟨w.heap.size, 0, none⟩ t ((w.alloc (.cells #[.pointer (some t)] 105)).alloc (.cells #[.pointer (some ⟨11, 105, none⟩), .pointer (some ⟨w.heap.size, 0, none⟩), .int .u64 150] 136)) (by simp)
 have hg2 : ((w.alloc (.cells #[.pointer (some t)] 105)).alloc (.cells #[.pointer (some ⟨11, 105, none⟩), .pointer (some ⟨w.heap.size, 0, none⟩), .int .u64 150] 136)).cell? ⟨0, 0, none⟩ = some (.iface 172 (.agg #[.pointer (some ⟨11, 64, none⟩)])) := by
  rw [World.cell?_alloc_lt _ _ ⟨0, 0, none⟩ (by simp), World.cell?_alloc_lt _ _ ⟨0, 0, none⟩ hgl]; exact het
 have hin := as_no n t ⟨w.heap.size, 0, none⟩ old ((w.alloc (.cells #[.pointer (some t)] 105)).alloc (.cells #[.pointer (some ⟨11, 105, none⟩), .pointer (some ⟨w.heap.size, 0, none⟩), .int .u64 150] 136))
  (by simp)
  (by rw [World.cell?_alloc_lt _ _ t (by simp; omega), World.cell?_alloc_lt _ _ t htl]; exact ht)
  (by rw [World.frozen?_alloc_old _ _ t (by simp; omega), World.frozen?_alloc_old _ _ t (Nat.ne_of_lt htl)]; exact hf)
 have Hin := zh hin; clear hin het
 go_enter Tryz.func51, Tryz.ntmps51
 go_wp2_with fail
 refine Hin.out.mono ?_;rintro e w' ⟨rfl, hg, hc⟩
 go_wp2
 go_ret
 exact ⟨rfl, z0u (z0u (World.grownBy_alloc _ _ _) (World.grownBy_alloc _ _ _)) hg, hc⟩
def FaultIn (w : World) (ev : Value) (n : Int) : Prop := ∃ a x, ev = .iface 107 (.pointer (some ⟨a, 0, none⟩)) ∧ w.heap[a]? = some (.cells #[.int .i64 x, .iface 26 (.int .i64 n)] 109 (0, 0))
def ErrIn (w : World) (ev : Value) (n : Int) : Prop := ev = .iface 26 (.int .i64 n) ∨ FaultIn w ev n
theorem ErrIn.shape {w : World} {ev : Value} {n : Int} (h : ErrIn w ev n) : ∃ t v, ev = .iface t v := by
 rcases h with rfl | ⟨a, x, rfl, _⟩
 · exact ⟨_, _, rfl⟩
 · exact ⟨_, _, rfl⟩
theorem told_hin {n : Int} {ev : Value} (w : World) (he : ErrIn w ev n) (het : Et w) : Calls Tryz.prog 51 #[ev, .iface 105 (.pointer (some ⟨w.heap.size, 0, none⟩))] (w.alloc (.cells #[.int .i64 0] 26)) (AsPost ⟨w.heap.size, 0, none⟩ n (w.alloc (.cells #[.int .i64 0] 26))) := by
 have hgl := World.block_lt_of_cell? w ⟨0, 0, none⟩ het;have he2 : Et (w.alloc (.cells #[.int .i64 0] 26)) := by unfold Et; rw [World.cell?_alloc_lt _ _ ⟨0, 0, none⟩ hgl]; exact het
 rcases he with rfl | ⟨a, x, rfl, h⟩
 · exact errAs_no n _ (.int .i64 0) _ he2 (by simp) (by simp)
 · exact errAs_fault a x n _ (.int .i64 0) _ (by rw [Below.heap_alloc _ _ a (lt_heap h)]; exact h) he2 (by simp) (by simp)
theorem zkh (s : Value) (w : World) : Calls Tryz.prog 29 #[s, .nilIface] w (z06 (.tuple #[s, .int .i64 0]) w) := by
 have Hin := zh (fun t w => zan t w)
 go_enter Tryz.func29, Tryz.ntmps29
 go_wp2_with fail
 refine (Hin.out _ _).mono ?_;rintro e w' ⟨rfl, rfl⟩
 go_wp2
 go_ret2
 exact ⟨rfl, below_new w _⟩
theorem zki {s ev : Value} {n : Int} (w : World) (h : ErrIn w ev n) (het : Et w) : Calls Tryz.prog 29 #[s, ev] w (z06 (.tuple #[.slice none 0 0, .int .i64 n]) w) := by
 obtain ⟨t, v, rfl⟩ := h.shape;have Hin := zh (told_hin w h het); clear het h
 go_enter Tryz.func29, Tryz.ntmps29
 go_wp2_with fail
 refine Hin.out.mono ?_;rintro e w' ⟨rfl, hg, hc⟩
 go_wp2_with fail
 go_big_region
 go_wp2_with fail
 go_ret2
 exact ⟨rfl, (z1a hg).drew⟩
theorem zkj (s : Value) (w : World) : Calls Tryz.prog 33 #[s, .nilIface] w (z06 (.tuple #[s, .int .i64 0]) w) := by
 have Hin := zh (fun t w => zan t w)
 go_enter Tryz.func33, Tryz.ntmps33
 go_wp2_with fail
 refine (Hin.out _ _).mono ?_;rintro e w' ⟨rfl, rfl⟩
 go_wp2
 go_ret2
 exact ⟨rfl, below_new w _⟩
theorem zkk {s ev : Value} {n : Int} (w : World) (h : ErrIn w ev n) (het : Et w) : Calls Tryz.prog 33 #[s, ev] w (z06 (.tuple #[.slice none 0 0, .int .i64 n]) w) := by
 obtain ⟨t, v, rfl⟩ := h.shape;have Hin := zh (told_hin w h het); clear het h
 go_enter Tryz.func33, Tryz.ntmps33
 go_wp2_with fail
 refine Hin.out.mono ?_;rintro e w' ⟨rfl, hg, hc⟩
 go_wp2_with fail
 go_big_region
 go_wp2_with fail
 go_ret2
 exact ⟨rfl, (z1a hg).drew⟩
theorem zkl (s : Value) (w : World) : Calls Tryz.prog 39 #[s, .nilIface] w (z06 (.tuple #[s, .int .i64 0]) w) := by
 have Hin := zh (fun t w => zan t w)
 go_enter Tryz.func39, Tryz.ntmps39
 go_wp2_with fail
 refine (Hin.out _ _).mono ?_;rintro e w' ⟨rfl, rfl⟩
 go_wp2
 go_ret2
 exact ⟨rfl, below_new w _⟩
theorem zkm {s ev : Value} {n : Int} (w : World) (h : ErrIn w ev n) (het : Et w) : Calls Tryz.prog 39 #[s, ev] w (z06 (.tuple #[.slice none 0 0, .int .i64 n]) w) := by
 obtain ⟨t, v, rfl⟩ := h.shape;have Hin := zh (told_hin w h het); clear het h
 go_enter Tryz.func39, Tryz.ntmps39
 go_wp2_with fail
 refine Hin.out.mono ?_;rintro e w' ⟨rfl, hg, hc⟩
 go_wp2_with fail
 go_big_region
 go_wp2_with fail
 go_ret2
 exact ⟨rfl, (z1a hg).drew⟩
theorem zkn (s : Value) (w : World) : Calls Tryz.prog 42 #[s, .nilIface] w (z06 (.tuple #[s, .int .i64 0]) w) := by
 have Hin := zh (fun t w => zan t w)
 go_enter Tryz.func42, Tryz.ntmps42
 go_wp2_with fail
 refine (Hin.out _ _).mono ?_;rintro e w' ⟨rfl, rfl⟩
 go_wp2
 go_ret2
 exact ⟨rfl, below_new w _⟩
theorem zko {s ev : Value} {n : Int} (w : World) (h : ErrIn w ev n) (het : Et w) : Calls Tryz.prog 42 #[s, ev] w (z06 (.tuple #[.slice none 0 0, .int .i64 n]) w) := by
 obtain ⟨t, v, rfl⟩ := h.shape;have Hin := zh (told_hin w h het); clear het h
 go_enter Tryz.func42, Tryz.ntmps42
 go_wp2_with fail
 refine Hin.out.mono ?_;rintro e w' ⟨rfl, hg, hc⟩
 go_wp2_with fail
 go_big_region
 go_wp2_with fail
 go_ret2
 exact ⟨rfl, (z1a hg).drew⟩
end Go.Proofs.YtgjddkeogboojaaGreatDoor.Pk
namespace Go.Proofs.YtgjddkeogboojaaGreatDoor.Dl
open Go Go.RowKit
def bv (x : UInt8) : Value := .int .u8 (x.toNat : Int)
def SV (l : zB) : Value := .string ⟨l.toArray⟩
theorem ret_bool {a b : Bool} (h : a = b) : Ending.returned (.bool a) = .returned (.bool b) := by rw [h]
theorem add_none (g o j : Nat) : (⟨g, o, none⟩ : Addr).add j = ⟨g, o + j, none⟩ := by unfold Addr.add; split <;> simp_all
theorem below_new (w : World) (o : Obj) : Below w.heap.size w (w.alloc o) := (Below.refl _ w).alloc zl o
theorem lt_of_block {w : World} {g : Nat} {o : Obj} (h : w.heap[g]? = some o) : g < w.heap.size := by
 rcases Nat.lt_or_ge g w.heap.size with hlt | hge
 · exact hlt
 · rw [Array.getElem?_eq_none hge] at h; cases h
def Rb (w : World) (v : Value) (l : zB) : Prop :=
 ((∃ A, v = .slice A 0 0) ∧ l = []) ∨ ∃ g o c, v = .slice (some ⟨g, o, none⟩) l.length c ∧ l.length ≤ c ∧ g < w.heap.size ∧ ∀ j, j < l.length → w.cell? ⟨g, o + j, none⟩ = some (.int .u8 ((l.getD j 0).toNat : Int))
theorem Rb.below {w w' : World} {v : Value} {l : zB} {b : Nat} (h : Rb w v l) (hb : Below b w w') (hlt : w.heap.size ≤ b) : Rb w' v l := by
 rcases h with h | ⟨g, o, c, rfl, hc, hg, hcell⟩
 · exact .inl h
 · exact .inr ⟨g, o, c, rfl, hc, Nat.lt_of_lt_of_le hg hb.size, fun j hj => by rw [hb.cell (p := ⟨g, o + j, none⟩) (by show g < b; omega)]; exact hcell j hj⟩
theorem Rb.shape {w : World} {v : Value} {l : zB} (h : Rb w v l) : ∃ A c, v = .slice A l.length c ∧ l.length ≤ c := by
 rcases h with ⟨⟨A, rfl⟩, rfl⟩ | ⟨g, o, c, rfl, hc, _⟩
 · exact ⟨A, 0, rfl, Nat.zero_le _⟩
 · exact ⟨_, _, rfl, hc⟩
theorem Rb.conv {w : World} {v : Value} {l : zB} (h : Rb w v l) : (convert 23 9 v).run Tryz.prog w = .ok (.string ⟨l.toArray⟩) w := by
 rcases h with ⟨⟨A, rfl⟩, rfl⟩ | ⟨g, o, c, rfl, _, _, hc⟩
 · cases A with
   | none =>
     rw [run_convert_bytes_string w _ _ _ none 0 0 Tryz.underlying23 Tryz.underlying5 Tryz.underlying9];simp [Conv.bytesToString]; rfl
   | some a => exact run_convert_bytes_back w _ _ _ a 0 [] Tryz.underlying23 Tryz.underlying5 Tryz.underlying9 fun j hj => absurd hj (Nat.not_lt_zero _)
 · refine run_convert_bytes_back w _ _ _ ⟨g, o, none⟩ c l Tryz.underlying23 Tryz.underlying5 Tryz.underlying9 fun j hj => ?_;rw [add_none, hc j hj, zg, zj hj]; rfl
def Ow (w : World) (base : Nat) (v : Value) (l : zB) : Prop := w.ownsRow base 5 1 v l.length (l.map bv)
theorem Ow.rb {w : World} {base : Nat} {v : Value} {l : zB} (h : Ow w base v l) : Rb w v l := by
 obtain ⟨h1, h2⟩ := h;rcases h2 with ⟨rfl, h2⟩ | ⟨g, cap, cur, rfl, hb, hg, hn, hm, hs, ht⟩
 · exact .inl ⟨⟨_, rfl⟩, List.length_eq_zero_iff.1 h2⟩
 · refine .inr ⟨g, 0, cap, rfl, hn, lt_of_block hg, fun j hj => ?_⟩;rw [Nat.zero_add, cell_of_row w g j _ _ _ hg];have h3 : (cur.toList.take (l.length * 1))[j]? = (l.map bv)[j]? := by rw [ht]
   rw [List.getElem?_take, if_pos (by omega), Array.getElem?_toList] at h3;rw [h3, List.getElem?_map, zj hj, zg, zj hj]; rfl
theorem Ow.below {w w' : World} {base b : Nat} {v : Value} {l : zB} (h : Ow w base v l) (hb : Below b w w') (hlt : w.heap.size ≤ b) : Ow w' base v l := by
 obtain ⟨h1, h2⟩ := h;refine ⟨h1, ?_⟩;rcases h2 with h2 | ⟨g, cap, cur, rfl, hbg, hg, r⟩
 · exact .inl h2
 · exact .inr ⟨g, cap, cur, rfl, hbg, (hb.block g (Nat.lt_of_lt_of_le (lt_of_block hg) hlt)).trans hg, r⟩
theorem Ow.nil (w : World) (base : Nat) : Ow w base (.slice none 0 0) [] := World.ownsRow_nil w base _ _
theorem rb_one (w : World) (c : UInt8) : Rb (w.alloc (.cells #[.int .u8 (c.toNat : Int)] 5)) (.slice (some ⟨w.heap.size, 0, none⟩) 1 1) [c] :=
 .inr ⟨w.heap.size, 0, 1, rfl, Nat.le_refl _, by simp, fun j hj => by
  have h0 : j = 0 := by simpa using hj
  subst h0;rw [Nat.zero_add, cell_of_row (w.alloc _) w.heap.size 0 _ _ _ (heap_alloc_new w _)]; rfl⟩
theorem bv_one (l : zB) : ∀ u ∈ l.map bv, u.oneCell' = true := by
 intro u hu;obtain ⟨b, _, rfl⟩ := List.mem_map.1 hu;rfl
theorem zzzh : (Tryz.prog.info? 5).map (fun i => (i.zero, i.size, i.bytes)) = some (some (.int .u8 0), 1, 1) := by kernel_rfl
theorem run_app {w : World} {base : Nat} {v sv : Value} {l m : zB} (h : Ow w base v l) (hs : Rb w sv m) (hl : l.length + m.length ≤ 140737488355328) (hb : base ≤ w.heap.size) (ty : TypeId) :
 ∃ v' w', (Builtin.append_ #[23, 23] ty #[v, sv]).run Tryz.prog w = .ok v' w' ∧ Ow w' base v' (l ++ m) ∧ Below base w w' := by
 have key : ∀ (a : Addr) (c : Nat), sv = .slice (some a) m.length c → (∀ j u, (m.map bv)[j]? = some u → w.cell? (a.add j) = some u) →
  ∃ v' w', (Builtin.append_ #[23, 23] ty #[v, sv]).run Tryz.prog w = .ok v' w' ∧ Ow w' base v' (l ++ m) ∧ Below base w w' := by
  rintro a c rfl hcell;obtain ⟨i, hi⟩ : ∃ i, Tryz.prog.info? 5 = some i := Option.isSome_iff_exists.1 (by kernel_rfl);have hi0 := zzzh;rw [hi] at hi0;simp only [Option.map_some, Option.some.injEq, Prod.mk.injEq] at hi0;obtain ⟨v', w', h1, h2, h3, _⟩ := run_append_own (P := Tryz.prog) w base 23 ty 5 i (.int .u8 0) 1 1 Tryz.underlying23 hi hi0.1 hi0.2.1 hi0.2.2 rfl (by omega) v l.length (l.map bv) h a m.length c (m.map bv) (by simp) hcell (bv_one m) (by unfold maxLen; omega) (by omega) hb;refine ⟨v', w', h1, by unfold Ow; rw [List.length_append, List.map_append]; exact h2, ⟨h3.os, h3.tape, h3.output, h3.size, fun k hk => h3.block k (by omega) ?_⟩⟩;intro e;have := (h.lt k e.symm).1;omega
 rcases hs with ⟨⟨A, rfl⟩, rfl⟩ | ⟨g, o, c, rfl, hc, hg, hcell⟩
 · cases A with
   | some a => exact key a 0 rfl fun j u hj => by simp at hj
   | none =>
     obtain ⟨i, hi⟩ : ∃ i, Tryz.prog.info? 5 = some i := Option.isSome_iff_exists.1 (by kernel_rfl);refine ⟨v, w, run_append_owned_none (P := Tryz.prog) (w := w) base 23 ty 5 i 1 Tryz.underlying23 hi v l.length (l.map bv) h, by rw [List.append_nil]; exact h, Below.refl _ _⟩
 · refine key ⟨g, o, none⟩ c rfl fun j u hj => ?_;rw [List.getElem?_map] at hj;by_cases hjm : j < m.length
   · rw [zj hjm] at hj;rw [add_none, hcell j hjm, zg, zj hjm];exact hj
   · rw [List.getElem?_eq_none (by omega)] at hj; cases hj
theorem wpList_app {ops : Array Oper} {rest : List Oper} {o : Oper} {a : Act} {w : World} {Q : Exit → Act → World → Prop} (hgd : o.guard = none) (s x : Operand)
 (ho : o.op = .call { callee := .builtin .append, args := #[s, x], argTypes := #[23, 23] }) (base : Nat) (v sv : Value) (l m : zB) (hs : a.eval s = v) (hx : a.eval x = sv)
 (h : Ow w base v l) (hr : Rb w sv m) (hl : l.length + m.length ≤ 140737488355328) (hb : base ≤ w.heap.size)
 (k : ∀ v' w', Ow w' base v' (l ++ m) → Below base w w' → wpList Tryz.prog ops Q rest (a.put o.dst v') w') : wpList Tryz.prog ops Q (o :: rest) a w := by
 refine wpList_plain hgd fun K hK => ?_;obtain ⟨v', w', h1, h2, h3⟩ := run_app h hr hl hb o.type;unfold Oper.wp;simp [execOp, ho, resolve, invoke, builtin, hs, hx, h1, Result.andThen];exact hK _ _ (k v' w' h2 h3)
theorem extract_S (p : zB) (a b : Nat) : (⟨p.toArray⟩ : ByteArray).extract a b = ⟨((p.take b).drop a).toArray⟩ := by
 apply ByteArray.ext;rw [ByteArray.data_extract];apply Array.ext';simp [List.drop_take]
theorem append_S (p q : zB) : (⟨p.toArray⟩ : ByteArray) ++ (⟨q.toArray⟩ : ByteArray) = ⟨(p ++ q).toArray⟩ := by
 apply ByteArray.ext;rw [ByteArray.data_append];apply Array.ext';simp
theorem lt_heap {w : World} {g : Nat} {o : Obj} (h : w.heap[g]? = some o) : g < w.heap.size := by
 rcases Nat.lt_or_ge g w.heap.size with hlt | hge
 · exact hlt
 · rw [Array.getElem?_eq_none hge] at h; cases h
theorem cell_to {w w' : World} {a : Addr} {v : Value} (h : w.cell? a = some v) (hb : Below w.heap.size w w') : w'.cell? a = some v :=
 (hb.cell (World.block_lt_of_cell? w a h)).trans h
section
variable {P : Program} {ops : Array Oper} {Q : Exit → Go.Act → World → Prop} {S : World → Prop}
theorem held_start (S : World → Prop) {id : Nat} {a : Go.Act} {w : World} (hm : P.follows .mixedOrders = true) (h : wpAnyH P .any ops Q S ops.size (Array.replicate ops.size false) a w.drew) : (Code.region id ops true).wp P Q a w :=
 wp_region_held hm h
theorem held_take (i : Nat) (v : Value) {oi : Oper} {fuel : Nat} {listed : Array Bool} {a : Go.Act} {w : World} (hi : ops[i]? = some oi)
 (hs : Region.noSelect ops = true) (hf : Region.free .any ops listed i = true) (hr : (Region.ready .any ops listed).contains i = true)
 (hQ : ∀ c a w, Q (.panic c) (a.put oi.dst v) w → Q (.panic c) a w) (hw : Region.wanted oi (yielded ops a.tmps) = true)
 (hy : ∀ W, S W → (execOp a.eval oi).run P W = .ok (.value v) W) (hS : S w)
 (h : wpAnyH P .any ops Q S fuel (listed.setIfInBounds i true) (a.put oi.dst v) w) : wpAnyH P .any ops Q S (fuel + 1) listed a w :=
 wpAnyH_take hi hs hf hr hQ (.inl ⟨hw, hy⟩) hS h
theorem held_op {i : Nat} (v : Value) (w' : World) {oi : Oper} {fuel : Nat} {listed : Array Bool} {a : Go.Act} {w : World} (hi : ops[i]? = some oi) (hw : Region.wanted oi (yielded ops a.tmps) = true)
 (he : (execOp a.eval oi).run P w = .ok (.value v) w') (hS : S w') (h : wpAnyH P .any ops Q S fuel (listed.setIfInBounds i true) (a.put oi.dst v) w') :
 wpOp P ops Q i (fun a' w' => S w' ∧ wpAnyH P .any ops Q S fuel (listed.setIfInBounds i true) a' w') a w := by
 unfold wpOp;rw [hi];simp only;rw [if_pos hw];left;unfold Oper.wp;rw [he];exact ⟨hS, h⟩
theorem held_one {i : Nat} {fuel : Nat} {listed : Array Bool} {a : Go.Act} {w : World} (hr : Region.ready .any ops listed = [i])
 (h : wpOp P ops Q i (fun a' w' => S w' ∧ wpAnyH P .any ops Q S fuel (listed.setIfInBounds i true) a' w') a w) : wpAnyH P .any ops Q S (fuel + 1) listed a w :=
 wpAnyH_all hr (by simp) (fun j hj => by have e : j = i := by simpa using hj
                                         subst e; exact h)
theorem held_done {listed : Array Bool} {a : Go.Act} {w : World} (fuel : Nat) (hr : Region.ready .any ops listed = []) (h : Q .normal a w) : wpAnyH P .any ops Q S fuel listed a w :=
 wpAnyH_done hr h fuel
end
section
variable {P : Program} {a : Go.Act} {o : Oper} {W : World}
theorem y_bin {op : BinOp} {s t : Operand} {ty ty' : TypeId} {x y r : Value} (ho : o.op = .binOp op ty s t ty') (hs : a.eval s = x) (ht : a.eval t = y)
 (hg : (eqGuard op ty s t x y).run P W = .ok () W) (hb : (binOp op ty x y).run P W = .ok r W) : (execOp a.eval o).run P W = .ok (.value r) W := by
 subst hs ht;simp only [execOp, ho];simp [Sem.run_bind, hg, hb, Result.andThen]
theorem y_conv {s : Operand} {ty ty' : TypeId} {x r : Value} (ho : o.op = .convert ty ty' s) (hs : a.eval s = x) (hc : (convert ty ty' x).run P W = .ok r W) : (execOp a.eval o).run P W = .ok (.value r) W := by
 subst hs;simp only [execOp, ho];simp [hc, Result.andThen]
end
section
variable {P : Program} {a : Go.Act} {o : Oper} {W : World}
theorem y_slice {t : TypeId} {x : Operand} {lo hi mx : Option Operand} {xv r : Value} {lv hv mv : Option Value} (ho : o.op = .slice t x lo hi mx) (hx : a.eval x = xv) (hl : lo.map a.eval = lv) (hh : hi.map a.eval = hv) (hm : mx.map a.eval = mv)
 (hs : (Instr.sliceAt t xv lv hv mv).run P W = .ok r W) : (execOp a.eval o).run P W = .ok (.value r) W := by
 subst hx hl hh hm;simp only [execOp, ho];simp [hs, Result.andThen]
end
def z7c (n : Int) : Bool := decide (0 ≤ n) && decide (n ≤ 1099511627776)
theorem zbm (n : Int) (w : World) : Calls Tryz.prog 71 #[.int .i64 n] w fun e w' => e = .returned (.bool (z7c n)) ∧ w = w' := by
 unfold z7c
 go_enter Tryz.func71, Tryz.ntmps71
 go_wp2
 all_goals (go_ret; refine ⟨ret_bool ?_, rfl⟩; first | rfl | (rw [Bool.eq_iff_iff]; simp; done) | (rw [Bool.eq_iff_iff]; simp; omega) | (simp; omega))
def gN (r : Option (Nat × Nat)) : Nat := match r with | some x => x.1 | none => 0
def gK (r : Option (Nat × Nat)) : Nat := match r with | some x => x.2 | none => 0
def gotV (r : Option (Nat × Nat)) : Value := .tuple #[.int .i64 (gN r : Int), .int .i64 (gK r : Int), .bool r.isSome]
theorem gotV_some (n k : Nat) : gotV (some (n, k)) = .tuple #[.int .i64 (n : Int), .int .i64 (k : Int), .bool true] := rfl
theorem gotV_none : gotV none = .tuple #[.int .i64 0, .int .i64 0, .bool false] := rfl
theorem zkp (n d h : Nat) (hn : n ≤ 9223372036854775807) (hd : d ≤ 5) (hh : h < 128) (w : World) :
 Calls Tryz.prog 111 #[.int .i64 (n : Int), .int .i64 ((d : Int) + 1), .int .i64 (h : Int)] w fun e w' =>
  e = .returned (gotV (if (h = 0 ∧ 0 < d) ∨ 1099511627776 < n then none else some (n, d + 1))) ∧ w = w' := by
 have HF := zh (zbm (n : Int));by_cases h1 : h = 0 ∧ 0 < d
 · obtain ⟨rfl, h1⟩ := h1;rw [if_pos (.inl ⟨rfl, h1⟩), gotV_none]
   go_enter Tryz.func111, Tryz.ntmps111
   go_wp2_with fail
   go_ret3
   exact ⟨rfl, rfl⟩
 · by_cases h2 : 1099511627776 < n
   · rw [if_pos (.inr h2), gotV_none];have hf : z7c (n : Int) = false := by unfold z7c; simp; omega
     rw [hf] at HF;by_cases h3 : h = 0
     · have h4 : ¬ 0 < d := fun h => h1 ⟨h3, h⟩;subst h3;clear h1 hf
       go_enter Tryz.func111, Tryz.ntmps111
       go_wp2_with ((with_reducible refine (HF.out _).mono ?_); rintro e w' ⟨rfl, rfl⟩)
       go_ret3
       exact ⟨rfl, rfl⟩
     · clear h1 hf;have h5 : 0 < h := by omega
       go_enter Tryz.func111, Tryz.ntmps111
       go_wp2_with ((with_reducible refine (HF.out _).mono ?_); rintro e w' ⟨rfl, rfl⟩)
       go_ret3
       exact ⟨rfl, rfl⟩
   · rw [if_neg (by omega), gotV_some];have hf : z7c (n : Int) = true := by unfold z7c; simp; omega
     rw [hf] at HF;by_cases h3 : h = 0
     · have h4 : ¬ 0 < d := fun h => h1 ⟨h3, h⟩;subst h3;clear h1 hf
       go_enter Tryz.func111, Tryz.ntmps111
       go_wp2_with ((with_reducible refine (HF.out _).mono ?_); rintro e w' ⟨rfl, rfl⟩)
       go_ret3
       exact ⟨rfl, rfl⟩
     · clear h1 hf;have h5 : 0 < h := by omega
       go_enter Tryz.func111, Tryz.ntmps111
       go_wp2_with ((with_reducible refine (HF.out _).mono ?_); rintro e w' ⟨rfl, rfl⟩)
       go_ret3
       exact ⟨rfl, rfl⟩
theorem pow_bd (k : Nat) (h : k ≤ 6) : 128 ^ k ≤ 4398046511104 := by
 have := Nat.pow_le_pow_right (n := 128) (by decide) h;have e : (128 : Nat) ^ 6 = 4398046511104 := by decide
 omega
theorem zkq (acc d k : Nat) (hd : d < 128) (ha : acc < 128 ^ k) : acc + d * 128 ^ k < 128 ^ (k + 1) := by
 rw [zk0];have h1 : d * 128 ^ k ≤ 127 * 128 ^ k := Nat.mul_le_mul_right _ (by omega);omega
theorem zkr (acc d k : Nat) (z : Int) (hz : z = (d : Int)) (hd : d < 128) (hk : k < 6) (ha : acc < 128 ^ k) : wrap64 ((acc : Int) + wrap64 (z * 2 ^ (7 * k))) = ((acc + d * 128 ^ k : Nat) : Int) := by
 subst hz;have h1 := zkq acc d k hd ha;have h2 := pow_bd (k + 1) (by omega);have e : (2 : Int) ^ (7 * k) = ((128 ^ k : Nat) : Int) := by rw [Int.pow_mul]; simp
 have e2 : (d : Int) * ((128 ^ k : Nat) : Int) = ((d * 128 ^ k : Nat) : Int) := by simp
 rw [e, e2];generalize d * 128 ^ k = p at *;generalize 128 ^ (k + 1) = q at *;unfold wrap64;omega
theorem Get_some (w : World) (g o c : Nat) (l : zB) (hl : l.length ≤ maxLen)
 (hr : ∀ j, j < l.length → w.cell? ⟨g, o + j, none⟩ = some (.int .u8 ((l.getD j 0).toNat : Int))) :
 Calls Tryz.prog 98 #[.slice (some ⟨g, o, none⟩) l.length c] w fun e w' => e = .returned (gotV (getL l)) ∧ w = w' := by
 unfold maxLen at hl;have HR := zh hr; clear hr;obtain ⟨n, hn⟩ := zx l.length;obtain ⟨m, hm⟩ := zx (min n 6);rw [← hn] at HR hl ⊢;have Hm := zh hm;have Hn := zh hn;have hmi : min (n : Int) 6 = (m : Int) := by omega
 have hm6 : m ≤ 6 := by omega
 have hmn : m ≤ n := by omega
 obtain ⟨ra, rb, rc, hrr⟩ : ∃ a b t, gotV (getL l) = .tuple #[.int .i64 ((a : Nat) : Int), .int .i64 ((b : Nat) : Int), .bool t] := ⟨_, _, _, rfl⟩
 have Hr := zh hrr;rw [hrr];clear hm hn hrr
 go_enter Tryz.func98, Tryz.ntmps98
 go_wp2
 go_loop [5, 12] (fun vn vi => ∃ (k acc : Nat), k ≤ m ∧ vi = .int .i64 k ∧ vn = .int .i64 acc ∧ Hid (acc < 128 ^ k) ∧ Hid (getG (6 - k) k acc (l.drop k) = getL l)) (fun _ vi => m - (intOf vi).toNat)
 case atStart => exact ⟨0, 0, Nat.zero_le _, rfl, rfl, zh (by decide), zh rfl⟩
 case round =>
  obtain ⟨k, acc, hk, rfl, rfl, hacc, hg⟩ := hrel;by_cases hlt : k < m
  · obtain ⟨x, hx⟩ := zx (l.getD k 0);have cx := HR.out k (by omega);rw [← hx] at cx;have hxl := x.toNat_lt;have Hx := zh hx;clear hx
    have hd : l.drop k = x :: l.drop (k + 1) := by
     rw [Hx.out, zg, zj (by have := Hn.out; omega)];exact List.drop_eq_getElem_cons (by have := Hn.out; omega)
    have hstep := hg.out;rw [hd, show 6 - k = 5 - k + 1 by omega] at hstep;have Hstep := zh hstep;clear hd hstep;by_cases h128 : 128 ≤ x.toNat
    · go_wp2
      go_round
      case rel =>
       refine ⟨k + 1, acc + (x.toNat - 128) * 128 ^ k, by omega, by go_num, by rw [zkr acc (x.toNat - 128) k _ (by omega) (by omega) (by omega) hacc.out], ?_, ?_⟩
       · exact zkq acc _ k (by omega) hacc.out
       · have := Hstep.out;rw [getG, if_pos h128, show 5 - k = 6 - (k + 1) by omega] at this;exact this
      case measure => simp [intOf]; omega
    · have hw := zh (zkr acc x.toNat k _ rfl (by omega) (by omega) hacc.out)
      have HW : Hid (∀ (nn : Nat) (W : World), nn = acc + x.toNat * 128 ^ k → Calls Tryz.prog 111 #[.int .i64 (nn : Int), .int .i64 ((k : Int) + 1), .int .i64 (x.toNat : Int)] W fun e w' => e = .returned (.tuple #[.int .i64 (ra : Int), .int .i64 (rb : Int), .bool rc]) ∧ W = w') := zh fun nn W hnn => by
       rw [← Hr.out];have h1 := zkq acc x.toNat k (by omega) hacc.out;have h2 := pow_bd (k + 1) (by omega);rw [← hnn] at h1;have h3 := Hstep.out;rw [getG, if_neg h128, ← hnn] at h3;rw [← h3];exact zkp nn k x.toNat (by omega) (by omega) (by omega) W
      go_wp2_with fail
      rw [hw.out];refine (HW.out _ _ rfl).mono ?_;rintro e w' ⟨rfl, rfl⟩
      go_wp2
      go_ret3
      exact ⟨rfl, rfl⟩
  · have hend : getL l = none := by
     have h := hg.out;have hm := Hm.out;by_cases h6 : n ≤ 5
     · rw [List.drop_eq_nil_of_le (by have := Hn.out; omega)] at h;rw [← h];have : 6 - k = 5 - k + 1 := by omega
       rw [this]; rfl
     · rw [show 6 - k = 0 by omega] at h;rw [← h]; rfl
    have hr := Hr.out;rw [hend, gotV_none] at hr;have HR2 := zh hr;clear hend hr
    go_wp2
    go_ret3
    exact ⟨congrArg Ending.returned HR2.out, rfl⟩
theorem Get_nil (w : World) (A : Option Addr) :
 Calls Tryz.prog 98 #[.slice A 0 0] w fun e w' => e = .returned (gotV (getL [])) ∧ w = w' := by
 rw [show gotV (getL []) = .tuple #[.int .i64 0, .int .i64 0, .bool false] from rfl];have hmi : min (0 : Int) 6 = 0 := by omega
 go_enter Tryz.func98, Tryz.ntmps98
 go_wp2
 go_loop [5, 12] (fun vn vi => vi = .int .i64 0 ∧ vn = .int .i64 0) (fun _ _ => 0)
 case atStart => exact ⟨rfl, rfl⟩
 case round =>
  obtain ⟨rfl, rfl⟩ := hrel
  go_wp2
  go_ret3
  exact ⟨rfl, rfl⟩
theorem Get_any (w : World) (v : Value) (l : zB) (hl : l.length ≤ maxLen) (hr : Rb w v l) :
 Calls Tryz.prog 98 #[v] w fun e w' => e = .returned (gotV (getL l)) ∧ w = w' := by
 rcases hr with ⟨⟨A, rfl⟩, rfl⟩ | ⟨g, o, c, rfl, _, _, hcell⟩
 · exact Get_nil w A
 · exact Get_some w g o c l hl hcell
end Go.Proofs.YtgjddkeogboojaaGreatDoor.Dl
