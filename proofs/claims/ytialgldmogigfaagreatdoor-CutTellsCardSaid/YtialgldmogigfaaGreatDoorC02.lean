/-
  Strings, slices of texts, of items, of wants, as they lie in memory.
  Errors inside object: need, within; errors.As at a fault: told.
  What may be: words, names, parts, who.
-/
import Derived.Lib.Hide
import Derived.Laws.AppendOwnNone
import Derived.Deep.RegionHeld3
import Derived.Lib.IndexLaws
import Derived.Test.YtialgldmogigfaaGreatDoorC01
import Derived.LaidEql
import Derived.LaidEqlPtr
import Derived.Stop.Asserts
import Derived.RowKitTokens
import Derived.Deep.QuietTactic
import Derived.BigQuiet
import Derived.IntWalk
import Derived.Shelf.Abstract
import Derived.Shelf.SlSorted.Search

namespace Go.Proofs.YtialgldmogigfaaGreatDoor
open Go Go.RowKit
def SV (l : List UInt8) : Value := .string ⟨l.toArray⟩
theorem ret_bool {a b : Bool} (h : a = b) : Ending.returned (.bool a) = .returned (.bool b) := by rw [h]
theorem ret_u8 {a b : Int} (h : a = b) : Ending.returned (.int .u8 a) = .returned (.int .u8 b) := by rw [h]
theorem append_S (p q : List UInt8) : (⟨p.toArray⟩ : ByteArray) ++ (⟨q.toArray⟩ : ByteArray) = ⟨(p ++ q).toArray⟩ := by
  apply ByteArray.ext
  rw [ByteArray.data_append]
  apply Array.ext'
  simp
theorem extract_S (p : List UInt8) (a b : Nat) : (⟨p.toArray⟩ : ByteArray).extract a b = ⟨((p.take b).drop a).toArray⟩ := by
  apply ByteArray.ext
  rw [ByteArray.data_extract]
  apply Array.ext'
  simp [List.drop_take]
theorem lt_heap {w : World} {g : Nat} {o : Obj} (h : w.heap[g]? = some o) : g < w.heap.size := by
  rcases Nat.lt_or_ge g w.heap.size with hlt | hge
  · exact hlt
  · rw [Array.getElem?_eq_none hge] at h; cases h
/-- The slice value v holds, element by element, the k cells that f tells. -/
def RdK {α : Type} (k : Nat) (f : α → List Value) (w : World) (v : Value) (l : List α) : Prop :=
  ((∃ A c, v = .slice A 0 c) ∧ l = []) ∨ ∃ g o c, v = .slice (some ⟨g, o, none⟩) l.length c ∧ l.length ≤ c ∧ g < w.heap.size ∧ ∀ j, j < l.length → ∀ x, l[j]? = some x → ∀ i, i < k → w.cell? ⟨g, o + j * k + i, none⟩ = (f x)[i]?
theorem RdK.below {α : Type} {k : Nat} {f : α → List Value} {w w' : World} {v : Value} {l : List α} {b : Nat} (h : RdK k f w v l) (hb : Below b w w') (hlt : w.heap.size ≤ b) : RdK k f w' v l := by
  rcases h with h | ⟨g, o, c, rfl, hc, hg, hcell⟩
  · exact .inl h
  · exact .inr ⟨g, o, c, rfl, hc, Nat.lt_of_lt_of_le hg hb.size, fun j hj x hx i hi => by rw [hb.cell (p := ⟨g, o + j * k + i, none⟩) (by show g < b; omega)]; exact hcell j hj x hx i hi⟩
theorem RdK.shape {α : Type} {k : Nat} {f : α → List Value} {w : World} {v : Value} {l : List α} (h : RdK k f w v l) : ∃ A c, v = .slice A l.length c := by
  rcases h with ⟨⟨A, c, rfl⟩, rfl⟩ | ⟨g, o, c, rfl, hc, _⟩
  · exact ⟨A, c, rfl⟩
  · exact ⟨_, _, rfl⟩
/-- Behind what turned one block that is not its own. -/
theorem RdK.grown {α : Type} {k : Nat} {f : α → List Value} {w w' : World} {v : Value} {l : List α} {r : Option Nat} (h : RdK k f w v l) (hg : w.grownBy w' r) (hr : ∀ g o c, v = .slice (some ⟨g, o, none⟩) l.length c → r ≠ some g) : RdK k f w' v l := by
  rcases h with h | ⟨g, o, c, rfl, hc, hgl, hcell⟩
  · exact .inl h
  · refine .inr ⟨g, o, c, rfl, hc, Nat.lt_of_lt_of_le hgl hg.size, fun j hj x hx i hi => ?_⟩
    have hb := hg.block g hgl (fun e => hr g o c rfl e.symm)
    rw [← hcell j hj x hx i hi]
    exact World.cell?_of_block (w := w) (a := ⟨g, o + j * k + i, none⟩) hb
/-- The slice value v is the call's own, above base, and holds them. -/
def OwK {α : Type} (t : TypeId) (k : Nat) (f : α → List Value) (w : World) (base : Nat) (v : Value) (l : List α) : Prop := w.ownsRow base t k v l.length (l.flatMap f)
theorem flat_length {α : Type} {k : Nat} {f : α → List Value} (hf : ∀ x, (f x).length = k) (l : List α) : (l.flatMap f).length = l.length * k := by
  induction l with
  | nil => simp
  | cons x l ih => rw [List.flatMap_cons, List.length_append, ih, hf, List.length_cons, Nat.add_mul, Nat.one_mul, Nat.add_comm]
theorem flat_get {α : Type} {k : Nat} {f : α → List Value} (hf : ∀ x, (f x).length = k) : ∀ (l : List α) (j : Nat) (x : α), l[j]? = some x → ∀ i, i < k → (l.flatMap f)[j * k + i]? = (f x)[i]?
  | [], j, x, h, i, hi => by simp at h
  | y :: l, 0, x, h, i, hi => by
    simp at h; subst h
    rw [List.flatMap_cons, Nat.zero_mul, Nat.zero_add, List.getElem?_append_left (by rw [hf]; exact hi)]
  | y :: l, j + 1, x, h, i, hi => by
    rw [List.flatMap_cons, List.getElem?_append_right (by rw [hf, Nat.add_mul]; omega), hf, show (j + 1) * k + i - k = j * k + i by rw [Nat.add_mul]; omega]
    exact flat_get hf l j x (by simpa using h) i hi
theorem OwK.rd {α : Type} {t : TypeId} {k : Nat} {f : α → List Value} (hf : ∀ x, (f x).length = k) {w : World} {base : Nat} {v : Value} {l : List α} (h : OwK t k f w base v l) : RdK k f w v l := by
  obtain ⟨h1, h2⟩ := h
  rcases h2 with ⟨rfl, h2⟩ | ⟨g, cap, cur, rfl, hb, hg, hn, hm, hs, ht⟩
  · exact .inl ⟨⟨_, _, rfl⟩, List.length_eq_zero_iff.1 h2⟩
  · refine .inr ⟨g, 0, cap, rfl, hn, lt_heap hg, fun j hj x hx i hi => ?_⟩
    rw [Nat.zero_add, cell_of_row w g (j * k + i) _ _ _ hg]
    have hlt : j * k + i < l.length * k := by
      have : (j + 1) * k ≤ l.length * k := Nat.mul_le_mul_right k hj
      rw [Nat.add_mul] at this; omega
    have h3 : (cur.toList.take (l.length * k))[j * k + i]? = (l.flatMap f)[j * k + i]? := by rw [ht]
    rw [List.getElem?_take, if_pos hlt, Array.getElem?_toList, flat_get hf l j x hx i hi] at h3
    exact h3
theorem OwK.below {α : Type} {t : TypeId} {k : Nat} {f : α → List Value} {w w' : World} {base b : Nat} {v : Value} {l : List α} (h : OwK t k f w base v l) (hb : Below b w w') (hlt : w.heap.size ≤ b) : OwK t k f w' base v l := by
  obtain ⟨h1, h2⟩ := h
  refine ⟨h1, ?_⟩
  rcases h2 with h2 | ⟨g, cap, cur, rfl, hbg, hg, r⟩
  · exact .inl h2
  · exact .inr ⟨g, cap, cur, rfl, hbg, (hb.block g (Nat.lt_of_lt_of_le (lt_heap hg) hlt)).trans hg, r⟩
theorem OwK.mono {α : Type} {t : TypeId} {k : Nat} {f : α → List Value} {w : World} {base b : Nat} {v : Value} {l : List α} (h : OwK t k f w base v l) (hb : b ≤ base) : OwK t k f w b v l := by
  obtain ⟨h1, h2⟩ := h
  refine ⟨h1, ?_⟩
  rcases h2 with h2 | ⟨g, cap, cur, rfl, hbg, r⟩
  · exact .inl h2
  · exact .inr ⟨g, cap, cur, rfl, Nat.le_trans hb hbg, r⟩
theorem OwK.nil {α : Type} (t : TypeId) (k : Nat) (f : α → List Value) (w : World) (base : Nat) : OwK t k f w base (.slice none 0 0) ([] : List α) := World.ownsRow_nil w base _ _
def strC (s : List UInt8) : List Value := [SV s]
def itmC (x : Itm) : List Value := [.int .i64 x.mode, SV x.name, SV x.id]
def wantV (x : List UInt8 × Int) : List Value := [SV x.1, .int .i64 x.2]
theorem strC_len (x : List UInt8) : (strC x).length = 1 := rfl
theorem itmC_len (x : Itm) : (itmC x).length = 3 := rfl
theorem wantV_len (x : List UInt8 × Int) : (wantV x).length = 2 := rfl
def StrsR (w : World) (v : Value) (l : List (List UInt8)) : Prop := RdK 1 strC w v l
def ItmsR (w : World) (v : Value) (l : List Itm) : Prop := RdK 3 itmC w v l
def WantsR (w : World) (v : Value) (l : List (List UInt8 × Int)) : Prop := RdK 2 wantV w v l
theorem StrsR.cell {w : World} {g o n c : Nat} {l : List (List UInt8)} (h : StrsR w (.slice (some ⟨g, o, none⟩) n c) l) (k : Nat) (hk : k < l.length) : w.cell? ⟨g, o + k, none⟩ = some (SV (l.getD k [])) := by
  rcases h with ⟨_, rfl⟩ | ⟨g', o', c', e, hc, hg, hcell⟩
  · simp at hk
  · cases e
    have := hcell k hk _ (List.getElem?_eq_getElem hk) 0 (by omega)
    rw [Nat.mul_one, Nat.add_zero] at this
    rw [this, List.getD_eq_getElem?_getD, List.getElem?_eq_getElem hk]; rfl
theorem ItmsR.cells {w : World} {g o n c : Nat} {l : List Itm} (h : ItmsR w (.slice (some ⟨g, o, none⟩) n c) l) (k : Nat) (hk : k < l.length) :
    w.cell? ⟨g, o + k * 3, none⟩ = some (.int .i64 (l.getD k noItm).mode) ∧ w.cell? ⟨g, o + k * 3 + 1, none⟩ = some (SV (l.getD k noItm).name) ∧ w.cell? ⟨g, o + k * 3 + 2, none⟩ = some (SV (l.getD k noItm).id) := by
  rcases h with ⟨_, rfl⟩ | ⟨g', o', c', e, hc, hg, hcell⟩
  · simp at hk
  · cases e
    have h0 := hcell k hk _ (List.getElem?_eq_getElem hk)
    have e : l.getD k noItm = l[k] := by rw [List.getD_eq_getElem?_getD, List.getElem?_eq_getElem hk]; rfl
    rw [e]
    exact ⟨h0 0 (by omega), h0 1 (by omega), h0 2 (by omega)⟩
theorem WantsR.cells {w : World} {g o n c : Nat} {l : List (List UInt8 × Int)} (h : WantsR w (.slice (some ⟨g, o, none⟩) n c) l) (k : Nat) (hk : k < l.length) :
    w.cell? ⟨g, o + k * 2, none⟩ = some (SV (l.getD k ([], 0)).1) ∧ w.cell? ⟨g, o + k * 2 + 1, none⟩ = some (.int .i64 (l.getD k ([], 0)).2) := by
  rcases h with ⟨_, rfl⟩ | ⟨g', o', c', e, hc, hg, hcell⟩
  · simp at hk
  · cases e
    have h0 := hcell k hk _ (List.getElem?_eq_getElem hk)
    have e : l.getD k ([], 0) = l[k] := by rw [List.getD_eq_getElem?_getD, List.getElem?_eq_getElem hk]; rfl
    rw [e]
    exact ⟨h0 0 (by omega), h0 1 (by omega)⟩
/-- A slice that is not empty lies in a block. -/
theorem RdK.pos {α : Type} {k : Nat} {f : α → List Value} {w : World} {v : Value} {l : List α} (h : RdK k f w v l) (hl : 0 < l.length) : ∃ g o c, v = .slice (some ⟨g, o, none⟩) l.length c ∧ l.length ≤ c ∧ g < w.heap.size := by
  rcases h with ⟨_, rfl⟩ | ⟨g, o, c, rfl, hc, hg, _⟩
  · simp at hl
  · exact ⟨g, o, c, rfl, hc, hg⟩
theorem take_getD {α : Type} (l : List α) (d : α) (k : Nat) (hk : k < l.length) : l.take (k + 1) = l.take k ++ [l.getD k d] := by
  rw [List.take_succ_eq_append_getElem hk, List.getD_eq_getElem?_getD, List.getElem?_eq_getElem hk]; rfl
theorem getD_mem {α : Type} (l : List α) (d : α) (k : Nat) (hk : k < l.length) : l.getD k d ∈ l := by
  rw [List.getD_eq_getElem?_getD, List.getElem?_eq_getElem hk]; exact List.getElem_mem hk
end Go.Proofs.YtialgldmogigfaaGreatDoor


namespace Go.Proofs.YtialgldmogigfaaGreatDoor
open Go Go.RowKit Go.Extern.Stop Go.Stop Go.Extern
/-- What the program's text lays in errors.errorType. -/
def Et (w : World) : Prop := w.cell? ⟨2, 0, none⟩ = some (.iface 167 (.agg #[.pointer (some ⟨8, 107, none⟩)]))
theorem rlm (z : Sem Value) (f : TypeId → Addr → Nat → Nat → Sem Value) (v : Value) :
    ReflectliteValue.method z f #[v] = (do match ← ReflectliteValue.parts v with | none => z | some (t, a, fl) => f t a fl (fl % 32)) := rfl
theorem valueOfP (t : Addr) (w : World) : (ReflectliteValue.unpack (.iface 131 (.pointer (some t)))).run Tryz.prog w
    = .ok (.agg #[.pointer (some ⟨8, 131, none⟩), .pointer (some ⟨w.heap.size, 0, none⟩), .int .u64 150]) (w.alloc (.cells #[.pointer (some t)] 131)) := by kernel_rfl
theorem typeP (a : Addr) (w : World) : (ReflectliteValue.methodAny (ReflectliteValue.valueError "reflectlite.Value.Type" 0) (fun t _ _ _ => ReflectliteType.toType t) #[.agg #[.pointer (some ⟨8, 131, none⟩), .pointer (some a), .int .u64 150]]).run Tryz.prog w
    = .ok (.iface 167 (.agg #[.pointer (some ⟨8, 131, none⟩)])) w := by kernel_rfl
theorem kindP (w : World) : ((ReflectliteType.abiMethod fun t => (fun a : Nat => Value.int IntKind.u8 (a : Int)) <$> Rtype.kind t) #[.pointer (some ⟨8, 131, none⟩)]).run Tryz.prog w = .ok (.int .u8 22) w := by kernel_rfl
theorem kindE (w : World) : ((ReflectliteType.abiMethod fun t => (fun a : Nat => Value.int IntKind.u8 (a : Int)) <$> Rtype.kind t) #[.pointer (some ⟨8, 129, none⟩)]).run Tryz.prog w = .ok (.int .u8 22) w := by kernel_rfl
theorem partsP (a : Addr) (w : World) : (ReflectliteValue.parts (.agg #[.pointer (some ⟨8, 131, none⟩), .pointer (some a), .int .u64 150])).run Tryz.prog w = .ok (some (131, a, 150)) w := by kernel_rfl
theorem isNilP (a p : Addr) (W : World) (ha : W.cell? a = some (.pointer (some p))) :
    (ReflectliteValue.method (ReflectliteValue.valueError "reflectlite.Value.IsNil" 0) ReflectliteValue.isNil #[.agg #[.pointer (some ⟨8, 131, none⟩), .pointer (some a), .int .u64 150]]).run Tryz.prog W = .ok (.bool false) W := by
  rw [rlm]
  simp only [Sem.run_bind, partsP, Result.andThen]
  simp [ReflectliteValue.isNil, loadVar, isAgg, underlying, Tryz.underlying131, ha, Result.andThen]
theorem elemP (w : World) : (ReflectliteType.method ReflectliteType.elem #[.agg #[.pointer (some ⟨8, 131, none⟩)]]).run Tryz.prog w = .ok (.iface 167 (.agg #[.pointer (some ⟨8, 129, none⟩)])) w := by kernel_rfl
theorem implementsE (w : World) : (ReflectliteType.relation "Implements" ReflectliteType.implements_ #[.agg #[.pointer (some ⟨8, 129, none⟩)], .iface 167 (.agg #[.pointer (some ⟨8, 107, none⟩)])]).run Tryz.prog w = .ok (.bool true) w := by kernel_rfl
theorem typeOfF (v : Value) (w : World) : (ReflectliteType.typeOf #[.iface 129 v]).run Tryz.prog w = .ok (.iface 167 (.agg #[.pointer (some ⟨8, 129, none⟩)])) w := by kernel_rfl
theorem assignF (w : World) : (ReflectliteType.relation "AssignableTo" ReflectliteType.assignableTo #[.agg #[.pointer (some ⟨8, 129, none⟩)], .iface 167 (.agg #[.pointer (some ⟨8, 129, none⟩)])]).run Tryz.prog w = .ok (.bool true) w := by kernel_rfl
theorem valueOfE (p : Option Addr) (w : World) : (ReflectliteValue.unpack (.iface 129 (.pointer p))).run Tryz.prog w
    = .ok (.agg #[.pointer (some ⟨8, 129, none⟩), .pointer (some ⟨w.heap.size, 0, none⟩), .int .u64 150]) (w.alloc (.cells #[.pointer p] 129)) := by kernel_rfl
theorem elemOfP (w : World) : (Rtype.elem? 131).run Tryz.prog w = .ok (some 129) w := by kernel_rfl
theorem mkE (p : Addr) (w : World) : (ReflectliteValue.mk 129 p ReflectliteValue.flagAddr).run Tryz.prog w = .ok (.agg #[.pointer (some ⟨8, 129, none⟩), .pointer (some p), .int .u64 406]) w := by kernel_rfl
theorem elemVP (a p : Addr) (W : World) (ha : W.cell? a = some (.pointer (some p))) :
    (ReflectliteValue.method (ReflectliteValue.valueError "reflectlite.Value.Elem" 0) ReflectliteValue.elem #[.agg #[.pointer (some ⟨8, 131, none⟩), .pointer (some a), .int .u64 150]]).run Tryz.prog W
      = .ok (.agg #[.pointer (some ⟨8, 129, none⟩), .pointer (some p), .int .u64 406]) W := by
  rw [rlm]
  simp only [Sem.run_bind, partsP, Result.andThen]
  simp [ReflectliteValue.elem, loadVar, isAgg, underlying, Tryz.underlying131, ha, Result.andThen, elemOfP, mkE]
theorem rls (v x : Value) : ReflectliteValue.set #[v, x] = (do
    let (some (dst, a, fl), some (src, b, _)) := (← ReflectliteValue.parts v, ← ReflectliteValue.parts x)
      | unsupported (.noEntry "extern/(internal/reflectlite.Value).Set.zeroValue")
    if fl / ReflectliteValue.flagAddr % 2 == 0 then unsupported (.noEntry "extern/(internal/reflectlite.Value).Set.unaddressable")
    let val ← loadVar src b
    if ← Rtype.directlyAssignable dst src then storeVar dst a val
    else if ← Rtype.implements dst src then
      if (← Rtype.kind src) == 20 then
        match val with
        | .nilIface => unsupported (.noEntry "extern/reflectlite: a nil value of one interface type handed on as a value of another")
        | _ => storeVar dst a val
      else storeVar dst a (.iface src val)
    else panicString ("reflectlite.Set: value of type " ++ (← Rtype.spelt src) ++ " is not assignable to type " ++ (← Rtype.spelt dst))
    pure (.tuple #[])) := rfl
theorem partsEa (a : Addr) (w : World) : (ReflectliteValue.parts (.agg #[.pointer (some ⟨8, 129, none⟩), .pointer (some a), .int .u64 406])).run Tryz.prog w = .ok (some (129, a, 406)) w := by kernel_rfl
theorem partsE (a : Addr) (w : World) : (ReflectliteValue.parts (.agg #[.pointer (some ⟨8, 129, none⟩), .pointer (some a), .int .u64 150])).run Tryz.prog w = .ok (some (129, a, 150)) w := by kernel_rfl
theorem directE (w : World) : (Rtype.directlyAssignable 129 129).run Tryz.prog w = .ok true w := by kernel_rfl
theorem setE (ta b : Addr) (p : Option Addr) (old : Value) (W : World) (hb : W.cell? b = some (.pointer p)) (ht : W.cell? ta = some old) (hf : W.frozen? ta = false) :
    (ReflectliteValue.set #[.agg #[.pointer (some ⟨8, 129, none⟩), .pointer (some ta), .int .u64 406], .agg #[.pointer (some ⟨8, 129, none⟩), .pointer (some b), .int .u64 150]]).run Tryz.prog W
      = .ok (.tuple #[]) (W.setCell ta (.pointer p)) := by
  rw [rls]
  simp only [Sem.run_bind, partsEa, partsE, Result.andThen]
  simp [ReflectliteValue.flagAddr, loadVar, isAgg, underlying, Tryz.underlying129, hb, Result.andThen, directE, storeVar, Value.cells, storeCells, Addr.add]
  rw [run_store Tryz.prog W ta _ _ (by rfl)]
  simp [ht, hf]
theorem as_nil (t : Value) (w : World) : Calls Tryz.prog 77 #[.nilIface, t] w fun e w' => e = .returned (.bool false) ∧ w' = w := by
  go_enter Tryz.func77, Tryz.ntmps77
  go_wp2
  go_ret
  exact ⟨rfl, rfl⟩
theorem mAssign (h : Value) (w : World) : (Go.method 367 167 (.agg #[h]) "AssignableTo").run Tryz.prog w = .ok (195, .agg #[h]) w := by kernel_rfl
theorem mKind (h : Value) (w : World) : (Go.method 367 167 (.agg #[h]) "Kind").run Tryz.prog w = .ok (185, h) w := by kernel_rfl
theorem mElem (h : Value) (w : World) : (Go.method 367 167 (.agg #[h]) "Elem").run Tryz.prog w = .ok (197, .agg #[h]) w := by kernel_rfl
theorem mImplements (h : Value) (w : World) : (Go.method 367 167 (.agg #[h]) "Implements").run Tryz.prog w = .ok (198, .agg #[h]) w := by kernel_rfl
theorem grown_setCell (w : World) (t : Addr) (u : Value) : w.grownBy (w.setCell t u) (some t.block) :=
  ⟨rfl, rfl, rfl, by simp [World.setCell], fun k _ hk => Below.heap_setCell _ _ _ _ (fun e => hk (by rw [e]))⟩
theorem below_new (w : World) (o : Obj) : Below w.heap.size w (w.alloc o) := (Below.refl _ w).alloc (Nat.le_refl _) o
theorem below_grown_new {w w' : World} {o : Obj} (hg : (w.alloc o).grownBy w' (some w.heap.size)) : Below w.heap.size w w' :=
  (below_new w o).grown hg (by simp) (fun k hk => by cases hk; exact Nat.le_refl _)
/-- What errors.as at a fault comes to. -/
def AsPost (t : Addr) (p : Option Addr) (w : World) (e : Ending) (w' : World) : Prop := e = .returned (.bool true) ∧ w.grownBy w' (some t.block) ∧ w'.cell? t = some (.pointer p)
set_option maxHeartbeats 4000000 in
set_option maxRecDepth 100000 in
theorem as_fault (p : Option Addr) (t v : Addr) (old : Value) (w : World)
    (hv : w.cell? v = some (.pointer (some t))) (ht : w.cell? t = some old) (hf : w.frozen? t = false) :
    Calls Tryz.prog 97 #[.iface 129 (.pointer p), .iface 131 (.pointer (some t)), .agg #[.pointer (some ⟨8, 131, none⟩), .pointer (some v), .int .u64 150], .iface 167 (.agg #[.pointer (some ⟨8, 129, none⟩)])] w (AsPost t p w) := by
  have hTO := @run_callFunc_extern Tryz.prog 102 _ ReflectliteType.typeOf Tryz.func102 (by kernel_rfl) (by kernel_rfl) (by kernel_rfl) (by kernel_rfl)
  have hVO := @run_callFunc_extern Tryz.prog 94 _ (fun args => ReflectliteValue.unpack (args.getD 0 (.tuple #[]))) Tryz.func94 (by kernel_rfl) (by kernel_rfl) (by kernel_rfl) (by kernel_rfl)
  have hAT := @run_callFunc_extern Tryz.prog 195 _ (ReflectliteType.relation "AssignableTo" ReflectliteType.assignableTo) Tryz.func195 (by kernel_rfl) (by kernel_rfl) (by kernel_rfl) (by kernel_rfl)
  have hEl := @run_callFunc_extern Tryz.prog 103 _ (ReflectliteValue.method (ReflectliteValue.valueError "reflectlite.Value.Elem" 0) ReflectliteValue.elem) Tryz.func103 (by kernel_rfl) (by kernel_rfl) (by kernel_rfl) (by kernel_rfl)
  have hSe := @run_callFunc_extern Tryz.prog 104 _ ReflectliteValue.set Tryz.func104 (by kernel_rfl) (by kernel_rfl) (by kernel_rfl) (by kernel_rfl)
  have q1 := typeOfF; have q4 := assignF; have q5 := valueOfE; have q6 := mAssign
  have hvl := World.block_lt_of_cell? w v hv
  have htl := World.block_lt_of_cell? w t ht
  have el := elemVP v t (w.alloc (.cells #[.pointer (some ⟨8, 131, none⟩), .pointer (some v), .int .u64 150] 153)) (by rw [World.cell?_alloc_lt _ _ v hvl]; exact hv)
  have st := setE t ⟨w.heap.size + 1, 0, none⟩ p old ((w.alloc (.cells #[.pointer (some ⟨8, 131, none⟩), .pointer (some v), .int .u64 150] 153)).alloc (.cells #[.pointer p] 129))
    (by rw [World.cell?_alloc_at _ _ _ _ (by simp)]; rfl)
    (by rw [World.cell?_alloc_lt _ _ t (by simp; omega), World.cell?_alloc_lt _ _ t htl]; exact ht)
    (by rw [World.frozen?_alloc_old _ _ t (by simp; omega), World.frozen?_alloc_old _ _ t (Nat.ne_of_lt htl)]; exact hf)
  go_enter Tryz.func97, Tryz.ntmps97
  go_wp2
  refine wp_loop_rounds 1 ?_
  rw [rounds_succ]
  go_wp2_with fail
  go_ret
  refine ⟨rfl, grown_trans (grown_trans (World.grownBy_alloc _ _ _) (World.grownBy_alloc _ _ _)) (grown_setCell _ _ _), World.cell?_setCell_same _ _ _ (u := old) ?_⟩
  rw [World.cell?_alloc_lt _ _ t (by simp; omega), World.cell?_alloc_lt _ _ t htl, ht]
set_option maxHeartbeats 4000000 in
set_option maxRecDepth 100000 in
theorem errAs_fault (p : Option Addr) (t : Addr) (old : Value) (w : World) (het : Et w) (ht : w.cell? t = some old) (hf : w.frozen? t = false) :
    Calls Tryz.prog 77 #[.iface 129 (.pointer p), .iface 131 (.pointer (some t))] w (AsPost t p w) := by
  have hVO := @run_callFunc_extern Tryz.prog 94 _ (fun args => ReflectliteValue.unpack (args.getD 0 (.tuple #[]))) Tryz.func94 (by kernel_rfl) (by kernel_rfl) (by kernel_rfl) (by kernel_rfl)
  have hVT := @run_callFunc_extern Tryz.prog 95 _ (ReflectliteValue.methodAny (ReflectliteValue.valueError "reflectlite.Value.Type" 0) (fun t _ _ _ => ReflectliteType.toType t)) Tryz.func95 (by kernel_rfl) (by kernel_rfl) (by kernel_rfl) (by kernel_rfl)
  have hIN := @run_callFunc_extern Tryz.prog 96 _ (ReflectliteValue.method (ReflectliteValue.valueError "reflectlite.Value.IsNil" 0) ReflectliteValue.isNil) Tryz.func96 (by kernel_rfl) (by kernel_rfl) (by kernel_rfl) (by kernel_rfl)
  have hKi := @run_callFunc_extern Tryz.prog 185 _ (ReflectliteType.abiMethod fun t => do pure (.int .u8 (← Rtype.kind t))) Tryz.func185 (by kernel_rfl) (by kernel_rfl) (by kernel_rfl) (by kernel_rfl)
  have hTE := @run_callFunc_extern Tryz.prog 197 _ (ReflectliteType.method ReflectliteType.elem) Tryz.func197 (by kernel_rfl) (by kernel_rfl) (by kernel_rfl) (by kernel_rfl)
  have hTI := @run_callFunc_extern Tryz.prog 198 _ (ReflectliteType.relation "Implements" ReflectliteType.implements_) Tryz.func198 (by kernel_rfl) (by kernel_rfl) (by kernel_rfl) (by kernel_rfl)
  have htl := World.block_lt_of_cell? w t ht
  have hgl := World.block_lt_of_cell? w ⟨2, 0, none⟩ het
  have q1 := valueOfP; have q2 := typeP; have q3 := kindP; have q4 := kindE; have q5 := elemP; have q6 := implementsE; have q7 := mKind; have q8 := mElem; have q9 := mImplements
  have n8 := isNilP ⟨w.heap.size, 0, none⟩ t ((w.alloc (.cells #[.pointer (some t)] 131)).alloc (.cells #[.pointer (some ⟨8, 131, none⟩), .pointer (some ⟨w.heap.size, 0, none⟩), .int .u64 150] 153)) (by simp)
  have hg2 : ((w.alloc (.cells #[.pointer (some t)] 131)).alloc (.cells #[.pointer (some ⟨8, 131, none⟩), .pointer (some ⟨w.heap.size, 0, none⟩), .int .u64 150] 153)).cell? ⟨2, 0, none⟩ = some (.iface 167 (.agg #[.pointer (some ⟨8, 107, none⟩)])) := by
    rw [World.cell?_alloc_lt _ _ ⟨2, 0, none⟩ (by have h := hgl; simp at h ⊢ <;> omega), World.cell?_alloc_lt _ _ ⟨2, 0, none⟩ hgl]; exact het
  have hin := as_fault p t ⟨w.heap.size, 0, none⟩ old ((w.alloc (.cells #[.pointer (some t)] 131)).alloc (.cells #[.pointer (some ⟨8, 131, none⟩), .pointer (some ⟨w.heap.size, 0, none⟩), .int .u64 150] 153))
    (by simp)
    (by rw [World.cell?_alloc_lt _ _ t (by simp; omega), World.cell?_alloc_lt _ _ t htl]; exact ht)
    (by rw [World.frozen?_alloc_old _ _ t (by simp; omega), World.frozen?_alloc_old _ _ t (Nat.ne_of_lt htl)]; exact hf)
  have Hin := Lib.hid hin; clear hin het
  go_enter Tryz.func77, Tryz.ntmps77
  go_wp2_with fail
  refine Hin.out.mono ?_
  rintro e w' ⟨rfl, hg, hc⟩
  go_wp2
  go_ret
  exact ⟨rfl, grown_trans (grown_trans (World.grownBy_alloc _ _ _) (World.grownBy_alloc _ _ _)) hg, hc⟩
/-- An error that is a fault. -/
def FV (ev : Value) : Prop := ∃ p, ev = .iface 129 (.pointer (some p))
def RetBelow (v : Value) (w : World) (e : Ending) (w' : World) : Prop := e = .returned v ∧ Below w.heap.size w w'
theorem told_hin (p : Option Addr) (w : World) (het : Et w) : Calls Tryz.prog 77 #[.iface 129 (.pointer p), .iface 131 (.pointer (some ⟨w.heap.size, 0, none⟩))] (w.alloc (.cells #[.pointer none] 129)) (AsPost ⟨w.heap.size, 0, none⟩ p (w.alloc (.cells #[.pointer none] 129))) := by
  have hgl := World.block_lt_of_cell? w ⟨2, 0, none⟩ het
  refine errAs_fault p _ (.pointer none) _ ?_ (by simp) (by simp)
  unfold Et; rw [World.cell?_alloc_lt _ _ ⟨2, 0, none⟩ hgl]; exact het
set_option maxHeartbeats 1000000 in
theorem toldW_nil (s : Value) (w : World) : Calls Tryz.prog 60 #[s, .nilIface] w (RetBelow (.tuple #[s, .bool true]) w) := by
  have Hin := Lib.hid (fun t w => as_nil t w)
  go_enter Tryz.func60, Tryz.ntmps60
  go_wp2_with fail
  refine (Hin.out _ _).mono ?_
  rintro e w' ⟨rfl, rfl⟩
  go_wp2
  go_ret2
  exact ⟨rfl, below_new w _⟩
set_option maxHeartbeats 1000000 in
theorem toldW_fault (s ev : Value) (w : World) (h : FV ev) (het : Et w) : Calls Tryz.prog 60 #[s, ev] w (RetBelow (.tuple #[.slice none 0 0, .bool false]) w) := by
  obtain ⟨p, rfl⟩ := h
  have Hin := Lib.hid (told_hin (some p) w het); clear het
  go_enter Tryz.func60, Tryz.ntmps60
  go_wp2_with fail
  refine Hin.out.mono ?_
  rintro e w' ⟨rfl, hg, hc⟩
  go_wp2
  go_ret2
  exact ⟨rfl, below_grown_new hg⟩
theorem need_yes (s ev : Value) (w : World) : Calls Tryz.prog 79 #[.bool true, s, ev] w fun e w' => e = .returned .nilIface ∧ w = w' := by
  go_enter Tryz.func79, Tryz.ntmps79
  go_wp2
  go_ret
  exact ⟨rfl, rfl⟩
theorem need_no (s : ByteArray) (te : TypeId) (pe : Value) (w : World) : Calls Tryz.prog 79 #[.bool false, .string s, .iface te pe] w fun e w' => e = .returned (.iface 129 (.pointer (some ⟨w.heap.size, 0, none⟩))) ∧ w.alloc (.cells #[.string s, .iface te pe] 134) = w' := by
  go_enter Tryz.func79, Tryz.ntmps79
  go_wp2
  go_ret
  exact ⟨rfl, rfl⟩
theorem within_nil (s : Value) (w : World) : Calls Tryz.prog 80 #[s, .nilIface] w fun e w' => e = .returned .nilIface ∧ w = w' := by
  go_enter Tryz.func80, Tryz.ntmps80
  go_wp2
  go_ret
  exact ⟨rfl, rfl⟩
theorem within_some (s : ByteArray) (ev : Value) (h : FV ev) (w : World) : Calls Tryz.prog 80 #[.string s, ev] w fun e w' => e = .returned (.iface 129 (.pointer (some ⟨w.heap.size, 0, none⟩))) ∧ w.alloc (.cells #[.string s, ev] 134) = w' := by
  obtain ⟨p, rfl⟩ := h
  go_enter Tryz.func80, Tryz.ntmps80
  go_wp2
  go_ret
  exact ⟨rfl, rfl⟩
end Go.Proofs.YtialgldmogigfaaGreatDoor


namespace Go.Proofs.YtialgldmogigfaaGreatDoor
open Go Go.RowKit Go.Shelf
/-- What object's calls ask of the listed variables: three errors, of which two are not one; the type of errors. -/
structure Er (w : World) : Prop where
  over : ∃ pe, w.cell? ⟨0, 0, none⟩ = some (.iface 235 pe)
  two : ∃ a b : Addr, a ≠ b ∧ w.cell? ⟨1, 0, none⟩ = some (.iface 235 (.pointer (some a))) ∧ w.cell? ⟨3, 0, none⟩ = some (.iface 235 (.pointer (some b)))
  et : Et w
theorem cell_to {w w' : World} {a : Addr} {v : Value} (h : w.cell? a = some v) (hb : Below w.heap.size w w') : w'.cell? a = some v :=
  (hb.cell (World.block_lt_of_cell? w a h)).trans h
theorem Er.below {w w' : World} (h : Er w) (hb : Below w.heap.size w w') : Er w' := by
  obtain ⟨⟨pe, h1⟩, ⟨a, b, hab, h2, h3⟩, h4⟩ := h
  exact ⟨⟨pe, cell_to h1 hb⟩, ⟨a, b, hab, cell_to h2 hb, cell_to h3 hb⟩, cell_to h4 hb⟩
theorem Er.wrong {w : World} (h : Er w) : ∃ a : Addr, w.cell? ⟨1, 0, none⟩ = some (.iface 235 (.pointer (some a))) := by
  obtain ⟨a, _, _, h, _⟩ := h.two; exact ⟨a, h⟩
/-- An error comes of it. -/
def FailB (w : World) (e : Ending) (w' : World) : Prop := ∃ p, e = .returned (.iface 129 (.pointer (some p))) ∧ Below w.heap.size w w'
set_option maxHeartbeats 400000 in
theorem word_any (k : Int) (w : World) : Calls Tryz.prog 81 #[.int .i64 k] w fun e w' => e = .returned (SV (kindW k)) ∧ w = w' := by
  unfold SV
  by_cases h1 : k = 1
  · subst h1
    go_enter Tryz.func81, Tryz.ntmps81
    go_wp2
    go_ret
    exact ⟨rfl, rfl⟩
  by_cases h2 : k = 2
  · subst h2
    go_enter Tryz.func81, Tryz.ntmps81
    go_wp2
    go_ret
    exact ⟨rfl, rfl⟩
  by_cases h3 : k = 3
  · subst h3
    go_enter Tryz.func81, Tryz.ntmps81
    go_wp2
    go_ret
    exact ⟨rfl, rfl⟩
  by_cases h4 : k = 4
  · subst h4
    go_enter Tryz.func81, Tryz.ntmps81
    go_wp2
    go_ret
    exact ⟨rfl, rfl⟩
  have H : Hid (kindW k = []) := Lib.hid (by unfold kindW; rw [if_neg h1, if_neg h2, if_neg h3, if_neg h4])
  rw [H.out]
  clear H
  have b1 : (k == 1) = false := by simpa using h1
  have b2 : (k == 2) = false := by simpa using h2
  have b3 : (k == 3) = false := by simpa using h3
  have b4 : (k == 4) = false := by simpa using h4
  clear h1 h2 h3 h4
  go_enter Tryz.func81, Tryz.ntmps81
  go_wp2
  go_ret
  exact ⟨rfl, rfl⟩
set_option maxHeartbeats 400000 in
theorem onlyHas_any (g : FuncId) (eg : ∀ args w, (callFunc g args).run Tryz.prog w = .ok (.enter g args) w) (p : UInt8 → Bool) (hp : ∀ (c : UInt8) (W : World), Calls Tryz.prog g #[.int .u8 (c.toNat : Int)] W fun e W' => e = .returned (.bool (p c)) ∧ W = W')
    (s : List UInt8) (hs : s.length ≤ maxLen) (w : World) : Calls Tryz.prog 143 #[SV s, .func (.func g) #[] #[]] w fun e w' => e = .returned (.bool (s.all p)) ∧ w = w' := by
  unfold maxLen at hs
  unfold SV
  have HP := Lib.hid hp; clear hp
  go_enter Tryz.func143, Tryz.ntmps143
  go_wp2
  go_loop [8] (fun i => ∃ k : Nat, k ≤ s.length ∧ i = .int .i64 k ∧ Hid ((s.take k).all p = true)) (fun i => s.length - (intOf i).toNat)
  case atStart => exact ⟨0, Nat.zero_le _, rfl, Lib.hid rfl⟩
  case round =>
    obtain ⟨k, hk, rfl, hall⟩ := hrel
    by_cases hlt : k < s.length
    · obtain ⟨c, hc⟩ : ∃ c, c = s[k] := ⟨_, rfl⟩
      have gc : ∀ h, ((⟨s.toArray⟩ : ByteArray)[k]'h) = c := fun h => hc.symm
      have hcall := HP.out c w
      have hsn : Hid ((s.take (k + 1)).all p = p c) := Lib.hid (by rw [List.take_succ_eq_append_getElem hlt, List.all_append, hall.out, hc]; simp)
      have hno : Hid (p c = false → s.all p = false) := Lib.hid (fun h => by rw [List.all_eq_false]; exact ⟨s[k], List.getElem_mem hlt, by rw [← hc, h]; simp⟩)
      clear hc
      cases hpc : p c
      · rw [hpc] at hcall
        have Hc := Lib.hid hcall
        have H2 : Hid (s.all p = false) := Lib.hid (hno.out hpc)
        clear hcall hpc
        go_wp2_with fail
        refine Hc.out.mono ?_
        rintro e w' ⟨rfl, rfl⟩
        go_wp2
        go_ret
        exact ⟨ret_bool H2.out.symm, rfl⟩
      · rw [hpc] at hcall
        have Hc := Lib.hid hcall
        have H2 : Hid ((s.take (k + 1)).all p = true) := Lib.hid (hsn.out.trans hpc)
        clear hcall hpc
        go_wp2_with fail
        refine Hc.out.mono ?_
        rintro e w' ⟨rfl, rfl⟩
        go_wp2
        go_round
        case rel => exact ⟨k + 1, by omega, by go_num, H2⟩
        case measure => simp [intOf]; omega
    · have H2 : Hid (s.all p = true) := Lib.hid (by have h := hall.out; rwa [List.take_of_length_le (by omega)] at h)
      go_wp2
      go_ret
      exact ⟨ret_bool H2.out.symm, rfl⟩
theorem whoC_int (c : UInt8) : whoC c = (decide (32 ≤ (c.toNat : Int)) && decide ((c.toNat : Int) ≤ 126)) := by
  unfold whoC; rw [Bool.eq_iff_iff]; simp; omega
set_option maxHeartbeats 400000 in
theorem whoC_any (c : UInt8) (w : World) : Calls Tryz.prog 144 #[.int .u8 (c.toNat : Int)] w fun e w' => e = .returned (.bool (whoC c)) ∧ w = w' := by
  rw [whoC_int]
  go_enter Tryz.func144, Tryz.ntmps144
  go_wp2
  all_goals (go_ret; refine ⟨ret_bool ?_, rfl⟩; first | rfl | (rw [Bool.eq_iff_iff]; simp; done) | (rw [Bool.eq_iff_iff]; simp; omega))
theorem partC_int (c : UInt8) : partC c = (decide (33 ≤ (c.toNat : Int)) && decide ((c.toNat : Int) ≤ 126) && ((c.toNat : Int) != 47)) := by
  unfold partC
  have : (c == 47) = ((c.toNat : Int) == 47) := by
    rw [Bool.eq_iff_iff]; simp only [beq_iff_eq]
    constructor
    · rintro rfl; rfl
    · intro h; exact UInt8.toNat_inj.1 (by have : c.toNat = 47 := by omega
                                           rw [this]; rfl)
  rw [this, Bool.eq_iff_iff]; simp; omega
set_option maxHeartbeats 400000 in
theorem partC_any (c : UInt8) (w : World) : Calls Tryz.prog 145 #[.int .u8 (c.toNat : Int)] w fun e w' => e = .returned (.bool (partC c)) ∧ w = w' := by
  rw [partC_int]
  go_enter Tryz.func145, Tryz.ntmps145
  go_wp2
  all_goals (go_ret; refine ⟨ret_bool ?_, rfl⟩; first | rfl | (rw [Bool.eq_iff_iff]; simp; done) | (rw [Bool.eq_iff_iff]; simp; omega))
theorem onlyWho (s : List UInt8) (hs : s.length ≤ maxLen) (w : World) : Calls Tryz.prog 143 #[SV s, .func (.func 144) #[] #[]] w fun e w' => e = .returned (.bool (s.all whoC)) ∧ w = w' :=
  onlyHas_any 144 (enters_of Tryz.func144 (by kernel_rfl) rfl) whoC whoC_any s hs w
theorem onlyPart (s : List UInt8) (hs : s.length ≤ maxLen) (w : World) : Calls Tryz.prog 143 #[SV s, .func (.func 145) #[] #[]] w fun e w' => e = .returned (.bool (s.all partC)) ∧ w = w' :=
  onlyHas_any 145 (enters_of Tryz.func145 (by kernel_rfl) rfl) partC partC_any s hs w
set_option maxRecDepth 100000 in
set_option maxHeartbeats 1000000 in
theorem checkWho_yes (s : List UInt8) (hs : s.length ≤ maxLen) (w : World) (he : Er w) (h : whoB s = true) : Calls Tryz.prog 131 #[SV s] w (RetBelow .nilIface w) := by
  have ho := onlyWho s hs w
  obtain ⟨pe, c0⟩ := he.over
  unfold maxLen at hs
  unfold whoB at h
  simp only [Bool.and_eq_true, decide_eq_true_eq] at h
  obtain ⟨h1, h2⟩ := h
  rw [h1] at ho
  unfold SV at ho ⊢
  have Ho := Lib.hid ho
  have n1 := need_yes (.string ⟨#[119, 104, 111]⟩) (.iface 235 pe) w
  have N1 := Lib.hid n1
  have h3 : (s.length : Int) ≤ 100 := by omega
  clear ho h1 n1 he
  go_enter Tryz.func131, Tryz.ntmps131
  go_wp2_with fail
  refine Ho.out.mono ?_
  rintro e w' ⟨rfl, rfl⟩
  go_wp2_with fail
  refine N1.out.mono ?_
  rintro e w' ⟨rfl, rfl⟩
  go_wp2
  go_ret
  exact ⟨rfl, Below.refl _ _⟩
set_option maxRecDepth 100000 in
set_option maxHeartbeats 1000000 in
theorem checkWho_no (s : List UInt8) (hs : s.length ≤ maxLen) (w : World) (he : Er w) (h : whoB s = false) : Calls Tryz.prog 131 #[SV s] w (FailB w) := by
  have ho := onlyWho s hs w
  obtain ⟨pe, c0⟩ := he.over
  obtain ⟨a, c1⟩ := he.wrong
  unfold maxLen at hs
  unfold whoB at h
  unfold SV at ho ⊢
  clear he
  cases h1 : s.all whoC
  · rw [h1] at ho
    have Ho := Lib.hid ho
    clear ho h1 h
    go_enter Tryz.func131, Tryz.ntmps131
    go_wp2_with fail
    refine Ho.out.mono ?_
    rintro e w' ⟨rfl, rfl⟩
    go_wp2
    go_ret
    exact ⟨_, rfl, below_new w _⟩
  · rw [h1] at ho h
    have Ho := Lib.hid ho
    have h2 : decide ((s.length : Int) ≤ 100) = false := by simp at h; exact decide_eq_false (by omega)
    have N1 := Lib.hid (need_no ⟨#[119, 104, 111]⟩ 235 pe w)
    clear ho h1 h
    go_enter Tryz.func131, Tryz.ntmps131
    go_wp2_with fail
    refine Ho.out.mono ?_
    rintro e w' ⟨rfl, rfl⟩
    go_wp2_with fail
    refine N1.out.mono ?_
    rintro e w' ⟨rfl, rfl⟩
    go_wp2
    go_ret
    exact ⟨_, rfl, below_new w _⟩
set_option maxHeartbeats 1000000 in
theorem standing_any (x : Itm) (hx : x.name.length ≤ 1000000) (w : World) : Calls Tryz.prog 122 #[.agg #[.int .i64 x.mode, SV x.name, SV x.id]] w fun e w' => e = .returned (SV (keyL x)) ∧ Below w.heap.size w w' := by
  obtain ⟨m, n, i⟩ := x
  simp only at hx ⊢
  have happ : (⟨n.toArray⟩ : ByteArray) ++ (⟨#[47]⟩ : ByteArray) = ⟨(n ++ [47]).toArray⟩ := append_S n [47]
  unfold SV keyL
  simp only
  by_cases h : m = 3
  · subst h
    rw [if_pos rfl]
    go_enter Tryz.func122, Tryz.ntmps122
    go_wp2
    go_ret
    exact ⟨rfl, below_new w _⟩
  · rw [if_neg h]
    have b : (m == 3) = false := by simpa using h
    clear h happ
    go_enter Tryz.func122, Tryz.ntmps122
    go_wp2
    go_ret
    exact ⟨rfl, below_new w _⟩
set_option maxRecDepth 100000 in
set_option maxHeartbeats 2000000 in
theorem kindOf_any (s : List UInt8) (w : World) : Calls Tryz.prog 116 #[SV s] w fun e w' => e = .returned (.int .i64 (kindOfW s)) ∧ w = w' := by
  have HW := Lib.hid (fun k => word_any k w)
  unfold SV at HW ⊢
  have w1 := HW.out 1; have w2 := HW.out 2; have w3 := HW.out 3; have w4 := HW.out 4
  rw [show kindW 1 = [98, 108, 111, 98] from rfl] at w1
  rw [show kindW 2 = [116, 114, 101, 101] from rfl] at w2
  rw [show kindW 3 = [99, 111, 109, 109, 105, 116] from rfl] at w3
  rw [show kindW 4 = [116, 97, 103] from rfl] at w4
  have W1 := Lib.hid w1; have W2 := Lib.hid w2; have W3 := Lib.hid w3; have W4 := Lib.hid w4
  clear w1 w2 w3 w4 HW
  by_cases h1 : s = [98, 108, 111, 98]
  · subst h1
    go_enter Tryz.func116, Tryz.ntmps116
    go_wp2
    refine wp_loop_rounds 1 ?_
    rw [rounds_succ]
    go_wp2_with fail
    refine W1.out.mono ?_
    rintro e w' ⟨rfl, rfl⟩
    go_wp2
    go_ret
    exact ⟨rfl, rfl⟩
  have n1 : ([98, 108, 111, 98] == s) = false := by rw [beq_eq_false_iff_ne]; exact fun e => h1 e.symm
  by_cases h2 : s = [116, 114, 101, 101]
  · subst h2
    clear h1
    go_enter Tryz.func116, Tryz.ntmps116
    go_wp2
    refine wp_loop_rounds 2 ?_
    rw [rounds_succ]
    go_wp2_with fail
    refine W1.out.mono ?_
    rintro e w' ⟨rfl, rfl⟩
    go_wp2_with fail
    rw [rounds_succ]
    go_wp2_with fail
    refine W2.out.mono ?_
    rintro e w' ⟨rfl, rfl⟩
    go_wp2
    go_ret
    exact ⟨rfl, rfl⟩
  have n2 : ([116, 114, 101, 101] == s) = false := by rw [beq_eq_false_iff_ne]; exact fun e => h2 e.symm
  by_cases h3 : s = [99, 111, 109, 109, 105, 116]
  · subst h3
    clear h1 h2
    go_enter Tryz.func116, Tryz.ntmps116
    go_wp2
    refine wp_loop_rounds 3 ?_
    rw [rounds_succ]
    go_wp2_with fail
    refine W1.out.mono ?_
    rintro e w' ⟨rfl, rfl⟩
    go_wp2_with fail
    rw [rounds_succ]
    go_wp2_with fail
    refine W2.out.mono ?_
    rintro e w' ⟨rfl, rfl⟩
    go_wp2_with fail
    rw [rounds_succ]
    go_wp2_with fail
    refine W3.out.mono ?_
    rintro e w' ⟨rfl, rfl⟩
    go_wp2
    go_ret
    exact ⟨rfl, rfl⟩
  have n3 : ([99, 111, 109, 109, 105, 116] == s) = false := by rw [beq_eq_false_iff_ne]; exact fun e => h3 e.symm
  by_cases h4 : s = [116, 97, 103]
  · subst h4
    clear h1 h2 h3
    go_enter Tryz.func116, Tryz.ntmps116
    go_wp2
    refine wp_loop_rounds 4 ?_
    rw [rounds_succ]
    go_wp2_with fail
    refine W1.out.mono ?_
    rintro e w' ⟨rfl, rfl⟩
    go_wp2_with fail
    rw [rounds_succ]
    go_wp2_with fail
    refine W2.out.mono ?_
    rintro e w' ⟨rfl, rfl⟩
    go_wp2_with fail
    rw [rounds_succ]
    go_wp2_with fail
    refine W3.out.mono ?_
    rintro e w' ⟨rfl, rfl⟩
    go_wp2_with fail
    rw [rounds_succ]
    go_wp2_with fail
    refine W4.out.mono ?_
    rintro e w' ⟨rfl, rfl⟩
    go_wp2
    go_ret
    exact ⟨rfl, rfl⟩
  have n4 : ([116, 97, 103] == s) = false := by rw [beq_eq_false_iff_ne]; exact fun e => h4 e.symm
  have HK : Hid (kindOfW s = 0) := Lib.hid (by unfold kindOfW; rw [if_neg h1, if_neg h2, if_neg h3, if_neg h4])
  rw [HK.out]
  clear h1 h2 h3 h4 HK
  go_enter Tryz.func116, Tryz.ntmps116
  go_wp2
  refine wp_loop_rounds 5 ?_
  rw [rounds_succ]
  go_wp2_with fail
  refine W1.out.mono ?_
  rintro e w' ⟨rfl, rfl⟩
  go_wp2_with fail
  rw [rounds_succ]
  go_wp2_with fail
  refine W2.out.mono ?_
  rintro e w' ⟨rfl, rfl⟩
  go_wp2_with fail
  rw [rounds_succ]
  go_wp2_with fail
  refine W3.out.mono ?_
  rintro e w' ⟨rfl, rfl⟩
  go_wp2_with fail
  rw [rounds_succ]
  go_wp2_with fail
  refine W4.out.mono ?_
  rintro e w' ⟨rfl, rfl⟩
  go_wp2_with fail
  rw [rounds_succ]
  go_wp2
  go_ret
  exact ⟨rfl, rfl⟩
end Go.Proofs.YtialgldmogigfaaGreatDoor
