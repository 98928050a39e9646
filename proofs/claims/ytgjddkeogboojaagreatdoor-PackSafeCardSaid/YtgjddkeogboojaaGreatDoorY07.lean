/-
  errors.Is at a fault, made of errWrong or of errOther. line: what a line has behind its word. No two alike. A number's decimals; what an item is called in an error. checkTree: an error, if items are no tree.
-/
import Derived.LaidEql
import Derived.Stop.Asserts
import Derived.Test.YtgjddkeogboojaaGreatDoorY05
import Derived.RangeFuncBox
import Derived.RangeFuncLeaves
import Derived.Shelf.RegionOpen
import Derived.OwnWalkIn
import Derived.TacticsInMore
import Derived.LoopNIn
import Derived.LoopIn
import Derived.Maps.AppendAt
import Derived.Sort.OwnSorted
import Derived.Sort.KeysCollected
import Derived.Test.YtgjddkeogboojaaGreatDoorLay
import Derived.Lib.ItoaMem
import Derived.Lib.ItoaNum
import Derived.Lib.LaidTab
import Derived.Lib.AppendIntMem
import Derived.Deep.RegionHeld3
import Derived.Deep.QuietTactic
import Derived.BigQuiet
set_option maxHeartbeats 16000000
set_option maxRecDepth 100000
namespace Go.Proofs.YtgjddkeogboojaaGreatDoor
open Go Go.RowKit Go.Extern.Stop Go.Stop Go.Extern
structure Eb (w : World) : Prop where
 er : Er w
 blk : ∃ a b : Addr, ∃ ca cb : Array Value, ∃ ta tb, a ≠ b ∧ w.cell? ⟨4, 0, none⟩ = some (.iface 336 (.pointer (some a))) ∧ w.cell? ⟨7, 0, none⟩ = some (.iface 336 (.pointer (some b)))
  ∧ w.heap[a.block]? = some (.cells ca ta (0, 0)) ∧ w.heap[b.block]? = some (.cells cb tb (0, 0))
theorem Eb.below {w w' : World} (h : Eb w) (hb : Below w.heap.size w w') : Eb w' := by
 obtain ⟨h1, a, b, ca, cb, ta, tb, hab, h2, h3, h4, h5⟩ := h;exact ⟨h1.below hb, a, b, ca, cb, ta, tb, hab, cell_to h2 hb, cell_to h3 hb, (hb.block _ (lt_heap h4)).trans h4, (hb.block _ (lt_heap h5)).trans h5⟩
theorem mUnwrap (a : Addr) (w : World) : (Go.method 464 232 (.pointer (some a)) "Unwrap").run Tryz.prog w = .ok (286, .pointer (some a)) w := by kernel_rfl
theorem mComparable (h : Value) (w : World) : (Go.method 464 172 (.agg #[h]) "Comparable").run Tryz.prog w = .ok (276, .agg #[h]) w := by kernel_rfl
theorem unwrapF (v : Value) (xT : TypeId) (w : World) : (Instr.typeAssert (.iface 232 v) xT 180 true).run Tryz.prog w = .ok (.tuple #[.iface 232 v, .bool true]) w := run_typeAssert_hasB Tryz.underlying180 (by kernel_rfl) v xT w
theorem noIsF (v : Value) (xT : TypeId) (w : World) : (Instr.typeAssert (.iface 232 v) xT 275 true).run Tryz.prog w = .ok (.tuple #[.nilIface, .bool false]) w := run_typeAssert_lacksB Tryz.underlying275 (by kernel_rfl) (by kernel_rfl) v xT w
theorem noIsE (v : Value) (xT : TypeId) (w : World) : (Instr.typeAssert (.iface 336 v) xT 275 true).run Tryz.prog w = .ok (.tuple #[.nilIface, .bool false]) w := run_typeAssert_lacksB Tryz.underlying275 (by kernel_rfl) (by kernel_rfl) v xT w
theorem noUnwrapE (v : Value) (xT : TypeId) (w : World) : (Instr.typeAssert (.iface 336 v) xT 180 true).run Tryz.prog w = .ok (.tuple #[.nilIface, .bool false]) w := run_typeAssert_lacksB Tryz.underlying180 (by kernel_rfl) (by kernel_rfl) v xT w
theorem noUnwrapsE (v : Value) (xT : TypeId) (w : World) : (Instr.typeAssert (.iface 336 v) xT 181 true).run Tryz.prog w = .ok (.tuple #[.nilIface, .bool false]) w := run_typeAssert_lacksB Tryz.underlying181 (by kernel_rfl) (by kernel_rfl) v xT w
theorem eqlFE (vx vy : Value) (w : World) : (binOp .eql 64 (.iface 232 vx) (.iface 336 vy)).run Tryz.prog w = .ok (.bool false) w := run_eql_iface_types _ _ vx vy Tryz.underlying64 (by decide) w
theorem infoPS : (Tryz.prog.info? 336).map (·.comparable) = some true := by kernel_rfl
theorem infoS : (Tryz.prog.info? 354).map (fun i => decide (i.size ≠ 0)) = some true := by kernel_rfl
theorem eqlSame (a : Addr) (w : World) : (binOp .eql 64 (.iface 336 (.pointer (some a))) (.iface 336 (.pointer (some a)))).run Tryz.prog w = .ok (.bool true) w := by
 obtain ⟨i, hi, hc⟩ := Option.map_eq_some_iff.1 infoPS;obtain ⟨j, hj, _⟩ := Option.map_eq_some_iff.1 infoS;exact run_eql_iface_ptr_same w a Tryz.underlying64 Tryz.underlying336 hi hc hj
theorem eqlOther {a b : Addr} {ca cb : Array Value} {ta tb : TypeId} (w : World) (hne : a ≠ b) (ha : w.heap[a.block]? = some (.cells ca ta (0, 0))) (hb : w.heap[b.block]? = some (.cells cb tb (0, 0))) :
 (binOp .eql 64 (.iface 336 (.pointer (some a))) (.iface 336 (.pointer (some b)))).run Tryz.prog w = .ok (.bool false) w := by
 obtain ⟨i, hi, hc⟩ := Option.map_eq_some_iff.1 infoPS;obtain ⟨j, hj, hs⟩ := Option.map_eq_some_iff.1 infoS;exact run_eql_iface_ptr_other w Tryz.underlying64 Tryz.underlying336 hi hc hj (of_decide_eq_true hs) hne ha hb
theorem eqlNil (v : Value) (w : World) : (binOp .eql 64 .nilIface (.iface 336 v)).run Tryz.prog w = .ok (.bool false) w := run_eql_iface_nil_left w _ v Tryz.underlying64
theorem typeOfE (v : Value) (w : World) : (ReflectliteType.typeOf #[.iface 336 v]).run Tryz.prog w = .ok (.iface 172 (.agg #[.pointer (some ⟨11, 336, none⟩)])) w := by kernel_rfl
theorem comparableE (w : World) : (ReflectliteType.method (fun t => do Rtype.noPackHeld "Comparable" t; (fun a => Value.bool a.comparable) <$> typeInfo t) #[.agg #[.pointer (some ⟨11, 336, none⟩)]]).run Tryz.prog w = .ok (.bool true) w := by kernel_rfl
theorem unwrap_any (a : Nat) (x : ByteArray) (p : Value) (w : World) (h : w.heap[a]? = some (.cells #[.string x, .iface 336 p] 236 (0, 0))) :
 Calls Tryz.prog 286 #[.pointer (some ⟨a, 0, none⟩)] w fun e w' => e = .returned (.iface 336 p) ∧ w = w' := by
 have c1 : w.cell? ⟨a, 1, none⟩ = some (.iface 336 p) := by simp [World.cell?, h]
 go_enter Tryz.func286, Tryz.ntmps286
 go_wp2
 go_ret
 exact ⟨rfl, rfl⟩
def BoolPost (b : Bool) (w : World) (e : Ending) (w' : World) : Prop := e = .returned (.bool b) ∧ w = w'
theorem is_same (a : Nat) (b : Addr) (x : ByteArray) (w : World) (h : w.heap[a]? = some (.cells #[.string x, .iface 336 (.pointer (some b))] 236 (0, 0))) :
 Calls Tryz.prog 167 #[.iface 232 (.pointer (some ⟨a, 0, none⟩)), .iface 336 (.pointer (some b)), .bool true] w (BoolPost true w) := by
 have q1 := noIsF; have q2 := noIsE; have q3 := noUnwrapE; have q4 := noUnwrapsE; have q5 := eqlFE; have q6 := mUnwrap; have q7 := unwrapF; have q8 := eqlSame b
 go_enter Tryz.func167, Tryz.ntmps167
 go_wp2
 refine wp_loop_rounds 2 ?_;rw [rounds_succ]
 go_wp2_with fail
 refine (unwrap_any a x _ _ h).mono ?_;rintro e w' ⟨rfl, rfl⟩
 go_wp2_with fail
 rw [rounds_succ]
 go_wp2_with fail
 go_ret
 exact ⟨rfl, rfl⟩
theorem is_other (a : Nat) (b c : Addr) (x : ByteArray) (w : World) (h : w.heap[a]? = some (.cells #[.string x, .iface 336 (.pointer (some c))] 236 (0, 0)))
 {cc cb : Array Value} {tc tb : TypeId} (hne : c ≠ b) (hc : w.heap[c.block]? = some (.cells cc tc (0, 0))) (hb : w.heap[b.block]? = some (.cells cb tb (0, 0))) :
 Calls Tryz.prog 167 #[.iface 232 (.pointer (some ⟨a, 0, none⟩)), .iface 336 (.pointer (some b)), .bool true] w (BoolPost false w) := by
 have q1 := noIsF; have q2 := noIsE; have q3 := noUnwrapE; have q4 := noUnwrapsE; have q5 := eqlFE; have q6 := mUnwrap; have q7 := unwrapF; have q8 := eqlOther w hne hc hb;clear hne hc hb
 go_enter Tryz.func167, Tryz.ntmps167
 go_wp2
 refine wp_loop_rounds 2 ?_;rw [rounds_succ]
 go_wp2_with fail
 refine (unwrap_any a x _ _ h).mono ?_;rintro e w' ⟨rfl, rfl⟩
 go_wp2_with fail
 rw [rounds_succ]
 go_wp2_with fail
 go_ret
 exact ⟨rfl, rfl⟩
theorem errIs_nil (v : Value) (w : World) : Calls Tryz.prog 154 #[.nilIface, .iface 336 v] w (BoolPost false w) := by
 have q1 := eqlNil
 go_enter Tryz.func154, Tryz.ntmps154
 go_wp2
 go_ret
 exact ⟨rfl, rfl⟩
def zzzm := PLift.up <| @run_callFunc_extern Tryz.prog 276 _ (ReflectliteType.method (fun t => do Rtype.noPackHeld "Comparable" t; pure (.bool (← typeInfo t).comparable))) Tryz.func276 (by kernel_rfl) (by kernel_rfl) (by kernel_rfl) (by kernel_rfl)
theorem zgo (a : Nat) (b : Addr) (r : Bool) (w : World) (h : Calls Tryz.prog 167 #[.iface 232 (.pointer (some ⟨a, 0, none⟩)), .iface 336 (.pointer (some b)), .bool true] w (BoolPost r w)) :
 Calls Tryz.prog 154 #[.iface 232 (.pointer (some ⟨a, 0, none⟩)), .iface 336 (.pointer (some b))] w (BoolPost r w) := by
 have hTO := zzzc.1;have hCo := zzzm.1;have q1 := typeOfE; have q2 := mComparable; have q3 := comparableE;have Hin := zh h; clear h
 go_enter Tryz.func154, Tryz.ntmps154
 go_wp2_with fail
 refine Hin.out.mono ?_;rintro e w' ⟨rfl, rfl⟩
 go_wp2
 go_ret
 exact ⟨rfl, rfl⟩
end Go.Proofs.YtgjddkeogboojaaGreatDoor
namespace Go.Proofs.YtgjddkeogboojaaGreatDoor
open Go Go.RowKit Go.Shelf
def ErrAt (W0 : World) (pre : Bool) (v : Value) (W : World) : Prop :=
 ∃ (a : Nat) (c : Addr) (ab : ByteArray), v = .iface 232 (.pointer (some ⟨a, 0, none⟩)) ∧ W.heap[a]? = some (.cells #[.string ab, .iface 336 (.pointer (some c))] 236 (0, 0)) ∧ W0.heap.size ≤ a
   ∧ (pre = true → W0.cell? ⟨4, 0, none⟩ = some (.iface 336 (.pointer (some c)))) ∧ (pre = false → W0.cell? ⟨7, 0, none⟩ = some (.iface 336 (.pointer (some c))))
def LineOk (w : World) (word s : zB) (tb o : Nat) (r : zB) (w' : World) : Prop := ∃ a, z0e word s = some (a, r) ∧ Turned w w' tb o (SV a)
def LineNo (w : World) (word s : zB) (tb : Nat) (v : Value) (w' : World) : Prop := z0e word s = none ∧ w.grownBy w' (some tb) ∧ ErrAt w (word.isPrefixOf s) v w'
theorem z8x {word s : zB} (h : word.isPrefixOf s = true) : z0e word s = z1u 10 (s.drop word.length) := by unfold z0e; rw [if_pos h]
theorem zf6 {word s : zB} (h : word.isPrefixOf s = false) : z0e word s = none := by unfold z0e; rw [if_neg (by rw [h]; simp)]
theorem zcv {w W w' : World} {tb o : Nat} {x : Value} (hb : Below w.heap.size w W) (ht : tb < w.heap.size) (h : Turned W w' tb o x) : Turned w w' tb o x :=
 ⟨⟨h.1.os.trans hb.os, h.1.tape.trans hb.tape, h.1.output.trans hb.output, Nat.le_trans hb.size h.1.size, fun k hk hkt => (h.1.block k (Nat.lt_of_lt_of_le hk hb.size) hkt).trans (hb.block k hk)⟩,
   fun cs t hc => h.2 cs t ((hb.block tb ht).trans hc)⟩
theorem zcw {w W w' : World} {g : Option Nat} (hb : Below w.heap.size w W) (h : W.grownBy w' g) : w.grownBy w' g :=
 ⟨h.os.trans hb.os, h.tape.trans hb.tape, h.output.trans hb.output, Nat.le_trans hb.size h.size, fun k hk hkt => (h.block k (Nat.lt_of_lt_of_le hk hb.size) hkt).trans (hb.block k hk)⟩
theorem ErrAt.before {w W w' : World} {pre : Bool} {v : Value} (hb : Below w.heap.size w W) (he : Er w) (h : ErrAt W pre v w') : ErrAt w pre v w' := by
 obtain ⟨a, c, ab, rfl, h1, h2, h3, h4⟩ := h;obtain ⟨ea, eb, _, e1, e2⟩ := he.two;refine ⟨a, c, ab, rfl, h1, Nat.le_trans hb.size h2, fun hp => ?_, fun hp => ?_⟩
 · rw [e1, ← cell_to e1 hb]; exact h3 hp
 · rw [e2, ← cell_to e2 hb]; exact h4 hp
theorem LineOk.before {w W w' : World} {word s r : zB} {tb o : Nat} (hb : Below w.heap.size w W) (ht : tb < w.heap.size) (h : LineOk W word s tb o r w') : LineOk w word s tb o r w' := by
 obtain ⟨a, h1, h2⟩ := h; exact ⟨a, h1, zcv hb ht h2⟩
theorem LineNo.before {w W w' : World} {word s : zB} {tb : Nat} {v : Value} (hb : Below w.heap.size w W) (he : Er w) (h : LineNo W word s tb v w') : LineNo w word s tb v w' :=
 ⟨h.1, zcw hb h.2.1, h.2.2.before hb he⟩
def lnP (W0 : World) (word s : zB) (tb o : Nat) : Nat → zB → World → Prop
 | 0, s', W => s' = s ∧ W = W0
 | 1, s', W => word.isPrefixOf s = true ∧ s' = s.drop word.length ∧ W = W0
 | _, s', W => LineOk W0 word s tb o s' W
def lnG : Nat → FuncId
 | 0 => 193
 | _ => 204
def lnL (p0 p1 p2 : Nat) : Nat → Array Value
 | 0 => #[.pointer (some ⟨p0, 0, none⟩)]
 | _ => #[.pointer (some ⟨p1, 0, none⟩), .pointer (some ⟨p2, 0, none⟩)]
theorem zl4 (s word : zB) (hs : s.length ≤ 1000000) (W0 : World) (he : Er W0) (blk p0 p1 p2 tb o : Nat) (old : Value)
 (c0 : W0.cell? ⟨blk, 0, none⟩ = some (.func (.func 193) #[] #[.pointer (some ⟨p0, 0, none⟩)]))
 (c1 : W0.cell? ⟨blk, 1, none⟩ = some (.func (.func 204) #[] #[.pointer (some ⟨p1, 0, none⟩), .pointer (some ⟨p2, 0, none⟩)]))
 (d0 : W0.cell? ⟨p0, 0, none⟩ = some (.string ⟨word.toArray⟩)) (d1 : W0.cell? ⟨p1, 0, none⟩ = some (.string ⟨#[10]⟩)) (d2 : W0.cell? ⟨p2, 0, none⟩ = some (.pointer (some ⟨tb, o, none⟩)))
 (ht : W0.cell? ⟨tb, o, none⟩ = some old) (hf : W0.frozen? ⟨tb, o, none⟩ = false) (hg : 4 ≠ tb) :
 Calls Tryz.prog 178 #[.string ⟨s.toArray⟩, .slice (some ⟨blk, 0, none⟩) 2 2] W0 (StepPost (LineOk W0 word s tb o) (LineNo W0 word s tb)) := by
 refine z6i 2 2 blk (by decide) lnG (lnL p0 p1 p2) (lnP W0 word s tb o) (LineNo W0 word s tb) ?_ ?_ ?_ s W0 ⟨rfl, rfl⟩
 · intro i r W hi hP
   match i, hi, hP with
   | 0, _, hP => obtain ⟨_, rfl⟩ := hP; exact c0
   | 1, _, hP => obtain ⟨_, _, rfl⟩ := hP; exact c1
 · intro i hi
   match i, hi with
   | 0, _ => exact enters_of Tryz.func193 (by kernel_rfl) rfl
   | 1, _ => exact enters_of Tryz.func204 (by kernel_rfl) rfl
 · intro i r W hi hP;obtain ⟨ea, eb, _, e1, e2⟩ := he.two
   match i, hi, hP with
   | 0, _, hP =>
     obtain ⟨rfl, rfl⟩ := hP;cases hp : word.isPrefixOf r
     · refine (zbo r word p0 W d0 _ e2 hp).mono ?_;rintro e w' ⟨rfl, rfl⟩;refine .inr ⟨_, _, rfl, zf6 hp, World.grownBy_alloc _ _ _, W.heap.size, eb, _, rfl, heap_alloc_new _ _, Nat.le_refl _, fun h => ?_, fun _ => e2⟩;rw [hp] at h; cases h
     · refine (z8d r word p0 W d0 he hp).mono ?_;rintro e w' ⟨rfl, rfl⟩;exact .inl ⟨_, rfl, hp, rfl, rfl⟩
   | 1, _, hP =>
     obtain ⟨hp, rfl, rfl⟩ := hP;have hl : (s.drop word.length).length ≤ 1000000 := by rw [List.length_drop]; omega
     cases hc : z1u 10 (s.drop word.length) with
     | none =>
       refine (zgk _ hl 10 p1 p2 tb o old W d1 d2 ht hf ea e1 hg hc).mono ?_;rintro e w' ⟨rfl, h1, h2⟩;refine .inr ⟨_, _, rfl, by rw [z8x hp, hc], h1.1, W.heap.size, ea, _, rfl, h2, Nat.le_refl _, fun _ => e1, fun h => ?_⟩;rw [hp] at h; cases h
     | some p =>
       obtain ⟨a, q⟩ := p;refine (zcr _ a q hl 10 p1 p2 tb o old W d1 d2 ht hf he hg hc).mono ?_;rintro e w' ⟨rfl, h1⟩;exact .inl ⟨q, rfl, a, by rw [z8x hp, hc], h1⟩
theorem z4f (w : World) (o : Obj) : (w.alloc o).heap = w.heap.push o := rfl
theorem zf7 (w W : World) (word : zB) (tp : Option Addr) (hb : Below w.heap.size w W) :
 let W0 := (((W.alloc (.cells #[.string ⟨word.toArray⟩] 9)).alloc (.cells #[.string ⟨#[10]⟩] 9)).alloc (.cells #[.pointer tp] 285)).alloc (.cells #[.func (.func 193) #[] #[.pointer (some ⟨W.heap.size, 0, none⟩)], .func (.func 204) #[] #[.pointer (some ⟨W.heap.size + 1, 0, none⟩), .pointer (some ⟨W.heap.size + 2, 0, none⟩)]] 283)
 Below w.heap.size w W0 ∧ W0.cell? ⟨W.heap.size + 3, 0, none⟩ = some (.func (.func 193) #[] #[.pointer (some ⟨W.heap.size, 0, none⟩)])
  ∧ W0.cell? ⟨W.heap.size + 3, 1, none⟩ = some (.func (.func 204) #[] #[.pointer (some ⟨W.heap.size + 1, 0, none⟩), .pointer (some ⟨W.heap.size + 2, 0, none⟩)])
  ∧ W0.cell? ⟨W.heap.size, 0, none⟩ = some (.string ⟨word.toArray⟩) ∧ W0.cell? ⟨W.heap.size + 1, 0, none⟩ = some (.string ⟨#[10]⟩) ∧ W0.cell? ⟨W.heap.size + 2, 0, none⟩ = some (.pointer tp) := by
 have hz := hb.size;refine ⟨(((hb.alloc hz _).alloc (by simp; omega) _).alloc (by simp; omega) _).alloc (by simp; omega) _, ?_, ?_, ?_, ?_, ?_⟩
 all_goals (simp only [World.cell?, z4f, Array.getElem?_push, Array.size_push, Nat.add_assoc, Nat.reduceAdd]; simp)
theorem StepPost.ret {Q : zB → World → Prop} {F : Value → World → Prop} {e : Ending} {w' : World} (h : StepPost Q F e w') : ∃ a b, e = .returned (.tuple #[a, b]) := by
 obtain ⟨s', rfl, _⟩ | ⟨s', p, rfl, _⟩ := h <;> exact ⟨_, _, rfl⟩
theorem zaq {w w' : World} {word s : zB} {tb o : Nat} {e : Ending} (h : StepPost (LineOk w word s tb o) (LineNo w word s tb) e w') : w.grownBy w' (some tb) := by
 obtain ⟨s', _, a, _, h⟩ | ⟨s', p, _, _, h, _⟩ := h
 · exact h.1
 · exact h
theorem z5h (s word : zB) (hs : s.length ≤ 1000000) (w : World) (he : Er w) (b1 b2 tb o : Nat) (old : Value)
 (h1 : w.cell? ⟨b1, 0, none⟩ = some (.string ⟨word.toArray⟩)) (h2 : w.cell? ⟨b2, 0, none⟩ = some (.pointer (some ⟨tb, o, none⟩)))
 (ht : w.cell? ⟨tb, o, none⟩ = some old) (hf : w.frozen? ⟨tb, o, none⟩ = false) (hg : 4 ≠ tb) (n1 : b1 ≠ tb) (n2 : b2 ≠ tb) :
 Calls Tryz.prog 191 #[.string ⟨s.toArray⟩, .pointer (some ⟨b1, 0, none⟩), .pointer (some ⟨b2, 0, none⟩)] w (StepPost (LineOk w word s tb o) (LineNo w word s tb)) := by
 have htl : tb < w.heap.size := World.block_lt_of_cell? w _ ht
 have hread : ∀ W, Below w.heap.size w W → Calls Tryz.prog 178 #[.string ⟨s.toArray⟩, .slice (some ⟨W.heap.size + 1 + 1 + 1, 0, none⟩) 2 2]
  ((((W.alloc (.cells #[.string ⟨word.toArray⟩] 9)).alloc (.cells #[.string ⟨#[10]⟩] 9)).alloc (.cells #[.pointer (some ⟨tb, o, none⟩)] 285)).alloc (.cells #[.func (.func 193) #[] #[.pointer (some ⟨W.heap.size, 0, none⟩)], .func (.func 204) #[] #[.pointer (some ⟨W.heap.size + 1, 0, none⟩), .pointer (some ⟨W.heap.size + 1 + 1, 0, none⟩)]] 283))
  (StepPost (LineOk w word s tb o) (LineNo w word s tb)) := fun W hW => by
  obtain ⟨k0, k1, k2, k3, k4, k5⟩ := zf7 w W word (some ⟨tb, o, none⟩) hW;refine (zl4 s word hs _ (he.below k0) _ _ _ _ tb o old k1 k2 k3 k4 k5 ((k0.cell (p := ⟨tb, o, none⟩) htl).trans ht) ((World.frozen?_of_block (w := w) (a := ⟨tb, o, none⟩) (k0.block tb htl)).trans hf) hg).mono ?_;rintro e w' (⟨r, rfl, h⟩ | ⟨r, p, rfl, h⟩)
  · exact .inl ⟨r, rfl, h.before k0 htl⟩
  · exact .inr ⟨r, p, rfl, h.before k0 he⟩
 have HR := zh hread;have hsb : ∀ W, Below w.heap.size w W → W.cell? ⟨b1, 0, none⟩ = some (.string ⟨word.toArray⟩) ∧ W.cell? ⟨b2, 0, none⟩ = some (.pointer (some ⟨tb, o, none⟩)) := fun W hW => ⟨cell_to h1 hW, cell_to h2 hW⟩
 have HSB := zh hsb
 have hsg : ∀ W, w.grownBy W (some tb) → W.cell? ⟨b1, 0, none⟩ = some (.string ⟨word.toArray⟩) ∧ W.cell? ⟨b2, 0, none⟩ = some (.pointer (some ⟨tb, o, none⟩)) := fun W hW =>
  ⟨(World.cell?_of_block (w := w) (a := ⟨b1, 0, none⟩) (hW.block b1 (World.block_lt_of_cell? w _ h1) (fun e => n1 (Option.some.inj e)))).trans h1, (World.cell?_of_block (w := w) (a := ⟨b2, 0, none⟩) (hW.block b2 (World.block_lt_of_cell? w _ h2) (fun e => n2 (Option.some.inj e)))).trans h2⟩
 have HSG := zh hsg;have B0 := zh (Below.refl w.heap.size w);clear he hs hsb hsg n1 n2 hread ht hf hg htl
 go_enter Tryz.func191, Tryz.ntmps191
 go_wp2_with fail
 have hS0 := And.intro h1 h2
 go_region_held3 (fun W => W.cell? ⟨b1, 0, none⟩ = some (.string ⟨word.toArray⟩) ∧ W.cell? ⟨b2, 0, none⟩ = some (.pointer (some ⟨tb, o, none⟩)))
  (first | exact hS0 | assumption | exact HSB.out _ (Below.drew ((((B0.out.alloc zl _).alloc (by simp) _).alloc (by simp; omega) _).alloc (by simp; omega) _)) | go_keep)
  (first
    | (go_at_call 181; refine (zbp _ _).mono ?_; rintro e w2 ⟨rfl, rfl⟩; have hS2 := HSB.out _ ((B0.out.drew).alloc zl (.cells #[.string ⟨word.toArray⟩] 9)))
    | (go_at_call 187; refine (zgm _ _ _).mono ?_; rintro e w2 ⟨rfl, rfl⟩; have hS3 := HSB.out _ ((((B0.out.drew).alloc zl (.cells #[.string ⟨word.toArray⟩] 9)).alloc (by simp) (.cells #[.string ⟨#[10]⟩] 9)).alloc (by simp; omega) (.cells #[.pointer (some ⟨tb, o, none⟩)] 285)))
    | (go_at_call 178; refine (HR.out w.drew B0.out.drew).mono ?_; intro e w2 hQ; have HQ := zh hQ; obtain ⟨va, vb, rfl⟩ := hQ.ret; clear hQ; have hS4 := HSG.out w2 (zaq HQ.out)))
 go_wp2_with fail
 go_ret2
 exact HQ.out
end Go.Proofs.YtgjddkeogboojaaGreatDoor
namespace Go.Proofs.YtgjddkeogboojaaGreatDoor
open Go Go.RowKit Go.Shelf Go.Maps Go.Sort
attribute [local go_sem] Oper.semAt_some
theorem zia (n : Nat) (hn : 1 ≤ n) (l Bs n₀ b off cap : Nat) (zs : List (zB)) (hreach : zs.length * 16 ≤ 140737488351232) (hb : b < n₀) (J Jx : List (zB) → World → Prop)
 (hY : ∀ pre x W, J pre W → pre.length < zs.length → YieldAt Fence.wide (n - 1) Tryz.prog l #[encStr x] W fun e W' =>
   (e = .returned (.bool true) ∧ J (pre ++ [x]) W' ∧ Below n₀ W W') ∨ (e = .returned (.bool false) ∧ Jx (pre ++ [x]) W'))
 (W : World) (hBs : W.cell? ⟨Bs, 0, none⟩ = some (.slice (some ⟨b, off, none⟩) zs.length cap)) (hc : ∀ j, j < zs.length → W.cell? ⟨b, off + j, none⟩ = some (encStr (zs.getD j []))) (h0 : J [] W) :
 CallsIn Fence.wide n Tryz.prog 220 #[.func (.yield l) #[] #[], .pointer (some ⟨Bs, 0, none⟩)] W fun e W' => (∃ v, e = .returned v) ∧
  ((∃ ys, ys = zs ∧ J ys W') ∨ (∃ pre, pre <+: zs ∧ Jx pre W')) := by
 refine callsIn_of_wp Tryz.func220 rfl trivial ?_ rfl;simp only [Tryz.ntmps220, List.size_toArray, List.length_cons, List.length_nil, Nat.reduceAdd, Nat.reduceSub, Array.replicate_succ, Array.replicate_zero, List.push_toArray, List.append_toArray, List.nil_append, List.cons_append]
 gi_wp2
 gi_loopw [7] (fun i wr => ∃ k : Nat, k ≤ zs.length ∧ i = .int .i64 k ∧ J (zs.take k) wr ∧ Below n₀ W wr)
  (fun i _ => zs.length - (intOf i).toNat)
 case atStart => exact ⟨0, Nat.zero_le _, rfl, h0, Below.refl _ _⟩
 case round =>
  obtain ⟨k, hk, rfl, hJs, hnx⟩ := hrel;have hcx : k < zs.length → wr.cell? ⟨b, off + k, none⟩ = some (encStr (zs.getD k [])) := fun h => (hnx.cell (p := ⟨b, off + k, none⟩) hb).trans (hc k h);by_cases hlt : k < zs.length
  · have hcx' := hcx hlt;have h1 := z0l zs [] k hlt;generalize zs.getD k [] = x at hcx' h1;have H1 := zh h1;clear hcx h1;obtain ⟨fn, tmps, assign, body, hy, hR⟩ := hY _ x wr hJs (by rw [List.length_take]; omega)
    gi_wp2
    refine hR.mono ?_;rintro e W3 (⟨rfl, hJ3, hk3⟩ | ⟨rfl, hJx3⟩)
    · gi_wp2
      go_roundw
      case rel => exact ⟨k + 1, by omega, by simp, by rw [H1.out]; exact hJ3, hnx.trans hk3⟩
      case measure => simp [intOf]; omega
    · gi_wp2
      refine bodyPost_ret (results_none rfl _ _ _) rfl ?_;exact ⟨⟨_, rfl⟩, .inr ⟨_, by rw [← H1.out]; exact List.take_prefix _ _, hJx3⟩⟩
  · obtain rfl : k = zs.length := by omega
    gi_wp2
    go_end0
    exact ⟨⟨_, rfl⟩, .inl ⟨_, List.take_length, hJs⟩⟩
theorem zf8 (n : Nat) (l Bs : Nat) (A : Option Addr) (cap : Nat) (J : List (zB) → World → Prop) (W : World) (hBs : W.cell? ⟨Bs, 0, none⟩ = some (.slice A 0 cap)) (h0 : J [] W) :
 CallsIn Fence.wide n Tryz.prog 220 #[.func (.yield l) #[] #[], .pointer (some ⟨Bs, 0, none⟩)] W fun e W' => (∃ v, e = .returned v) ∧ J [] W' := by
 refine callsIn_of_wp Tryz.func220 rfl trivial ?_ rfl;simp only [Tryz.ntmps220, List.size_toArray, List.length_cons, List.length_nil, Nat.reduceAdd, Nat.reduceSub, Array.replicate_succ, Array.replicate_zero, List.push_toArray, List.append_toArray, List.nil_append, List.cons_append]
 gi_wp2
 gi_loopw [7] (fun i wr => i = .int .i64 0 ∧ J [] wr) (fun _ _ => 0)
 case atStart => exact ⟨rfl, h0⟩
 case round =>
  obtain ⟨rfl, hJs⟩ := hrel
  gi_wp2
  go_end0
  exact ⟨⟨_, rfl⟩, hJs⟩
theorem zib (A : Option Addr) (len cap : Nat) (w : World) :
 Calls Tryz.prog 208 #[.slice A len cap] w fun e w' => e = .returned (.func (.func 220) #[] #[.pointer (some ⟨w.heap.size, 0, none⟩)]) ∧ w.alloc (.cells #[.slice A len cap] 94) = w' := by
 go_enter Tryz.func208, Tryz.ntmps208
 go_wp2
 go_ret
 exact ⟨rfl, rfl⟩
theorem zcx (n : Nat) (hn : 1 ≤ n) (Bs n₀ : Nat) (sv : Value) (zs : List (zB)) (hreach : zs.length * 16 ≤ 140737488351232) (w : World) (hBs : Bs < w.heap.size)
 (hc : w.cell? ⟨Bs, 0, none⟩ = some sv) (hI : StrsR w sv zs) (hlt : ∀ b off c, sv = .slice (some ⟨b, off, none⟩) zs.length c → zs ≠ [] → b < n₀) :
 SeqStopsK Fence.wide n Tryz.prog 220 #[.pointer (some ⟨Bs, 0, none⟩)] (fun x : zB => #[encStr x]) (Below n₀) (fun ys => ys = zs) (fun pre => pre <+: zs) zs.length w := fun l J Jx W hW _ _ hY h0 => by
 have hc' := (hW.cell (p := ⟨Bs, 0, none⟩) hBs).trans hc;by_cases hz : zs = []
 · subst hz;obtain ⟨A, c, rfl⟩ := hI.shape;exact (zf8 n l Bs A c J W hc' h0).mono fun e W' ⟨he, hj⟩ => ⟨he, .inl ⟨_, rfl, hj⟩⟩
 · obtain ⟨g, o, c, rfl, _, _⟩ := hI.pos (List.length_pos_iff.2 hz);have hg := hlt g o c rfl hz;exact zia n hn l Bs n₀ g o c zs hreach hg J Jx hY W hc' (fun j hj => (hW.cell (p := ⟨g, o + j, none⟩) (by show g < _; omega)).trans (StrsR.cell hI j hj)) h0
theorem zl5 : (Tryz.prog.info? 9).map (fun i => (i.zero, i.size, i.bytes)) = some (some (.string ⟨#[]⟩), 1, 16) := by kernel_rfl
theorem zbq (n : Nat) (hn : 3 ≤ n) (Bs n₀ : Nat) (sv : Value) (zs : List (zB)) (hlen : zs.length ≤ 1000000) (w : World) (hBs : Bs < w.heap.size) (hn₀ : n₀ ≤ w.heap.size)
 (hc : w.cell? ⟨Bs, 0, none⟩ = some sv) (hI : StrsR w sv zs) (hlt : ∀ b off c, sv = .slice (some ⟨b, off, none⟩) zs.length c → zs ≠ [] → b < n₀) :
 CallsIn Fence.wide n Tryz.prog 225 #[.slice none 0 0, .func (.func 220) #[] #[.pointer (some ⟨Bs, 0, none⟩)]] w fun e W' => ∃ v, e = .returned v ∧ W'.ownsRow w.heap.size 9 1 v zs.length (zs.map encStr) ∧ Below w.heap.size w W' := by
 have h1 : 1 ≤ n := by omega
 obtain ⟨i0, hi, hz0, hz1, hz2⟩ := info_parts zl5;refine callsIn_of_wp_marks Tryz.func225 rfl trivial ?_ rfl;simp only [Tryz.ntmps225, List.size_toArray, List.length_cons, List.length_nil, Nat.reduceAdd, Nat.reduceSub, Array.replicate_succ, Array.replicate_zero, List.push_toArray, List.append_toArray, List.nil_append, List.cons_append]
 gi_wp2
 have bO := Boxed.new w 94 (.slice none 0 0);have hB0 : Below w.heap.size w (w.alloc (.cells #[.slice none 0 0] 94)) := (Below.refl _ w).alloc zl _
 refine wpIn_rangeFunc_ownG (F := Fence.wide) rfl h1 (gf := 220) (lb := #[.pointer (some ⟨Bs, 0, none⟩)]) rfl trivial (enters_of Tryz.func220 (by kernel_rfl) rfl)
  (zcx (n - 1) (by omega) Bs w.heap.size sv zs (by omega) (w.alloc (.cells #[.slice none 0 0] 94)) (by simp; omega) ((hB0.cell (p := ⟨Bs, 0, none⟩) hBs).trans hc) (hI.below hB0 zl) (fun b off c e hz => Nat.lt_of_lt_of_le (hlt b off c e hz) hn₀)) belowK_t (belowK_b (by simp)) (Below.refl _ _) (fun _ => rfl)
  (fun (pre : List (zB)) W => (∃ v, Boxed W w.heap.size 94 v ∧ W.ownsRow w.heap.size 9 1 v pre.length (pre.map encStr) ∧ True) ∧ Below w.heap.size w W)
  (fun _ _ _ => False)
  (OwnFrom.and (Own.from (holdsRow_own w.heap.size w.heap.size 94 9 1 (fun pre : List (zB) => pre.length) (fun pre => pre.map encStr) (fun _ _ => True)) _) (ownFrom_below zl (by simp)))
  (fun _ _ _ _ _ hs _ _ => hs)
  ⟨⟨_, bO, World.ownsRow_nil _ _ _ _, trivial⟩, hB0⟩
  (fun x => { tmps := #[.slice none 0 0, .func (.func 220) #[] #[.pointer (some ⟨Bs, 0, none⟩)], .pointer (some ⟨w.heap.size, 0, none⟩), undef, .slice none 0 0, encStr x, .func (.func 220) #[] #[.pointer (some ⟨Bs, 0, none⟩)], encStr x, undef, undef, undef, undef, undef], defers := [] }) ?assign ?body ?done ?stop
 case assign =>
  intro l x W K hK
  gi_wp2
  exact hK
 case body =>
  rintro l pre x W ⟨⟨v, hv, hrow, -⟩, hB⟩ hlt;have hc := hv.cell
  gi_wp2_with (gi_at_builtin; refine wpListIn_append_own _ rfl _ _ 94 rfl w.heap.size 9 i0 (.string ⟨#[]⟩) 1 16 Tryz.underlying94 hi hz0 hz1 hz2 rfl (by decide) _ _ _ rfl (hrow.alloc _) ⟨W.heap.size, 0, none⟩ 1 1 [encStr x] rfl rfl (cell_one_new _ _ _) (by simp [Value.oneCell']) (by unfold maxLen; omega) (by omega) (by have := hB.size; simp; omega) ?_; intro v' w1 hown' hgrow _; obtain ⟨g', cap', rfl⟩ := ownsRow_succ hown'; obtain ⟨hv1, hv2, hr2, hk2, hb2⟩ := hv.appended (by decide) hrow hB.size zl hown' hgrow; have hc1 := hv1.cell; have hf1 := hv1.frozen)
  exact ⟨hk2.from _, hb2, ⟨_, hv2, by simpa using hr2, trivial⟩, hB.trans hb2⟩
 case done =>
  rintro D ys W hD rfl ⟨⟨v, hv, hrow, -⟩, hB⟩ hK;have hc := hv.cell
  gi_wp2
  refine ⟨by simp, .inl ⟨_, _, rfl, run_takeDeferred hK, ?_⟩⟩;exact ⟨_, results_tmp rfl _ _ _, v, rfl, ownsRow_putObj hrow _ hK rfl, hB.trans (belowK_b (w := w) zl W D _ _ (by simp at hD; omega) hK rfl rfl)⟩
 case stop =>
  rintro D c pre W _ _ h _;exact h.elim
end Go.Proofs.YtgjddkeogboojaaGreatDoor
namespace Go.Proofs.YtgjddkeogboojaaGreatDoor
open Go Go.RowKit Go.Shelf Go.Maps Go.Sort
theorem zic (l : List (zB)) : (l.mergeSort leB).Pairwise fun a b => a ≤ b := by
 have tr : ∀ a b c : zB, leB a b = true → leB b c = true → leB a c = true := fun a b c h1 h2 => by simp only [leB, decide_eq_true_eq] at *; exact List.le_trans h1 h2
 have to : ∀ a b : zB, (leB a b || leB b a) = true := fun a b => by simp only [leB, Bool.or_eq_true, decide_eq_true_eq]; exact List.le_total a b
 exact (List.pairwise_mergeSort tr to l).imp fun h => by simpa [leB] using h
theorem z7u : ∀ {l : List (zB)}, l.Pairwise (fun a b => a ≤ b) → (∀ j, j + 1 < l.length → l[j]? ≠ l[j + 1]?) → l.Nodup
 | [], _, _ => List.nodup_nil
 | [a], _, _ => by simp
 | a :: b :: t, hp, h => by
   have hp2 := List.pairwise_cons.1 hp;have ih := z7u hp2.2 fun j hj => by have := h (j + 1) (by simpa using hj); simpa using this
   refine List.nodup_cons.2 ⟨fun hm => ?_, ih⟩;have hab : a ≠ b := fun e => h 0 (by simp) (by simp [e]);rcases List.mem_cons.1 hm with e | hm'
   · exact hab e
   · have h1 := hp2.1 b (by simp);have h2 := (List.pairwise_cons.1 hp2.2).1 a hm';exact hab (List.le_antisymm h1 h2)
theorem zf9 {α : Type} (p : α → Bool) (l : List α) (h : (l.filter p).length = l.length) : ∀ x ∈ l, p x = true := by
 have := List.length_filter_eq_length_iff.1 h;exact this
theorem z8y (l : List (zB)) : (Lib.compact (l.mergeSort leB)).length = l.length ↔ l.Nodup := by
 have hl : (l.mergeSort leB).length = l.length := List.length_mergeSort l
 have hk : ∀ j, j < l.length → (Lib.keeps (l.mergeSort leB).toArray j = true ↔ (j = 0 ∨ (l.mergeSort leB)[j]? ≠ (l.mergeSort leB)[j - 1]?)) := fun j hj => by
  unfold Lib.keeps;rw [decide_eq_true_iff];have e1 : (l.mergeSort leB).toArray[j]! = (l.mergeSort leB)[j]'(by omega) := by rw [getElem!_pos _ _ (by simp; omega)]; simp
  have e2 : (l.mergeSort leB).toArray[j - 1]! = (l.mergeSort leB)[j - 1]'(by omega) := by rw [getElem!_pos _ _ (by simp; omega)]; simp
  rw [e1, e2, zj (by omega), zj (by omega)];simp
 unfold Lib.compact Lib.compactUpTo;rw [List.length_map, hl];constructor
 · intro h;have hall := zf9 _ _ (h.trans (List.length_range).symm)
   have hn : (l.mergeSort leB).Nodup := z7u (zic l) fun j hj e => by
    have h1 := (hk (j + 1) (by omega)).1 (hall (j + 1) (by simp; omega));rcases h1 with h1 | h1
    · omega
    · exact h1 (by rw [Nat.add_sub_cancel]; exact e.symm)
   exact (List.mergeSort_perm l leB).nodup_iff.1 hn
 · intro h;have hn : (l.mergeSort leB).Nodup := (List.mergeSort_perm l leB).nodup_iff.2 h;rw [List.filter_eq_self.2, List.length_range];intro j hj;have hj' : j < l.length := by simpa using hj
   refine (hk j hj').2 ?_;by_cases h0 : j = 0
   · exact .inl h0
   · refine .inr fun e => ?_;rw [zj (by omega), zj (by omega)] at e;have := (List.getElem_inj hn).1 (Option.some.inj e);omega
theorem zfa (Bs n₀ : Nat) (sv : Value) (zs : List (zB)) (hlen : zs.length ≤ 1000000) (w : World) (hBs : Bs < w.heap.size) (hn₀ : n₀ ≤ w.heap.size)
 (hc : w.cell? ⟨Bs, 0, none⟩ = some sv) (hI : StrsR w sv zs) (hlt : ∀ b off c, sv = .slice (some ⟨b, off, none⟩) zs.length c → zs ≠ [] → b < n₀) :
 Calls Tryz.prog 218 #[.func (.func 220) #[] #[.pointer (some ⟨Bs, 0, none⟩)]] w fun e W' => ∃ v, e = .returned v ∧ W'.ownsRow w.heap.size 9 1 v zs.length (zs.map encStr) ∧ Below w.heap.size w W' := by
 have H := zh ((callsIn_wide (n := 5)).1 (zbq 5 (by omega) Bs n₀ sv zs hlen w hBs hn₀ hc hI hlt));clear hc hI hlt
 go_enter Tryz.func218, Tryz.ntmps218
 go_wp2_with fail
 refine H.out.mono ?_;rintro e w1 ⟨v, rfl, h1, h2⟩
 go_wp2
 go_ret
 exact ⟨v, rfl, h1, h2⟩
theorem zid (Bs n₀ : Nat) (sv : Value) (zs : List (zB)) (hlen : zs.length ≤ 1000000) (w : World) (hBs : Bs < w.heap.size) (hn₀ : n₀ ≤ w.heap.size)
 (hc : w.cell? ⟨Bs, 0, none⟩ = some sv) (hI : StrsR w sv zs) (hlt : ∀ b off c, sv = .slice (some ⟨b, off, none⟩) zs.length c → zs ≠ [] → b < n₀) :
 Calls Tryz.prog 207 #[.func (.func 220) #[] #[.pointer (some ⟨Bs, 0, none⟩)]] w fun e W' => ∃ v, e = .returned v ∧ W'.ownsRow w.heap.size 9 1 v zs.length ((zs.mergeSort leB).map encStr) ∧ Below w.heap.size w W' := by
 have H := zh (zfa Bs n₀ sv zs hlen w hBs hn₀ hc hI hlt);clear hc hI hlt
 go_enter Tryz.func207, Tryz.ntmps207
 go_wp2_with fail
 refine H.out.mono ?_;rintro e w1 ⟨v, rfl, h1, h2⟩;have h1' := h1;obtain ⟨h0, ⟨rfl, hz⟩ | ⟨gb, cap, cur, rfl, hbase, hgb, r1, r2, r3, r4⟩⟩ := h1
 · have hss : zs = [] := List.eq_nil_of_length_eq_zero hz;subst hss;have HS := zh (AnyM.slices_Sort_string_none Tryz.sortA none 0 w1);have H1 := zh h1';clear h0 h1'
   go_wp2_with fail
   refine HS.out.mono ?_;rintro e w2 ⟨rfl, rfl⟩
   go_wp2
   go_ret
   exact ⟨_, rfl, by simpa using H1.out, h2⟩
 · have hH : Holds encStr w1 gb 0 zs.toArray := holds_of_block hgb (by simpa using r4);have HS := zh (AnyM.slices_Sort_string Tryz.sortA gb 0 cap zs w1 hH (lt_heap hgb) (by omega));have Hg := zh hgb; have H3 := zh r3; have H2 := zh h2;clear hH h0 h1' hgb r3 r4 h2
   go_wp2_with fail
   refine HS.out.mono ?_;rintro e w2 ⟨rfl, k, os, rfl⟩
   go_wp2
   go_ret
   refine ⟨_, rfl, ?_, ?_⟩
   · exact ownsRow_sorted (by simp) hbase Hg.out r1 r2 H3.out
   · exact H2.out.grown (grownBy_sorted _) H2.out.size (fun j hj => by cases hj; exact hbase)
theorem za6 {w : World} {g n : Nat} (d : Array (zB)) : w.grownBy (putRow encStr (Sort.ahead w n) g 0 d) (some g) := by
 refine ⟨rfl, rfl, rfl, by simp [putRow, mapBlock, Sort.ahead], fun k hk hne => ?_⟩;have : g ≠ k := fun e => hne (by rw [e]);simp [putRow, mapBlock, Sort.ahead, Array.getElem?_modify, this]
theorem zl6 (base : Nat) (v : Value) (zs : List (zB)) (hlen : zs.length ≤ 1000000) (w : World) (hrow : w.ownsRow base 9 1 v zs.length (zs.map encStr)) :
 Calls Tryz.prog 206 #[v] w fun e w' => (∃ A c, e = .returned (.slice A (Lib.compact zs).length c)) ∧ Below base w w' := by
 obtain ⟨h0, ⟨rfl, hz⟩ | ⟨gb, cap, cur, rfl, hbase, hgb, r1, r2, r3, r4⟩⟩ := hrow
 · have hss : zs = [] := List.eq_nil_of_length_eq_zero hz;subst hss;refine (Any.slices_Compact_string_empty Tryz.compA none 0 w).mono ?_;rintro e w' ⟨rfl, rfl⟩;exact ⟨⟨_, _, rfl⟩, Below.refl _ _⟩
 · have hH : Holds encStr w gb 0 zs.toArray := holds_of_block hgb (by simpa using r4);refine (Any.slices_Compact_string Tryz.compA gb 0 cap zs w hH (by omega) r1).mono ?_;rintro e w' ⟨rfl, q, rfl⟩;refine ⟨⟨_, _, rfl⟩, ?_⟩;have hg := za6 (w := w) (g := gb) (n := q) (Lib.compact zs ++ List.replicate (zs.length - (Lib.compact zs).length) []).toArray
   exact ⟨hg.os, hg.tape, hg.output, hg.size, fun k hk => by
    refine hg.block k ?_ ?_
    · have := lt_heap hgb; omega
    · intro e; cases e; omega⟩
theorem onceHyp {w : World} {v : Value} {zs : List (zB)} (hr : StrsR w v zs) : ∀ b off c, v = .slice (some ⟨b, off, none⟩) zs.length c → zs ≠ [] → b < w.heap.size := fun b off c e hz => by
 obtain ⟨g, o, c', e', _, hg⟩ := hr.pos (List.length_pos_iff.2 hz);rw [e] at e'; cases e'; exact hg
theorem z7v (zs : List (zB)) (hl : zs.length ≤ 1000000) (A : Option Addr) (c : Nat) (w : World) (hr : StrsR w (.slice A zs.length c) zs) (he : Er w) (b : Bool) (hb : decide (((Lib.compact (zs.mergeSort leB)).length : Int) = (zs.length : Int)) = b) (Q : Ending → World → Prop)
 (hN : ∀ W, Below w.heap.size w W → ∀ pe, W.cell? ⟨4, 0, none⟩ = some (.iface 336 pe) → Calls Tryz.prog 140 #[.bool b, .string ⟨#[116, 119, 111]⟩, .iface 336 pe] W fun e W' => (∃ v, e = .returned v ∧ Q (.returned v) W')) :
 Calls Tryz.prog 190 #[.slice A zs.length c] w Q := by
 have HV := zh (zib A zs.length c w);have hb1 := below_new w (.cells #[.slice A zs.length c] 94);have HS := zh (zid w.heap.size w.heap.size (.slice A zs.length c) zs hl (w.alloc (.cells #[.slice A zs.length c] 94)) (by simp) (by simp) (by simp) (hr.below hb1 zl) (onceHyp hr));have HR := zh hr; have HE := zh he; have HN := zh hN;obtain ⟨m, hm⟩ := zx ((Lib.compact (zs.mergeSort leB)).length);rw [← hm] at hb;have hbi : ((m : Int) == (zs.length : Int)) = b := by rw [← hb]; rfl
 have Hm := zh hm;clear hr he hN hm hb
 go_enter Tryz.func190, Tryz.ntmps190
 go_wp2_with fail
 refine HV.out.mono ?_;rintro e w1 ⟨rfl, rfl⟩
 go_wp2_with fail
 refine HS.out.mono ?_;rintro e w2 ⟨v, rfl, h1, h2⟩;have l2 : Below w.heap.size w w2 := hb1.trans (h2.mono hb1.size);have hlen : (zs.mergeSort leB).length = zs.length := List.length_mergeSort zs;have HC := zh (zl6 (w.alloc (.cells #[.slice A zs.length c] 94)).heap.size v (zs.mergeSort leB) (by omega) w2 (by rw [hlen]; exact h1));rw [← Hm.out] at HC;clear h1 h2 hlen hb1
 go_wp2_with fail
 refine HC.out.mono ?_;rintro e w3 ⟨⟨A3, c3, rfl⟩, h3⟩;have l3 : Below w.heap.size w w3 := l2.trans (h3.mono (by simp));obtain ⟨a, ce⟩ := (HE.out.below l3).wrong;have HN3 := zh (HN.out w3 l3 _ ce);clear h3
 go_wp2_with fail
 refine HN3.out.mono ?_;rintro e w4 ⟨v4, rfl, h4⟩
 go_wp2
 exact h4
theorem z6j (zs : List (zB)) (hl : zs.length ≤ 1000000) (v : Value) (w : World) (hr : StrsR w v zs) (he : Er w) (h : zs.Nodup) : Calls Tryz.prog 190 #[v] w (z06 .nilIface w) := by
 obtain ⟨A, c, rfl⟩ := hr.shape;refine z7v zs hl A c w hr he true (decide_eq_true (by rw [(z8y zs).2 h])) _ fun W hW pe _ => ?_;refine (z2m _ _ W).mono ?_;rintro e w' ⟨rfl, rfl⟩;exact ⟨_, rfl, rfl, hW⟩
theorem z7w (zs : List (zB)) (hl : zs.length ≤ 1000000) (v : Value) (w : World) (hr : StrsR w v zs) (he : Er w) (h : ¬ zs.Nodup) : Calls Tryz.prog 190 #[v] w (zez w) := by
 obtain ⟨A, c, rfl⟩ := hr.shape;refine z7v zs hl A c w hr he false (decide_eq_false (fun e => h ((z8y zs).1 (by omega)))) _ fun W hW pe _ => ?_;refine (z3s _ _ _ W).mono ?_;rintro e w' ⟨rfl, rfl⟩;exact ⟨_, rfl, _, rfl, hW.trans ((below_new W _).mono hW.size)⟩
end Go.Proofs.YtgjddkeogboojaaGreatDoor
namespace Go.Proofs.YtgjddkeogboojaaGreatDoor
open Go Go.RowKit
def Tb (w : World) : Prop := Lib.TabIs Tryz.prog w "internal/strconv.uint64pow10" .u64 Lib.pow10Tab
theorem Tb.below {w w' : World} (h : Tb w) (hb : Below w.heap.size w w') : Tb w' := by
 have hg : Tryz.prog.globalNamed "internal/strconv.uint64pow10" = some 8 := by kernel_rfl
 have hlt : 8 < w.heap.size := World.block_lt_of_cell? w _ (Lib.TabIs.cell h hg 0 (by rw [Lib.pow10Tab_length]; decide));unfold Tb Lib.TabIs World.var? at h ⊢;rw [hg] at h ⊢;simp only [Option.bind_some] at h ⊢;rw [hb.block _ hlt];exact h
theorem nd_len : ∀ (k u : Nat), u < 10 ^ (k + 1) → Lib.nDigits u ≤ k + 1
 | k, u, h => by
   by_cases hu : u < 10
   · rw [Lib.nDigits_small hu]; omega
   · rw [Lib.nDigits_big hu];cases k with
     | zero => rw [Nat.pow_one] at h; omega
     | succ k =>
       rw [Nat.pow_succ] at h;have := nd_len k (u / 10) (by omega);omega
def za7 (n : Int) : zB := if n < 0 then [] else Lib.decDigits n.toNat
theorem zcy {n : Int} (h : n ≤ 9223372036854775807) : (za7 n).length ≤ 20 := by
 unfold za7;by_cases h0 : n < 0
 · rw [if_pos h0]; simp
 · rw [if_neg h0, Lib.decDigits_length];exact nd_len 19 n.toNat (by omega)
theorem zgp (n : Int) (h0 : -9223372036854775808 ≤ n) (h1 : n ≤ 9223372036854775807) (w : World) (hp : Tb w) :
 Calls Tryz.prog 144 #[.int .i64 n] w fun e w' => e = .returned (SV (za7 n)) ∧ Below w.heap.size w w' := by
 have HI := zh (Any.strconv_Itoa Tryz.itoaA n h0 h1 w hp);clear hp;by_cases h : n < 0
 · rw [show za7 n = [] from if_pos h];unfold SV;clear HI
   go_enter Tryz.func144, Tryz.ntmps144
   go_wp2
   go_ret
   exact ⟨rfl, Below.refl _ _⟩
 · have HT : Hid (Lib.itoa n = za7 n) := zh (by unfold za7 Lib.itoa; rw [if_neg h, if_neg h]);rw [HT.out] at HI;generalize za7 n = t at HI ⊢;clear HT;unfold SV
   go_enter Tryz.func144, Tryz.ntmps144
   go_wp2_with fail
   refine HI.out.mono ?_;rintro e w' ⟨rfl, k, os, rfl⟩
   go_wp2
   go_ret
   exact ⟨rfl, Lib.below_grow _ _ zl _ _⟩
theorem zgq (n : Nat) (h1 : n ≤ 1000000) (w : World) (hp : Tb w) :
 Calls Tryz.prog 176 #[.int .i64 (n : Int)] w fun e w' => (∃ s, e = .returned (.string s)) ∧ Below w.heap.size w w' := by
 have HT := zh (zgp n (by omega) (by omega) w hp);have hl := zcy (n := (n : Int)) (by omega);generalize za7 (n : Int) = t at HT hl;unfold SV at HT;clear hp
 go_enter Tryz.func176, Tryz.ntmps176
 go_wp2_with fail
 refine HT.out.mono ?_;rintro e w' ⟨rfl, l⟩
 go_wp2
 go_ret
 exact ⟨⟨_, rfl⟩, l⟩
end Go.Proofs.YtgjddkeogboojaaGreatDoor
namespace Go.Proofs.YtgjddkeogboojaaGreatDoor
open Go Go.RowKit Go.Shelf
theorem z3f : ∀ (a b : zB), Op.bytesLess a b = bytesBefore a b
 | [], [] => rfl
 | [], _ :: _ => rfl
 | _ :: _, [] => rfl
 | x :: a, y :: b => by rw [Op.bytesLess, bytesBefore, z3f a b]
theorem z5i {l : List Itm} {k : Nat} {x p : Itm} (hx : x = l.getD k z1c) (hp : p = l.getD (k - 1) z1c) : z4y l k = (z39 x && (k == 0 || bytesBefore (keyL p) (keyL x))) := by
 rw [hx, hp]; rfl
def Smalls (l : List Itm) : Prop := ∀ x ∈ l, x.name.length ≤ 1000000 ∧ x.id.length ≤ 1000000
theorem Smalls.get {l : List Itm} (h : Smalls l) {k : Nat} (hk : k < l.length) {x : Itm} (hx : x = l.getD k z1c) : x.name.length ≤ 1000000 ∧ x.id.length ≤ 1000000 := by
 rw [hx]; exact h _ (z1w l z1c k hk)
theorem names_snoc (l : List Itm) (k : Nat) (hk : k < l.length) : (l.take (k + 1)).map Itm.name = (l.take k).map Itm.name ++ [(l.getD k z1c).name] := by
 rw [z0l l z1c k hk, List.map_append]; rfl
theorem zcz (g o j : Nat) : (⟨g, o, none⟩ : Addr).add j = ⟨g, o + j, none⟩ := by unfold Addr.add; split <;> simp_all
structure ElK {α : Type} (st t : TypeId) (k bt : Nat) (f : α → List Value) : Prop where
 ut : Tryz.prog.underlying st = some (.slice t)
 info : ∃ z, (Tryz.prog.info? t).map (fun i => (i.zero, i.size, i.bytes)) = some (some z, k, bt) ∧ z.cells.size = k
 pos : 0 < k
 len : ∀ x, (f x).length = k
 one : ∀ x, ∀ u ∈ f x, u.oneCell' = true
theorem strK : ElK 94 9 1 16 strC := ⟨Tryz.underlying94, ⟨_, zl5, rfl⟩, by decide, z19, fun x u hu => by
 simp only [strC, List.mem_singleton] at hu; subst hu; rfl⟩
theorem itmK : ElK 91 126 3 40 itmC := ⟨Tryz.underlying91, ⟨.agg #[.int .i64 0, .string ⟨#[]⟩, .string ⟨#[]⟩], by kernel_rfl, by kernel_rfl⟩, by decide, zbl, fun x u hu => by
 simp only [itmC, List.mem_cons, List.not_mem_nil, or_false] at hu; rcases hu with rfl | rfl | rfl <;> rfl⟩
theorem wantK : ElK 215 266 2 24 z8t := ⟨Tryz.underlying215, ⟨.agg #[.string ⟨#[]⟩, .int .i64 0], by kernel_rfl, by kernel_rfl⟩, by decide, z6g, fun x u hu => by
 simp only [z8t, List.mem_cons, List.not_mem_nil, or_false] at hu; rcases hu with rfl | rfl <;> rfl⟩
theorem zfb {α : Type} {st t : TypeId} {k bt : Nat} {f : α → List Value} (E : ElK st t k bt f) {w : World} {base : Nat} {v : Value} {l : List α} (h : OwK t k f w base v l) (hl : l.length + 1 ≤ 1000000) (hbt : bt ≤ 1000) (hb : base ≤ w.heap.size) (x : α) (cs : Array Value) (hcs : cs = (f x).toArray) (ty : TypeId) :
 ∃ v' w', (Builtin.append_ #[st, st] ty #[v, .slice (some ⟨w.heap.size, 0, none⟩) 1 1]).run Tryz.prog (w.alloc (.cells cs t)) = .ok v' w' ∧ OwK t k f w' base v' (l ++ [x]) ∧ Below base w w' := by
 obtain ⟨z, hz, hzs⟩ := E.info;obtain ⟨i0, hi, hz0, hz1, hz2⟩ := info_parts hz;subst hcs;have ha : OwK t k f (w.alloc (.cells (f x).toArray t)) base v l := h.below (below_new w _) zl
 obtain ⟨v', w', h1, h2, h3, _⟩ := run_append_own (P := Tryz.prog) _ base st ty t i0 z k bt E.ut hi hz0 hz1 hz2 hzs (by have := E.pos; omega) v l.length (l.flatMap f) ha ⟨w.heap.size, 0, none⟩ 1 1 (f x) (by rw [E.len, Nat.one_mul]) (fun j u hj => by
  rw [zcz, Nat.zero_add, cell_of_row (w.alloc _) w.heap.size j _ _ _ (heap_alloc_new w _)]
  simpa using hj) (E.one x) (by unfold maxLen; omega) (by
   have : (l.length + 1) * bt ≤ 1000000 * 1000 := Nat.mul_le_mul hl hbt;omega) (by simp; omega)
 refine ⟨v', w', h1, ?_, ?_⟩
 · unfold OwK; rw [List.length_append, List.flatMap_append]; simpa using h2
 · refine ((below_new w _).mono hb).trans ⟨h3.os, h3.tape, h3.output, by have := h3.size; simpa using this, fun j hj => h3.block j (by simp; omega) ?_⟩;intro e;have := (h.lt j e.symm).1;omega
theorem z0z {α : Type} {st t : TypeId} {k bt : Nat} {f : α → List Value} (E : ElK st t k bt f) {ops : Array Oper} {rest : List Oper} {o : Oper} {a : Act} {w : World} {Q : Exit → Act → World → Prop} (hgd : o.guard = none) (s y : Operand)
 (ho : o.op = .call { callee := .builtin .append, args := #[s, y], argTypes := #[st, st] }) (base : Nat) (v : Value) (l : List α) (x : α) (cs : Array Value) (hcs : cs = (f x).toArray) (hs : a.eval s = v) (hy : a.eval y = .slice (some ⟨w.heap.size, 0, none⟩) 1 1)
 (h : OwK t k f w base v l) (hl : l.length + 1 ≤ 1000000) (hbt : bt ≤ 1000) (hb : base ≤ w.heap.size)
 (kk : ∀ v' w', OwK t k f w' base v' (l ++ [x]) → Below base w w' → wpList Tryz.prog ops Q rest (a.put o.dst v') w') : wpList Tryz.prog ops Q (o :: rest) a (w.alloc (.cells cs t)) := by
 refine wpList_plain hgd fun K hK => ?_;obtain ⟨v', w', h1, h2, h3⟩ := zfb E h hl hbt hb x cs hcs o.type;unfold Oper.wp;simp [execOp, ho, resolve, invoke, builtin, hs, hy, h1, Result.andThen];exact hK _ _ (kk v' w' h2 h3)
end Go.Proofs.YtgjddkeogboojaaGreatDoor
