/-
  Put, the program's and the document's. The graph as it lies in memory. put, join. graphOf: the graph of a base. Appends, and what they turn. Entries, as they lie in memory. stands. check. putEntry. Bytes of a constant, and more behind.
-/
import Derived.Test.YtgjddkeogboojaaGreatDoorY04
import Derived.BigRegion
import Derived.Deep.Cut
import Derived.Laws.MakeOwn
import Derived.Lib.AppendStr
import Derived.Maps.AppendAt
import Derived.RangeFuncNested
import Derived.RangeFuncLeaves
import Derived.Shelf.RegionOpen
import Derived.OwnWalkIn
import Derived.TacticsInMore
import Derived.LoopNIn
import Derived.LoopIn
import Derived.Test.YtgjddkeogboojaaGreatDoorY01
import Derived.Test.YtgjddkeogboojaaGreatDoorY05
import Derived.Lib.SlBytesConst
import Derived.Lib.SmallJoins
set_option maxHeartbeats 16000000
set_option maxRecDepth 100000
namespace Go.Proofs.YtgjddkeogboojaaGreatDoor.Dl
open Go Go.RowKit
def putI (n : Int) : zB := if z7c n = true then putL n.toNat else []
def PutP (w : World) (l : zB) (e : Ending) (w' : World) : Prop := ∃ A c, e = .returned (.slice A l.length c) ∧ Rb w' (.slice A l.length c) l ∧ Below w.heap.size w w'
theorem z8w (n : Int) : z7c n = true ↔ 0 ≤ n ∧ n ≤ 1099511627776 := by unfold z7c; simp
theorem putI_nat {n : Nat} (h : n ≤ 1099511627776) : putI (n : Int) = putL n := by
 unfold putI; rw [if_pos ((z8w _).2 ⟨by omega, by omega⟩), Int.toNat_natCast]
theorem zl1 {n : Int} (h : z7c n = false) : putI n = [] := by unfold putI; rw [h]; rfl
theorem byte_of {n : Nat} (h : n < 256) : ((UInt8.ofNat n).toNat : Int) = (n : Int) := by rw [UInt8.toNat_ofNat']; omega
theorem Put_fits (n : Nat) (hn : n ≤ 1099511627776) (w : World) : Calls Tryz.prog 52 #[.int .i64 (n : Int)] w (PutP w (putL n)) := by
 have HF := zh (zbm (n : Int));rw [show z7c (n : Int) = true from (z8w _).2 ⟨by omega, by omega⟩] at HF;have O0 := zh (Ow.nil w w.heap.size);have H6 := zh (putL_len6 hn)
 go_enter Tryz.func52, Tryz.ntmps52
 go_wp2_with fail
 refine (HF.out _).mono ?_;rintro e w' ⟨rfl, rfl⟩
 go_wp2
 go_loopw [0, 3] (fun vn b wr => ∃ (m K : Nat) (A : Option Addr) (c : Nat) (pre : zB), m ≤ n ∧ vn = .int .i64 m ∧ b = .slice A K c ∧ Hid (K = pre.length) ∧ Hid (pre ++ putL m = putL n) ∧ Ow wr w.heap.size (.slice A K c) pre ∧ Below w.heap.size w wr) (fun vn _ _ => (intOf vn).toNat)
 case atStart => exact ⟨n, 0, none, 0, [], Nat.le_refl _, rfl, rfl, rfl, rfl, O0.out, Below.refl _ _⟩
 case round =>
  clear O0;obtain ⟨m, K, A, c, pre, hm, rfl, rfl, hK, hp, ho, hb⟩ := hrel;have hlen : pre.length + (putL m).length ≤ 6 := by have h := H6.out; rw [← hp.out, List.length_append] at h; exact h
  have hK6 : K ≤ 6 := by rw [hK.out]; omega
  by_cases hlt : 128 ≤ m
  · obtain ⟨x, hx⟩ := zx (UInt8.ofNat (m % 128 + 128));have gx : IntKind.u8.wrap ((m : Int) % 128 + 128) = (x.toNat : Int) := by rw [hx, byte_of (by omega), IntKind.wrap_u8']; omega
    have hpx : (pre ++ [x]) ++ putL (m / 128) = putL n := by rw [← hp.out, z8n hlt, hx, List.append_assoc]; rfl
    have Hpx := zh hpx;have O1 : Hid (Ow (wr.alloc (.cells #[.int .u8 (x.toNat : Int)] 5)) w.heap.size (.slice A K c) pre) := zh (ho.below (below_new wr _) zl);have R1 : Hid (Rb (wr.alloc (.cells #[.int .u8 (x.toNat : Int)] 5)) (.slice (some ⟨wr.heap.size, 0, none⟩) 1 1) [x]) := zh (rb_one wr x);have Q1 : Hid (pre.length + ([x] : zB).length ≤ 140737488355328) := zh (by simp; omega);have L1 : Hid (Below w.heap.size w (wr.alloc (.cells #[.int .u8 (x.toNat : Int)] 5))) := zh (hb.alloc hb.size _);have S1 : Hid (w.heap.size ≤ (wr.alloc (.cells #[.int .u8 (x.toNat : Int)] 5)).heap.size) := zh L1.out.size;have HK := zh hK.out;clear hx hpx ho hb hlen hp hK
    go_wp2_with (refine wpList_app (o := ⟨some 17, _, _, _, _, _⟩) rfl _ _ rfl w.heap.size _ _ pre [x] rfl rfl O1.out R1.out Q1.out S1.out ?_)
    intro v2 w2 o2 l2;have L2 := L1.out.trans l2;obtain ⟨A2, c2, rfl, _⟩ := o2.rb.shape;clear O1 R1 Q1 S1 L1 l2 gx
    go_wp2
    go_roundw
    case rel => exact ⟨m / 128, _, A2, c2, pre ++ [x], by omega, by go_num, rfl, rfl, Hpx.out, o2, L2⟩
    case measure => simp [intOf]; omega
  · obtain ⟨x, hx⟩ := zx (UInt8.ofNat m);have gx : IntKind.u8.wrap (m : Int) = (x.toNat : Int) := by rw [hx, byte_of (by omega), IntKind.wrap_u8']; omega
    have hpx : pre ++ [x] = putL n := by rw [← hp.out, z8m (by omega), hx]
    have Hpx := zh hpx;have O1 : Hid (Ow (wr.alloc (.cells #[.int .u8 (x.toNat : Int)] 5)) w.heap.size (.slice A K c) pre) := zh (ho.below (below_new wr _) zl);have R1 : Hid (Rb (wr.alloc (.cells #[.int .u8 (x.toNat : Int)] 5)) (.slice (some ⟨wr.heap.size, 0, none⟩) 1 1) [x]) := zh (rb_one wr x);have Q1 : Hid (pre.length + ([x] : zB).length ≤ 140737488355328) := zh (by simp; omega);have L1 : Hid (Below w.heap.size w (wr.alloc (.cells #[.int .u8 (x.toNat : Int)] 5))) := zh (hb.alloc hb.size _);have S1 : Hid (w.heap.size ≤ (wr.alloc (.cells #[.int .u8 (x.toNat : Int)] 5)).heap.size) := zh L1.out.size;clear hx hpx ho hb hlen hp hK
    go_wp2_with (refine wpList_app (o := ⟨some 22, _, _, _, _, _⟩) rfl _ _ rfl w.heap.size _ _ pre [x] rfl rfl O1.out R1.out Q1.out S1.out ?_)
    intro v2 w2 o2 l2;have L2 := L1.out.trans l2;rw [Hpx.out] at o2;obtain ⟨A2, c2, rfl, _⟩ := o2.rb.shape;have R2 := zh o2.rb;clear O1 R1 Q1 S1 L1 l2 gx o2
    go_wp2
    go_ret
    exact ⟨A2, c2, rfl, R2.out, L2⟩
theorem Put_none (n : Int) (hf : z7c n = false) (w : World) : Calls Tryz.prog 52 #[.int .i64 n] w (PutP w []) := by
 have HF := zh (zbm n);rw [hf] at HF;clear hf
 go_enter Tryz.func52, Tryz.ntmps52
 go_wp2_with fail
 refine (HF.out _).mono ?_;rintro e w' ⟨rfl, rfl⟩
 go_wp2
 go_ret
 exact ⟨none, 0, rfl, .inl ⟨⟨_, rfl⟩, rfl⟩, Below.refl _ _⟩
theorem Put_any (n : Int) (w : World) : Calls Tryz.prog 52 #[.int .i64 n] w (PutP w (putI n)) := by
 cases hf : z7c n with
 | false => rw [zl1 hf]; exact Put_none n hf w
 | true =>
   obtain ⟨h0, h1⟩ := (z8w n).1 hf;obtain ⟨m, rfl⟩ := Int.eq_ofNat_of_zero_le h0;rw [putI_nat (by omega)];exact Put_fits m (by omega) w
section
variable {α : Type} {t : TypeId} {k : Nat} {f : α → List Value}
theorem blk_setCell {W : World} {b i : Nat} {cs : Array Value} {t : TypeId} {fr : Nat × Nat} (h : W.heap[b]? = some (.cells cs t fr)) (v : Value) : (W.setCell ⟨b, i, none⟩ v).heap[b]? = some (.cells (cs.setIfInBounds i v) t fr) := by
 obtain ⟨hlt, hk⟩ := Array.getElem?_eq_some_iff.1 h;show (W.heap.modify b _)[b]? = _;rw [Array.getElem?_eq_getElem (by rw [Array.size_modify]; exact hlt), Array.getElem_modify_self, hk];rfl
theorem setCell_other (W : World) (b i : Nat) (v : Value) (k : Nat) (h : k ≠ b) : (W.setCell ⟨b, i, none⟩ v).heap[k]? = W.heap[k]? := Below.heap_setCell _ _ _ _ h
theorem size_setCell (W : World) (a : Addr) (v : Value) : (W.setCell a v).heap.size = W.heap.size := by simp [World.setCell]
end
theorem frozen_of {w : World} {b i : Nat} {cs : Array Value} {t : TypeId} (h : w.heap[b]? = some (.cells cs t (0, 0))) : w.frozen? ⟨b, i, none⟩ = false := by simp [World.frozen?, h]
theorem y_bs {P : Program} {a : Go.Act} {o : Oper} {W W' : World} {t : TypeId} {x : Operand} {xv r : Value} (ho : o.op = .buildSlice t 1 #[(0, x)]) (hx : a.eval x = xv) (h : (Instr.buildSlice t 1 #[(0, xv)]).run P W = .ok r W') : (execOp a.eval o).run P W = .ok (.value r) W' := by
 subst hx;simp only [execOp, ho];simp [h, Result.andThen]
section
variable {P : Program} {a : Go.Act} {o : Oper} {W W' : World}
theorem zl2 {st : TypeId} {s : Operand} {sv r : Value} (ho : o.op = .call { callee := .builtin .len, args := #[s], argTypes := #[st] }) (hs : a.eval s = sv)
 (h : (Builtin.len_ #[st] o.type #[sv]).run P W = .ok r W) : (execOp a.eval o).run P W = .ok (.value r) W := by
 subst hs;simp [execOp, ho, resolve, invoke, builtin, h, Result.andThen]
end
theorem zct (W : World) (l : Bs) (ty : TypeId) : (Builtin.len_ #[9] ty #[SV l]).run Tryz.prog W = .ok (.int .i64 (l.length : Int)) W := by
 unfold SV;go_simp
theorem z7f (W : World) (o : Obj) : (W.alloc o).heap.size = W.heap.size + 1 := Array.size_push o
theorem z14 {W W' : World} {o : Obj} {b : Nat} (h : W' = W.alloc o) (hb : W.heap.size = b) : W'.heap[b]? = some o := by rw [h, ← hb]; exact heap_alloc_new _ _
theorem z1r {W W' : World} {o : Obj} {b : Nat} (h : W' = W.alloc o) (hb : W.heap.size = b) : W'.heap.size = b + 1 := by rw [h, z7f, hb]
structure But (S : Nat → Prop) (w w' : World) : Prop where
 os : w'.os = w.os
 tape : w'.tape = w.tape
 output : w'.output = w.output
 size : w.heap.size ≤ w'.heap.size
 block : ∀ k, k < w.heap.size → ¬ S k → w'.heap[k]? = w.heap[k]?
theorem But.refl (S : Nat → Prop) (w : World) : But S w w := ⟨rfl, rfl, rfl, Nat.le_refl _, fun _ _ _ => rfl⟩
theorem But.trans {S : Nat → Prop} {a b c : World} (h : But S a b) (k : But S b c) : But S a c :=
 ⟨k.os.trans h.os, k.tape.trans h.tape, k.output.trans h.output, Nat.le_trans h.size k.size, fun i hi hs => (k.block i (Nat.lt_of_lt_of_le hi h.size) hs).trans (h.block i hi hs)⟩
theorem But.mono {S T : Nat → Prop} {w w' : World} (h : But S w w') (hs : ∀ k, k < w.heap.size → S k → T k) : But T w w' :=
 ⟨h.os, h.tape, h.output, h.size, fun k hk hn => h.block k hk fun hS => hn (hs k hk hS)⟩
theorem But.of_below {B : Nat} {w w' : World} (h : Below B w w') : But (fun k => B ≤ k) w w' := ⟨h.os, h.tape, h.output, h.size, fun k _ hn => h.block k (Nat.lt_of_not_le hn)⟩
theorem But.of_new {S : Nat → Prop} {w w' : World} (h : Below w.heap.size w w') : But S w w' := ⟨h.os, h.tape, h.output, h.size, fun k hk _ => h.block k hk⟩
theorem But.below {S : Nat → Prop} {w w' : World} {B : Nat} (h : But S w w') (hS : ∀ k, k < w.heap.size → S k → B ≤ k) (hB : B ≤ w.heap.size) : Below B w w' :=
 ⟨h.os, h.tape, h.output, h.size, fun k hk => h.block k (Nat.lt_of_lt_of_le hk hB) fun hs => by have := hS k (Nat.lt_of_lt_of_le hk hB) hs; omega⟩
theorem But.of_grown {w w' : World} {row : Option Nat} (h : w.grownBy w' row) : But (fun k => row = some k) w w' := ⟨h.os, h.tape, h.output, h.size, fun k hk hn => h.block k hk (fun e => hn e.symm)⟩
theorem But.cell {S : Nat → Prop} {w w' : World} (h : But S w w') {p : Addr} (hlt : p.block < w.heap.size) (hn : ¬ S p.block) : w'.cell? p = w.cell? p := World.cell?_of_block (w := w) (h.block p.block hlt hn)
theorem But.setCell {S : Nat → Prop} {a w : World} (h : But S a w) {p : Addr} (hp : S p.block) (u : Value) : But S a (w.setCell p u) :=
 h.trans ⟨rfl, rfl, rfl, by simp [World.setCell], fun k _ hn => Below.heap_setCell _ _ _ _ (fun e => hn (by rw [e]; exact hp))⟩
theorem z2h {S : Nat → Prop} (w : World) (r : Nat) (o : Obj) (hr : S r) : But S w (w.putObj r o) :=
 ⟨rfl, rfl, rfl, by simp, fun k _ hn => World.putObj_heap_other (fun e => hn (by rw [e]; exact hr))⟩
theorem zf4 {w w' : World} {base n k : Nat} {t : TypeId} {v : Value} {xs : List Value} {S : Nat → Prop} (h : w.ownsRow base t k v n xs) (hb : But S w w') (hn : ∀ g, v.ownBlock = some g → ¬ S g) : w'.ownsRow base t k v n xs := by
 obtain ⟨h1, h2⟩ := h;refine ⟨h1, ?_⟩;rcases h2 with h2 | ⟨g, cap, cur, rfl, hbg, hg, r⟩
 · exact .inl h2
 · exact .inr ⟨g, cap, cur, rfl, hbg, (hb.block g (lt_heap hg) (hn g rfl)).trans hg, r⟩
theorem But.own {S T : Nat → Prop} {a b c : World} (h : But S a b) (k : But T b c) (hT : ∀ i, T i → S i ∨ a.heap.size ≤ i) : But S a c :=
 ⟨k.os.trans h.os, k.tape.trans h.tape, k.output.trans h.output, Nat.le_trans h.size k.size, fun i hi hs => (k.block i (Nat.lt_of_lt_of_le hi h.size) (fun ht => (hT i ht).elim hs (fun h2 => by omega))).trans (h.block i hi hs)⟩
def AppF (w : World) (v : Value) (w' : World) (v' : Value) : Prop := But (fun k => v.ownBlock = some k) w w' ∧ ∀ k, v'.ownBlock = some k → v.ownBlock = some k ∨ w.heap.size ≤ k
theorem AppF.refl (w : World) (v : Value) : AppF w v w v := ⟨But.refl _ _, fun _ h => .inl h⟩
theorem AppF.new {w w' : World} (v : Value) (h : Below w.heap.size w w') : AppF w v w' v := ⟨But.of_new h, fun _ h => .inl h⟩
theorem AppF.trans {a b c : World} {u v x : Value} (h : AppF a u b v) (k : AppF b v c x) : AppF a u c x :=
 ⟨h.1.own k.1 h.2, fun i hi => (k.2 i hi).elim (h.2 i) (fun h2 => .inr (Nat.le_trans h.1.size h2))⟩
theorem AppF.size {a b : World} {u v : Value} (h : AppF a u b v) : a.heap.size ≤ b.heap.size := h.1.size
theorem run_app' {w : World} {base : Nat} {v sv : Value} {l m : zB} (h : Ow w base v l) (hs : Rb w sv m) (hl : l.length + m.length ≤ 140737488355328) (hb : base ≤ w.heap.size) (ty : TypeId) :
 ∃ v' w', (Builtin.append_ #[23, 23] ty #[v, sv]).run Tryz.prog w = .ok v' w' ∧ Ow w' base v' (l ++ m) ∧ AppF w v w' v' := by
 have key : ∀ (a : Addr) (c : Nat), sv = .slice (some a) m.length c → (∀ j u, (m.map bv)[j]? = some u → w.cell? (a.add j) = some u) →
  ∃ v' w', (Builtin.append_ #[23, 23] ty #[v, sv]).run Tryz.prog w = .ok v' w' ∧ Ow w' base v' (l ++ m) ∧ AppF w v w' v' := by
  rintro a c rfl hcell;obtain ⟨i, hi⟩ : ∃ i, Tryz.prog.info? 5 = some i := Option.isSome_iff_exists.1 (by kernel_rfl);have hi0 := zzzh;rw [hi] at hi0;simp only [Option.map_some, Option.some.injEq, Prod.mk.injEq] at hi0;obtain ⟨v', w', h1, h2, h3, _, h5⟩ := run_append_own_at (P := Tryz.prog) w base 23 ty 5 i (.int .u8 0) 1 1 Tryz.underlying23 hi hi0.1 hi0.2.1 hi0.2.2 rfl (by omega) v l.length (l.map bv) h a m.length c (m.map bv) (by simp) hcell (bv_one m) (by unfold maxLen; omega) (by omega) hb;refine ⟨v', w', h1, by unfold Ow; rw [List.length_append, List.map_append]; exact h2, But.of_grown h3, fun k hk => ?_⟩;rcases h5 with e | e
  · exact .inl (e.symm.trans hk)
  · rw [hk] at e; cases e; exact .inr zl
 rcases hs with ⟨⟨A, rfl⟩, rfl⟩ | ⟨g, o, c, rfl, hc, hg, hcell⟩
 · cases A with
   | some a => exact key a 0 rfl fun j u hj => by simp at hj
   | none =>
     obtain ⟨i, hi⟩ : ∃ i, Tryz.prog.info? 5 = some i := Option.isSome_iff_exists.1 (by kernel_rfl);refine ⟨v, w, run_append_owned_none (P := Tryz.prog) (w := w) base 23 ty 5 i 1 Tryz.underlying23 hi v l.length (l.map bv) h, by rw [List.append_nil]; exact h, AppF.refl _ _⟩
 · refine key ⟨g, o, none⟩ c rfl fun j u hj => ?_;rw [List.getElem?_map] at hj;by_cases hjm : j < m.length
   · rw [zj hjm] at hj;rw [add_none, hcell j hjm, zg, zj hjm];exact hj
   · rw [List.getElem?_eq_none (by omega)] at hj; cases hj
theorem zi7 (m : zB) : Lib.strCells (⟨m.toArray⟩ : ByteArray) = m.map bv := by
 unfold Lib.strCells; rfl
theorem run_apps' {w : World} {base : Nat} {v : Value} {l : zB} (h : Ow w base v l) (m : zB) (hl : l.length + m.length ≤ 140737488355328) (hb : base ≤ w.heap.size) (ty : TypeId) :
 ∃ v' w', (Builtin.append_ #[23, 9] ty #[v, .string ⟨m.toArray⟩]).run Tryz.prog w = .ok v' w' ∧ Ow w' base v' (l ++ m) ∧ AppF w v w' v' := by
 obtain ⟨i, hi⟩ : ∃ i, Tryz.prog.info? 5 = some i := Option.isSome_iff_exists.1 (by kernel_rfl);have hi0 := zzzh;rw [hi] at hi0;simp only [Option.map_some, Option.some.injEq, Prod.mk.injEq] at hi0;have hsz : (⟨m.toArray⟩ : ByteArray).size = m.length := rfl;obtain ⟨v', w', h1, h2, h3, hnil⟩ := Lib.run_append_own_string (P := Tryz.prog) w base 23 9 ty 5 i Tryz.underlying23 Tryz.underlying9 hi hi0.1 hi0.2.1 hi0.2.2 v l.length (l.map bv) h ⟨m.toArray⟩ (by rw [hsz]; unfold maxLen; omega) (by rw [hsz]; omega) hb;rw [hsz, zi7] at h2;refine ⟨v', w', h1, by unfold Ow; rw [List.length_append, List.map_append]; exact h2, But.of_grown h3, fun k hk => ?_⟩;rcases h.2 with ⟨rfl, e0⟩ | ⟨g, cap, cur, rfl, hbg, hg, hnc, hcm, hcs, htake⟩
 · by_cases hm : m.length = 0
   · have := hnil.2 ⟨rfl, hm⟩;rw [this] at hk; cases hk
   · obtain ⟨v2, w2, k1, k2, _⟩ := Lib.run_append_own_string (P := Tryz.prog) w w.heap.size 23 9 ty 5 i Tryz.underlying23 Tryz.underlying9 hi hi0.1 hi0.2.1 hi0.2.2 (.slice none 0 0) l.length (l.map bv) (by
      refine ⟨h.1, .inl ⟨rfl, e0⟩⟩) ⟨m.toArray⟩ (by rw [hsz]; unfold maxLen; omega) (by rw [hsz]; omega) zl
     rw [h1] at k1;injection k1 with e1 e2
     subst e1 e2;exact .inr (k2.lt k hk).1
 · have hcs' : cur.size = cap := by simpa using hcs
   by_cases hroom : l.length + (⟨m.toArray⟩ : ByteArray).size ≤ cap
   · have hr := Lib.run_append_room_string (P := Tryz.prog) w 23 9 ty 5 i Tryz.underlying23 Tryz.underlying9 hi hi0.2.1 g l.length cap cur hg ⟨m.toArray⟩ hroom (by omega);rw [h1] at hr;injection hr with e1 e2
     subst e1;exact .inl hk
   · have holds : ∀ j u, (l.map bv)[j]? = some u → w.cell? ((⟨g, 0, none⟩ : Addr).add j) = some u := World.ownsRow.cells h (g := g) rfl;have hr := Lib.run_append_grow_string (P := Tryz.prog) w 23 9 ty 5 i (.int .u8 0) Tryz.underlying23 Tryz.underlying9 hi hi0.1 ⟨g, 0, none⟩ l.length cap (l.map bv) (by rw [hi0.2.1]; simp) holds ⟨m.toArray⟩ (by omega) (by rw [hsz]; omega) (by rw [hi0.2.2]; exact growslice_fits (by rw [hsz]; omega) (by rw [hsz] at hroom ⊢; omega));rw [h1] at hr;injection hr with e1 e2
     subst e1;simp [Value.ownBlock] at hk;exact .inr (by omega)
end Go.Proofs.YtgjddkeogboojaaGreatDoor.Dl
namespace Go.Proofs.YtgjddkeogboojaaGreatDoor.Pk
open Go.Proofs.YtgjddkeogboojaaGreatDoor
open Go Go.RowKit
def entC (e : Ent) : List Value := [.int .i64 e.kind, .int .i64 e.back, SV e.base, SV e.data]
theorem zgn (x : Ent) : (entC x).length = 4 := rfl
def entV (e : Ent) : Value := .agg #[.int .i64 e.kind, .int .i64 e.back, .string ⟨e.base.toArray⟩, .string ⟨e.data.toArray⟩]
def EntsR (w : World) (v : Value) (l : List Ent) : Prop := RdK 4 entC w v l
theorem EntsR.cells {w : World} {g o n c : Nat} {l : List Ent} (h : EntsR w (.slice (some ⟨g, o, none⟩) n c) l) (k : Nat) (hk : k < l.length) :
 w.cell? ⟨g, o + k * 4, none⟩ = some (.int .i64 (l.getD k z0p).kind) ∧ w.cell? ⟨g, o + k * 4 + 1, none⟩ = some (.int .i64 (l.getD k z0p).back) ∧ w.cell? ⟨g, o + k * 4 + 2, none⟩ = some (SV (l.getD k z0p).base) ∧ w.cell? ⟨g, o + k * 4 + 3, none⟩ = some (SV (l.getD k z0p).data) := by
 rcases h with ⟨_, rfl⟩ | ⟨g', o', c', e, _, _, hc⟩
 · simp at hk
 · cases e;have hx : l[k]? = some (l.getD k z0p) := by rw [zg, zj hk]; rfl
   exact ⟨hc k hk _ hx 0 (by omega), hc k hk _ hx 1 (by omega), hc k hk _ hx 2 (by omega), hc k hk _ hx 3 (by omega)⟩
theorem nil_dec (s : Bs) : (s == []) = decide (s = []) := by cases s <;> simp
def entO (e : Ent) : Obj := .cells #[.int .i64 e.kind, .int .i64 e.back, .string ⟨e.base.toArray⟩, .string ⟨e.data.toArray⟩] 51
theorem z3x {w w1 : World} {e : Ent} (h : w1 = w.alloc (entO e)) : w1.cell? ⟨w.heap.size, 0, none⟩ = some (.int .i64 e.kind) ∧ w1.cell? ⟨w.heap.size, 1, none⟩ = some (.int .i64 e.back) ∧ w1.cell? ⟨w.heap.size, 2, none⟩ = some (.string ⟨e.base.toArray⟩) ∧ w1.cell? ⟨w.heap.size, 3, none⟩ = some (.string ⟨e.data.toArray⟩) := by
 have hk : w1.heap[w.heap.size]? = some (entO e) := by rw [h]; exact heap_alloc_new w _
 exact ⟨(cell_of_row w1 _ 0 _ _ _ hk).trans rfl, (cell_of_row w1 _ 1 _ _ _ hk).trans rfl, (cell_of_row w1 _ 2 _ _ _ hk).trans rfl, (cell_of_row w1 _ 3 _ _ _ hk).trans rfl⟩
theorem z52 (w : World) (x n : Int) : FaultIn (w.alloc (.cells #[.int .i64 x, .iface 26 (.int .i64 n)] 109)) (.iface 107 (.pointer (some ⟨w.heap.size, 0, none⟩))) n := ⟨_, x, rfl, heap_alloc_new w _⟩
def Smal (l : List Ent) : Prop := l.length ≤ 100000 ∧ ∀ e ∈ l, e.base.length ≤ 1000000 ∧ e.data.length ≤ 1000000
theorem zi8 (j : Nat) (e : Ent) (hb : e.base.length ≤ maxLen) (w : World) : Calls Tryz.prog 58 #[.int .i64 (j : Int), entV e] w (z06 (.bool (z3q j e)) w) := by
 obtain ⟨kd, bk, bs, dt⟩ := e;have HB := zh (below_new w (entO ⟨kd, bk, bs, dt⟩));unfold entO at HB;have HN := zh (fun W => z8v bs W hb);unfold SV at HN;clear hb;unfold entV z3q;simp only;have hnd := nil_dec bs;by_cases hk : kd = 1 ∨ kd = 2 ∨ kd = 3 ∨ kd = 4
 · rw [if_pos hk];by_cases h0 : bk = 0
   · subst h0;have h0 : ((0 : Int) == 0) = true := rfl;obtain ⟨b, hb⟩ := zx (decide (bs = []));rw [← hb] at hnd ⊢;clear hb;rcases hk with rfl | rfl | rfl | rfl
     all_goals
      go_enter Tryz.func58, Tryz.ntmps58
      go_wp2
      go_ret
      exact ⟨by simp, HB.out⟩
   · have e0 : (bk == 0) = false := by simpa using h0
     have e1 : decide (bk = 0) = false := by simpa using h0
     rw [e1];clear h0 e1;rcases hk with rfl | rfl | rfl | rfl
     all_goals
      go_enter Tryz.func58, Tryz.ntmps58
      go_wp2
      go_ret
      exact ⟨rfl, HB.out⟩
 · rw [if_neg hk];have b1 : (kd == 1) = false := by rw [beq_eq_false_iff_ne]; omega
   have b2 : (kd == 2) = false := by rw [beq_eq_false_iff_ne]; omega
   have b3 : (kd == 3) = false := by rw [beq_eq_false_iff_ne]; omega
   have b4 : (kd == 4) = false := by rw [beq_eq_false_iff_ne]; omega
   clear hk;by_cases h6 : kd = 6
   · rw [if_pos h6];subst h6;clear b1 b2 b3 b4;by_cases h1 : 1 ≤ bk
     · by_cases h2 : bk ≤ (j : Int)
       · obtain ⟨b, hb⟩ := zx (decide (bs = []));rw [← hb] at hnd;rw [show (decide (1 ≤ bk) && (decide (bk ≤ (j : Int)) && decide (bs = []))) = b by rw [← hb]; simp [h1, h2]];clear hb
         go_enter Tryz.func58, Tryz.ntmps58
         go_wp2
         go_ret
         exact ⟨rfl, HB.out⟩
       · rw [show (decide (1 ≤ bk) && (decide (bk ≤ (j : Int)) && decide (bs = []))) = false by simp [h2]];clear hnd
         go_enter Tryz.func58, Tryz.ntmps58
         go_wp2
         go_ret
         exact ⟨rfl, HB.out⟩
     · rw [show (decide (1 ≤ bk) && (decide (bk ≤ (j : Int)) && decide (bs = []))) = false by simp [h1]];clear hnd
       go_enter Tryz.func58, Tryz.ntmps58
       go_wp2
       go_ret
       exact ⟨rfl, HB.out⟩
   · have b6 : (kd == 6) = false := by simpa using h6
     rw [if_neg h6];clear hnd h6;by_cases h7 : kd = 7
     · rw [if_pos h7];subst h7;clear b1 b2 b3 b4 b6;by_cases h0 : bk = 0
       · subst h0;have h0 : ((0 : Int) == 0) = true := rfl;rw [show (decide ((0 : Int) = 0) && z0c bs) = z0c bs by simp]
         go_enter Tryz.func58, Tryz.ntmps58
         go_wp2_with fail
         refine (HN.out _).mono ?_;intro e w' hh;rw [hh.1, ← hh.2];clear hh e w' HN
         go_wp2
         go_ret
         exact ⟨rfl, HB.out⟩
       · have e0 : (bk == 0) = false := by simpa using h0
         rw [show (decide (bk = 0) && z0c bs) = false by simp [h0]];clear h0
         go_enter Tryz.func58, Tryz.ntmps58
         go_wp2
         go_ret
         exact ⟨rfl, HB.out⟩
     · have b7 : (kd == 7) = false := by simpa using h7
       rw [if_neg h7];clear h7
       go_enter Tryz.func58, Tryz.ntmps58
       go_wp2
       go_ret
       exact ⟨rfl, HB.out⟩
def CheckP (l : List Ent) (no : Int) (w : World) (e : Ending) (w' : World) : Prop := Below w.heap.size w w' ∧ ((rightL l = true ∧ e = .returned .nilIface) ∨ (rightL l = false ∧ ∃ ev, e = .returned ev ∧ FaultIn w' ev no))
theorem z54 {w : World} {v : Value} {l : List Ent} (h : EntsR w v l) (hs : Smal l) (no : Int) : Calls Tryz.prog 36 #[v, .int .i64 no] w (CheckP l no w) := by
 obtain ⟨A, c, rfl⟩ := h.shape;have hl := hs.1;have Hx := zh h; have HS := zh hs.2;clear h hs;by_cases hm : 512 < l.length
 · have hm2 : (512 : Int) < (l.length : Int) := by omega
   have HF := zh (zeq hm);have HB := zh (below_new w (.cells #[.int .i64 512, .iface 26 (.int .i64 no)] 109));have HK := zh (z52 w 512 no);clear hm
   go_enter Tryz.func36, Tryz.ntmps36
   go_wp2_with fail
   go_ret
   exact ⟨HB.out, .inr ⟨HF.out, _, rfl, HK.out⟩⟩
 · have hm2 : ¬ (512 : Int) < (l.length : Int) := by omega
   have hm3 : l.length ≤ 512 := by omega
   clear hm
   go_enter Tryz.func36, Tryz.ntmps36
   go_wp2_with fail
   go_loopw [17] (fun i wr => Hid (Below w.heap.size w wr) ∧ ∃ k : Nat, k ≤ l.length ∧ i = .int .i64 k ∧ Hid (∀ j, j < k → okE j (l.getD j z0p) = true)) (fun i _ => l.length - (intOf i).toNat)
   case atStart => exact ⟨zh (Below.refl _ _), 0, Nat.zero_le _, rfl, zh (fun j hj => by omega)⟩
   case round =>
    obtain ⟨hB, k, hk, rfl, hG⟩ := hrel;by_cases hlt : k < l.length
    · obtain ⟨g, o, c', e, _, hg⟩ := Hx.out.pos (by omega);cases e;obtain ⟨p0, p1, p2, p3⟩ := EntsR.cells (Hx.out.below hB.out zl) k hlt;have hlen := HS.out _ (z1w l z0p k hlt);obtain ⟨x, hx⟩ := zx (l.getD k z0p);rw [← hx] at p0 p1 p2 p3 hlen;obtain ⟨w1, hw1⟩ := zx (wr.alloc (entO x));have hb1 : Below wr.heap.size wr w1 := by rw [hw1]; exact below_new wr _
      obtain ⟨q0, q1, q2, q3⟩ := z3x hw1;have HSt := zh (fun W => zi8 k x (by have := hlen.1; unfold maxLen; omega) W);obtain ⟨xk, xb, xs, xd⟩ := x;have hok : okE k (l.getD k z0p) = (decide (xd.length ≤ 65536) && z3q k ⟨xk, xb, xs, xd⟩) := by rw [← hx]; rfl
      unfold SV at p2 p3;unfold entV at HSt;unfold entO at hw1;simp only at p0 p1 p2 p3 hlen q0 q1 q2 q3 HSt hw1;have HOk := zh hok; have HW1 := zh hw1; have HB1 := zh (hB.out.trans (hb1.mono hB.out.size));clear hok hw1 hb1 hx
      go_upto_region 6 with fail
      rw [← HW1.out];clear p0 p1 p2 p3;by_cases hd : 65536 < xd.length
      · have hd2 : (65536 : Int) < (xd.length : Int) := by omega
        have HF : Hid (rightL l = false) := zh (zcf hlt (by rw [HOk.out]; simp; omega));have HF2 := zh (below_new w1 (.cells #[.int .i64 (k : Int), .iface 26 (.int .i64 no)] 109));have HF3 := zh (z52 w1 (k : Int) no);clear hd
        go_wp2_with fail
        go_ret
        exact ⟨HB1.out.trans (HF2.out.mono HB1.out.size), .inr ⟨HF.out, _, rfl, HF3.out⟩⟩
      · have hd2 : ¬ (65536 : Int) < (xd.length : Int) := by omega
        have hd3 : decide (xd.length ≤ 65536) = true := by simp; omega
        rw [hd3, Bool.true_and] at HOk;clear hd hd3
        go_wp2_with fail
        refine (HSt.out _).mono ?_;rintro e w2 ⟨rfl, hb2⟩;have HB2 := zh (HB1.out.trans (hb2.mono HB1.out.size));obtain ⟨b, hb⟩ := zx (z3q k ⟨xk, xb, xs, xd⟩);rw [← hb] at HOk ⊢;clear hb hb2 q0 q1 q2 q3 HSt;cases b with
        | true =>
          go_wp2_with fail
          go_roundw
          case rel => exact ⟨HB2, k + 1, hlt, by go_num, zh (fun j hj => by
           by_cases e : j = k
           · rw [e]; exact HOk.out
           · exact hG.out j (by omega))⟩
          case measure => simp [intOf]; omega
        | false =>
          have HF : Hid (rightL l = false) := zh (zcf hlt HOk.out);have HF2 := zh (below_new w2 (.cells #[.int .i64 (k : Int), .iface 26 (.int .i64 no)] 109));have HF3 := zh (z52 w2 (k : Int) no)
          go_wp2_with fail
          go_ret
          exact ⟨HB2.out.trans (HF2.out.mono HB2.out.size), .inr ⟨HF.out, _, rfl, HF3.out⟩⟩
    · obtain rfl : k = l.length := by omega
      have HR : Hid (rightL l = true) := zh (z0h.2 ⟨hm3, hG.out⟩)
      go_wp2_with fail
      go_ret
      exact ⟨hB.out, .inl ⟨HR.out, rfl⟩⟩
theorem z4d {ops : Array Oper} {rest : List Oper} {o : Oper} {a : Act} {w : World} {Q : Exit → Act → World → Prop} (hgd : o.guard = none) (s x : Operand)
 (ho : o.op = .call { callee := .builtin .append, args := #[s, x], argTypes := #[23, 9] }) (base : Nat) (v : Value) (l m : zB) (hs : a.eval s = v) (hx : a.eval x = .string ⟨m.toArray⟩)
 (h : Dl.Ow w base v l) (hl : l.length + m.length ≤ 140737488355328) (hb : base ≤ w.heap.size) {r : Bs} (hr9 : r = l ++ m)
 (k : ∀ v' w', Dl.Ow w' base v' r → Dl.AppF w v w' v' → wpList Tryz.prog ops Q rest (a.put o.dst v') w') : wpList Tryz.prog ops Q (o :: rest) a w := by
 subst hr9;refine wpList_plain hgd fun K hK => ?_;obtain ⟨v', w', h1, h2, h3⟩ := Dl.run_apps' h m hl hb o.type;unfold Oper.wp;simp [execOp, ho, resolve, invoke, builtin, hs, hx, h1, Result.andThen];exact hK _ _ (k v' w' h2 h3)
theorem z4e {ops : Array Oper} {rest : List Oper} {o : Oper} {a : Act} {w : World} {Q : Exit → Act → World → Prop} (hgd : o.guard = none) (s x : Operand)
 (ho : o.op = .call { callee := .builtin .append, args := #[s, x], argTypes := #[23, 23] }) (base : Nat) (v sv : Value) (l m : zB) (hs : a.eval s = v) (hx : a.eval x = sv)
 (h : Dl.Ow w base v l) (hr : Dl.Rb w sv m) (hl : l.length + m.length ≤ 140737488355328) (hb : base ≤ w.heap.size) {r : Bs} (hr9 : r = l ++ m)
 (k : ∀ v' w', Dl.Ow w' base v' r → Dl.AppF w v w' v' → wpList Tryz.prog ops Q rest (a.put o.dst v') w') : wpList Tryz.prog ops Q (o :: rest) a w := by
 subst hr9;refine wpList_plain hgd fun K hK => ?_;obtain ⟨v', w', h1, h2, h3⟩ := Dl.run_app' h hr hl hb o.type;unfold Oper.wp;simp [execOp, ho, resolve, invoke, builtin, hs, hx, h1, Result.andThen];exact hK _ _ (k v' w' h2 h3)
theorem entB_c (c : UInt8) (bk : Int) (bs dt : Bs) : entB ⟨(c.toNat : Int), bk, bs, dt⟩ = ((([c] ++ Dl.putL dt.length) ++ (if c = 6 then Dl.putL bk.toNat else [])) ++ bs) ++ dt := by
 have e1 : UInt8.ofNat c.toNat = c := by simp
 unfold entB;simp only [Int.toNat_natCast, six];rw [e1];simp only [List.append_assoc, List.cons_append, List.nil_append]
theorem Fits.kind {e : Ent} (h : Fits e) : ∃ c : UInt8, e.kind = (c.toNat : Int) := by
 have hk : 0 ≤ e.kind ∧ e.kind < 256 := by cases h <;> omega
 refine ⟨UInt8.ofNat e.kind.toNat, ?_⟩;rw [UInt8.toNat_ofNat'];omega
theorem Fits.back0 {e : Ent} (h : Fits e) : 0 ≤ e.back := by cases h <;> omega
def OwnP (B : Nat) (v : Value) (l : Bs) (w : World) (e : Ending) (w' : World) : Prop := ∃ A N c, e = .returned (.slice A N c) ∧ N = l.length ∧ Dl.Ow w' B (.slice A N c) l ∧ Dl.AppF w v w' (.slice A N c)
theorem z1m {w : World} {B : Nat} {v : Value} {l : Bs} (h : Dl.Ow w B v l) : ∃ A N c, v = .slice A N c ∧ N = l.length := by
 obtain ⟨A, c, e, _⟩ := h.rb.shape;exact ⟨A, _, c, e, rfl⟩
theorem ent_app {w w1 W : World} {e : Ent} {v V : Value} (h : w1 = w.alloc (entO e)) (hv : ∀ k, v.ownBlock = some k → k < w.heap.size) (F : Dl.AppF w1 v W V) :
 W.cell? ⟨w.heap.size, 0, none⟩ = some (.int .i64 e.kind) ∧ W.cell? ⟨w.heap.size, 1, none⟩ = some (.int .i64 e.back) ∧ W.cell? ⟨w.heap.size, 2, none⟩ = some (.string ⟨e.base.toArray⟩) ∧ W.cell? ⟨w.heap.size, 3, none⟩ = some (.string ⟨e.data.toArray⟩) := by
 obtain ⟨q0, q1, q2, q3⟩ := z3x h;have h1 : w.heap.size < w1.heap.size := by rw [h]; simp
 have hc : ∀ i, W.cell? ⟨w.heap.size, i, none⟩ = w1.cell? ⟨w.heap.size, i, none⟩ := fun i => F.1.cell (p := ⟨w.heap.size, i, none⟩) h1 (fun e => by have := hv _ e; simp at this);rw [hc, hc, hc, hc];exact ⟨q0, q1, q2, q3⟩
theorem zl3 {w W : World} {v V : Value} {B : Nat} (F : Dl.AppF w v W V) (hv : ∀ k, v.ownBlock = some k → B ≤ k) (hB : B ≤ w.heap.size) : Below B w W := F.1.below (fun k _ h => hv k h) hB
theorem zcu {w : World} {B : Nat} {v : Value} {pre : Bs} (ho : Dl.Ow w B v pre) (hB : B ≤ w.heap.size) {e : Ent} (hf : Fits e) (hp : pre.length ≤ 10000000) (hs : e.base.length ≤ 1000000 ∧ e.data.length ≤ 1000000) (hbk : e.back ≤ 1000000) :
 Calls Tryz.prog 53 #[v, entV e] w (OwnP B v (pre ++ entB e) w) := by
 obtain ⟨ch, hch⟩ := hf.kind;have hb0 := hf.back0;obtain ⟨kd, bk, bs, dt⟩ := e;simp only at hch hb0 hs hbk;subst hch;obtain ⟨bn, rfl⟩ := Int.eq_ofNat_of_zero_le hb0;obtain ⟨R, hR⟩ := zx (pre ++ entB ⟨(ch.toNat : Int), (bn : Int), bs, dt⟩);rw [← hR];rw [entB_c, Int.toNat_natCast] at hR;obtain ⟨p3, hp3⟩ := zx (pre ++ [ch]);obtain ⟨p5, hp5⟩ := zx (p3 ++ Dl.putL dt.length);obtain ⟨p7, hp7⟩ := zx (p5 ++ (if ch = 6 then Dl.putL bn else []));obtain ⟨p8, hp8⟩ := zx (p7 ++ bs);have hR9 : R = p8 ++ dt := by rw [hR, hp8, hp7, hp5, hp3]; simp only [List.append_assoc]
 have l5 := Dl.putL_len6 (n := dt.length) (by omega);have l6 := Dl.putL_len6 (n := bn) (by omega)
 have hpl : p3.length ≤ 10000001 ∧ p5.length ≤ 10000007 ∧ p7.length ≤ 10000013 ∧ p8.length ≤ 11000013 := by
  refine ⟨?_, ?_, ?_, ?_⟩
  · rw [hp3]; simp; omega
  · rw [hp5, hp3]; simp; omega
  · rw [hp7, hp5, hp3]; split <;> simp <;> omega
  · rw [hp8, hp7, hp5, hp3]; split <;> simp <;> omega
 have HPl := zh hpl; have HP3 := zh hp3; have HP5 := zh hp5; have HP7 := zh hp7; have HP8 := zh hp8; have HR9 := zh hR9;clear hR hp3 hp5 hp7 hp8 hR9 hpl l5 l6;obtain ⟨w1, hw1⟩ := zx (w.alloc (entO ⟨(ch.toNat : Int), (bn : Int), bs, dt⟩));have hb1 : Below w.heap.size w w1 := by rw [hw1]; exact below_new w _
 have hvl : ∀ k, v.ownBlock = some k → k < w.heap.size := fun k hk => (ho.lt k hk).2;have HQ : Hid (∀ {W : World} {V : Value}, Dl.AppF w1 v W V → W.cell? ⟨w.heap.size, 0, none⟩ = some (.int .i64 (ch.toNat : Int)) ∧ W.cell? ⟨w.heap.size, 1, none⟩ = some (.int .i64 (bn : Int)) ∧ W.cell? ⟨w.heap.size, 2, none⟩ = some (.string ⟨bs.toArray⟩) ∧ W.cell? ⟨w.heap.size, 3, none⟩ = some (.string ⟨dt.toArray⟩)) := zh fun F => ent_app hw1 hvl F;have HBw : Hid (B ≤ w1.heap.size) := zh (Nat.le_trans hB hb1.size);have HFin : Hid (∀ {W : World} {V : Value}, Dl.AppF w1 v W V → Dl.AppF w v W V) := zh fun F => (Dl.AppF.new v hb1).trans F;obtain ⟨w2, hw2⟩ := zx (w1.alloc (.cells #[.int .u8 (ch.toNat : Int)] 5));have hb2 : Below w1.heap.size w1 w2 := by rw [hw2]; exact below_new w1 _
 have O1 : Hid (Dl.Ow w2 B v pre) := zh ((ho.below hb1 zl).below hb2 zl);have R1 : Hid (Dl.Rb w2 (.slice (some ⟨w1.heap.size, 0, none⟩) 1 1) [ch]) := zh (by rw [hw2]; exact Dl.rb_one w1 ch);have Q1 : Hid (pre.length + ([ch] : Bs).length ≤ 140737488355328) := zh (by simp; omega);have S1 : Hid (B ≤ w2.heap.size) := zh (Nat.le_trans hB (Nat.le_trans hb1.size hb2.size));have F2 : Hid (Dl.AppF w1 v w2 v) := zh (Dl.AppF.new v hb2);have HP := zh (fun W => Dl.Put_any (dt.length : Int) W);rw [Dl.putI_nat (by omega)] at HP;have HPb := zh (fun W => Dl.Put_any (bn : Int) W);rw [Dl.putI_nat (by omega)] at HPb;have H6 : Hid ((Dl.putL dt.length).length ≤ 6 ∧ (Dl.putL bn).length ≤ 6 ∧ pre.length ≤ 10000000 ∧ bs.length ≤ 1000000 ∧ dt.length ≤ 1000000) := zh ⟨Dl.putL_len6 (by omega), Dl.putL_len6 (by omega), hp, hs.1, hs.2⟩;obtain ⟨q0, q1, q2, q3⟩ := z3x hw1;simp only at q0 q1 q2 q3;have hw1' : w1 = w.alloc (.cells #[.int .i64 (ch.toNat : Int), .int .i64 (bn : Int), .string ⟨bs.toArray⟩, .string ⟨dt.toArray⟩] 51) := hw1;have HW1 := zh hw1'; have HW2 := zh hw2;have hcl : (ch.toNat : Int) < 256 := by have := ch.toNat_lt; omega
 obtain ⟨d6, hd6⟩ := zx (Dl.putL bn);obtain ⟨dl, hdl⟩ := zx (Dl.putL dt.length);rw [← hd6] at HPb H6 HP7;rw [← hdl] at HP H6 HP5;obtain ⟨A, N, c, rfl, -⟩ := z1m ho;unfold entV;clear ho hw1 hw1' hw2 hb1 hb2 hp hs hbk hb0 hf hd6 hdl hvl
 go_enter Tryz.func53, Tryz.ntmps53
 go_upto_region 1 with fail
 rw [← HW1.out]
 go_wp2_with (rw [← HW2.out]; refine z4e (o := ⟨some 10, _, _, _, _, _⟩) rfl _ _ rfl B _ _ pre [ch] rfl rfl O1.out R1.out Q1.out S1.out HP3.out ?_)
 intro v3 w3 o3 l3;have F3 := zh (F2.out.trans l3);obtain ⟨A3, N3, c3, rfl, -⟩ := z1m o3;have O3 := zh o3;obtain ⟨q0, q1, q2, q3⟩ := HQ.out F3.out;clear o3 l3 O1 R1 Q1 S1 F2
 go_wp2_with fail
 refine (HP.out _).mono ?_;rintro e w4 ⟨A4, c4, rfl, r4, l4⟩;have F4 := zh (F3.out.trans (Dl.AppF.new _ l4));have O4 := zh (O3.out.below l4 zl);have R4 := zh r4;have Q4 : Hid (p3.length + dl.length ≤ 140737488355328) := zh (by have := H6.out; have := HPl.out; omega);have S4 : Hid (B ≤ w4.heap.size) := zh (Nat.le_trans HBw.out F4.out.size);obtain ⟨q0, q1, q2, q3⟩ := HQ.out F4.out;clear r4 l4 O3 F3 HP
 go_wp2_with (refine z4e (o := ⟨some 16, _, _, _, _, _⟩) rfl _ _ rfl B _ _ p3 dl rfl rfl O4.out R4.out Q4.out S4.out HP5.out ?_)
 intro v5 w5 o5 l5;have F5 := zh (F4.out.trans l5);obtain ⟨A5, N5, c5, rfl, -⟩ := z1m o5;have O5 := zh o5;obtain ⟨q0, q1, q2, q3⟩ := HQ.out F5.out;clear o5 l5 O4 R4 Q4 S4 F4;have HL : Hid (∀ {W : World} {v : Value}, Dl.AppF w1 (.slice A N c) W v → B ≤ W.heap.size) := zh fun F => Nat.le_trans HBw.out F.size;by_cases h6 : ch = 6
 · have b6 : ((ch.toNat : Int) == 6) = true := by rw [h6]; rfl
   rw [if_pos h6] at HP7;clear h6
   go_wp2_with fail
   refine (HPb.out _).mono ?_;rintro e w6 ⟨A6, c6, rfl, r6, l6⟩;have F6 := zh (F5.out.trans (Dl.AppF.new _ l6));have O6 := zh (O5.out.below l6 zl);have R6 := zh r6;have Q6 : Hid (p5.length + d6.length ≤ 140737488355328) := zh (by have := H6.out; have := HPl.out; omega);have S6 : Hid (B ≤ w6.heap.size) := zh (HL.out F6.out);clear r6 l6 O5 F5 HPb q0 q1 q2 q3 b6;obtain ⟨q0, q1, q2, q3⟩ := HQ.out F6.out
   go_wp2_with (refine z4e (o := ⟨some 24, _, _, _, _, _⟩) rfl _ _ rfl B _ _ p5 d6 rfl rfl O6.out R6.out Q6.out S6.out HP7.out ?_)
   intro v7 w7 o7 l7;have F7 := zh (F6.out.trans l7);obtain ⟨A7, N7, c7, rfl, -⟩ := z1m o7;have O7 := zh o7;have Q7 : Hid (p7.length + bs.length ≤ 140737488355328) := zh (by have := H6.out; have := HPl.out; omega);have S7 : Hid (B ≤ w7.heap.size) := zh (HL.out F7.out);clear o7 l7 O6 R6 Q6 S6 F6 q0 q1 q2 q3;obtain ⟨q0, q1, q2, q3⟩ := HQ.out F7.out
   go_wp2_with (refine z4d (o := ⟨some 28, _, _, _, _, _⟩) rfl _ _ rfl B _ p7 bs rfl rfl O7.out Q7.out S7.out HP8.out ?_)
   intro v8 w8 o8 l8;have F8 := zh (F7.out.trans l8);obtain ⟨A8, N8, c8, rfl, -⟩ := z1m o8;have O8 := zh o8;have Q8 : Hid (p8.length + dt.length ≤ 140737488355328) := zh (by have := H6.out; have := HPl.out; omega);have S8 : Hid (B ≤ w8.heap.size) := zh (HL.out F8.out);clear o8 l8 O7 Q7 S7 F7 q0 q1 q2 q3;obtain ⟨q0, q1, q2, q3⟩ := HQ.out F8.out
   go_wp2_with (refine z4d (o := ⟨some 32, _, _, _, _, _⟩) rfl _ _ rfl B _ p8 dt rfl rfl O8.out Q8.out S8.out HR9.out ?_)
   intro v9 w9 o9 l9;have F9 := zh (F8.out.trans l9);obtain ⟨A9, N9, c9, rfl, hN9⟩ := z1m o9;have HO9 : Hid (OwnP B (.slice A N c) R w (.returned (.slice A9 N9 c9)) w9) := zh ⟨A9, N9, c9, rfl, hN9, o9, HFin.out F9.out⟩;clear o9 l9 O8 Q8 S8 F8 q0 q1 q2 q3 hN9
   go_wp2_with fail
   go_ret
   exact HO9.out
 · have b6 : ((ch.toNat : Int) == 6) = false := by
    rw [beq_eq_false_iff_ne];exact fun h => h6 ((six ch).1 h)
   rw [if_neg h6, List.append_nil] at HP7;have Q7 : Hid (p7.length + bs.length ≤ 140737488355328) := zh (by have := H6.out; have := HPl.out; omega);have S7 : Hid (B ≤ w5.heap.size) := zh (HL.out F5.out);rw [← HP7.out] at O5;clear h6 HPb HP7
   go_wp2_with (refine z4d (o := ⟨some 28, _, _, _, _, _⟩) rfl _ _ rfl B _ p7 bs rfl rfl O5.out Q7.out S7.out HP8.out ?_)
   intro v8 w8 o8 l8;have F8 := zh (F5.out.trans l8);obtain ⟨A8, N8, c8, rfl, -⟩ := z1m o8;have O8 := zh o8;have Q8 : Hid (p8.length + dt.length ≤ 140737488355328) := zh (by have := H6.out; have := HPl.out; omega);have S8 : Hid (B ≤ w8.heap.size) := zh (HL.out F8.out);clear o8 l8 O5 Q7 S7 F5 q0 q1 q2 q3;obtain ⟨q0, q1, q2, q3⟩ := HQ.out F8.out
   go_wp2_with (refine z4d (o := ⟨some 32, _, _, _, _, _⟩) rfl _ _ rfl B _ p8 dt rfl rfl O8.out Q8.out S8.out HR9.out ?_)
   intro v9 w9 o9 l9;have F9 := zh (F8.out.trans l9);obtain ⟨A9, N9, c9, rfl, hN9⟩ := z1m o9;have HO9 : Hid (OwnP B (.slice A N c) R w (.returned (.slice A9 N9 c9)) w9) := zh ⟨A9, N9, c9, rfl, hN9, o9, HFin.out F9.out⟩;clear o9 l9 O8 Q8 S8 F8 q0 q1 q2 q3 hN9
   go_wp2_with fail
   go_ret
   exact HO9.out
theorem zf5 {w : World} {B g : Nat} {sv : Value} {l m : Bs} (hc : ∀ j u, (l.map Dl.bv)[j]? = some u → w.cell? ((⟨g, 0, none⟩ : Addr).add j) = some u) (hr : Dl.Rb w sv m) (hm : 0 < m.length) (hl : l.length + m.length ≤ 100000000) (hB : B ≤ w.heap.size) (ty : TypeId) :
 ∃ v' w', (Builtin.append_ #[23, 23] ty #[.slice (some ⟨g, 0, none⟩) l.length l.length, sv]).run Tryz.prog w = .ok v' w' ∧ Dl.Ow w' B v' (l ++ m) ∧ Below w.heap.size w w' := by
 obtain ⟨i, hi⟩ : ∃ i, Tryz.prog.info? 5 = some i := Option.isSome_iff_exists.1 (by kernel_rfl);have hi0 : (Tryz.prog.info? 5).map (fun i => (i.zero, i.size, i.bytes)) = some (some (.int .u8 0), 1, 1) := by kernel_rfl
 rw [hi] at hi0;simp only [Option.map_some, Option.some.injEq, Prod.mk.injEq] at hi0;obtain ⟨hz, hs, hb⟩ := hi0;rcases hr with ⟨_, rfl⟩ | ⟨gs, o, c, rfl, _, _, hcell⟩
 · simp at hm
 · have hnews : ∀ j u, (m.map Dl.bv)[j]? = some u → w.cell? ((⟨gs, o, none⟩ : Addr).add j) = some u := fun j u hj => by
    rw [List.getElem?_map] at hj;by_cases hjm : j < m.length
    · rw [zj hjm] at hj;rw [Dl.add_none, hcell j hjm, zg, zj hjm];exact hj
    · rw [List.getElem?_eq_none (by omega)] at hj; cases hj
   have h := run_append_grow (P := Tryz.prog) w 23 ty 5 i (.int .u8 0) Tryz.underlying23 hi hz ⟨g, 0, none⟩ l.length l.length (l.map Dl.bv) (by rw [hs]; simp) hc ⟨gs, o, none⟩ m.length c (m.map Dl.bv) (by rw [hs]; simp) hnews (by omega) (by omega)
    (by rw [hb]; exact growslice_fits (by omega) (by omega))
   refine ⟨_, _, h, ?_, (Below.refl _ _).drew.alloc zl _⟩;have hge := grownCap_ge w (l.length + m.length) l.length 5;refine ⟨by simp, .inr ⟨w.heap.size, grownCap w (l.length + m.length) l.length 5, _, by rw [List.length_append], hB, heap_alloc_new w.drew _, by rw [List.length_append]; exact hge, grownCap_le_maxLen w _ _ _ (by unfold maxLen; omega), ?_, ?_⟩⟩
   · simp only [Array.size_append, List.size_toArray, size_zeroCells, List.length_map];rw [show (Value.int IntKind.u8 0).cells.size = 1 from rfl];omega
   · simp only [Array.toList_append];rw [List.append_assoc, List.map_append, ← List.append_assoc];rw [show (l ++ m).length * 1 = (l.map Dl.bv ++ m.map Dl.bv).length by simp];exact List.take_left
theorem za5 {ops : Array Oper} {rest : List Oper} {o : Oper} {a : Act} {w : World} {Q : Exit → Act → World → Prop} (hgd : o.guard = none) (s x : Operand)
 (ho : o.op = .call { callee := .builtin .append, args := #[s, x], argTypes := #[23, 23] }) (base g n : Nat) (sv : Value) (l m : Bs) (hn : n = l.length) (hs : a.eval s = .slice (some ⟨g, 0, none⟩) n n) (hx : a.eval x = sv)
 (hc : ∀ j u, (l.map Dl.bv)[j]? = some u → w.cell? ((⟨g, 0, none⟩ : Addr).add j) = some u) (hr : Dl.Rb w sv m) (hm : 0 < m.length) (hl : l.length + m.length ≤ 100000000) (hb : base ≤ w.heap.size) {r : Bs} (hr9 : r = l ++ m)
 (k : ∀ v' w', Dl.Ow w' base v' r → Below w.heap.size w w' → wpList Tryz.prog ops Q rest (a.put o.dst v') w') : wpList Tryz.prog ops Q (o :: rest) a w := by
 subst hr9 hn;refine wpList_plain hgd fun K hK => ?_;obtain ⟨v', w', h1, h2, h3⟩ := zf5 hc hr hm hl hb o.type;unfold Oper.wp;simp [execOp, ho, resolve, invoke, builtin, hs, hx, h1, Result.andThen];exact hK _ _ (k v' w' h2 h3)
def paksO : Obj := .cells #[.int .u8 80, .int .u8 65, .int .u8 75, .int .u8 83] 5 (4, 5)
theorem zi9 {w w1 W : World} (h : w1 = w.alloc paksO) (hb : Below w1.heap.size w1 W) : ∀ j u, (magicL.map Dl.bv)[j]? = some u → W.cell? ((⟨w.heap.size, 0, none⟩ : Addr).add j) = some u := fun j u hj => by
 have hk : w1.heap[w.heap.size]? = some paksO := by rw [h]; exact heap_alloc_new w _
 rw [Dl.add_none, Nat.zero_add, cell_of_row W _ j _ _ _ ((hb.block _ (lt_heap hk)).trans hk)];exact (List.getElem?_toArray (xs := magicL.map Dl.bv)).trans hj
end Go.Proofs.YtgjddkeogboojaaGreatDoor.Pk
