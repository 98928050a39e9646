/-
  write: the lines of a root that is right.
-/
import Derived.Test.YtnboagmibhllpaaGreatDoorC11
import Derived.Test.YtnboagmibhllpaaGreatDoorC18
import Derived.Test.YtnboagmibhllpaaGreatDoorC02
import Derived.Test.YtnboagmibhllpaaGreatDoorC09

namespace Go.Proofs.YtnboagmibhllpaaGreatDoor.Ro
open Go.Proofs.YtnboagmibhllpaaGreatDoor
open Go.Proofs.YtnboagmibhllpaaGreatDoor.Rf (BoolB Ref nameB linesL lineL RefsR)
open Go Go.RowKit

theorem joinL_two (a b : Bs) : joinL [a, b] = a ++ 32 :: b := by
  unfold joinL
  rw [Lib.join_cons]
  simp [Lib.joinTail]
theorem joinL_six (a b c d e f : Bs) : joinL [a, b, c, d, e, f] = a ++ 32 :: (b ++ 32 :: (c ++ 32 :: (d ++ 32 :: (e ++ 32 :: f)))) := by
  unfold joinL
  rw [Lib.join_cons]
  simp [Lib.joinTail]
theorem l_Fn (W : World) (b : Nat) (f : Go.Fn) (x y : Array Value) (h : W.cell? ⟨b, 0, none⟩ = some (.func f x y)) : (Instr.loadAt 77 (.pointer (some ⟨b, 0, none⟩))).run Tryz.prog W = .ok (.func f x y) W := by simp [go_sem, h]
theorem l_I (W : World) (b o : Nat) (n : Int) (h : W.cell? ⟨b, o, none⟩ = some (.int .i64 n)) : (Instr.loadAt 3 (.pointer (some ⟨b, o, none⟩))).run Tryz.prog W = .ok (.int .i64 n) W := by simp [go_sem, h]
theorem l_Bo (W : World) (b o : Nat) (n : Bool) (h : W.cell? ⟨b, o, none⟩ = some (.bool n)) : (Instr.loadAt 4 (.pointer (some ⟨b, o, none⟩))).run Tryz.prog W = .ok (.bool n) W := by simp [go_sem, h]
theorem bs_two (W : World) (a b : ByteArray) : (Instr.buildSlice 22 2 #[(0, .string a), (1, .string b)]).run Tryz.prog W = .ok (.slice (some ⟨W.heap.size, 0, none⟩) 2 2) (W.alloc (.cells #[.string a, .string b] 9)) := by simp [go_sem]
theorem bs_six (W : World) (a b c d e f : ByteArray) : (Instr.buildSlice 22 6 #[(0, .string a), (1, .string b), (2, .string c), (3, .string d), (4, .string e), (5, .string f)]).run Tryz.prog W = .ok (.slice (some ⟨W.heap.size, 0, none⟩) 6 6) (W.alloc (.cells #[.string a, .string b, .string c, .string d, .string e, .string f] 9)) := by simp [go_sem]
theorem strs_new (w : World) (l : List Bs) (cs : Array Value) (hcs : cs = (l.flatMap strC).toArray) (n : Nat) (hn : n = l.length) : StrsR (w.alloc (.cells cs 9)) (.slice (some ⟨w.heap.size, 0, none⟩) n n) l := Rf.row_new strC_len w _ _ _ hcs _ hn
theorem Tb.wt {b base : Nat} {w w' : World} (h : Tb w) (hb : Wt b base w w') (h1 : 5 ≠ b) (h2 : 5 < base) : Tb w' := by
  have hg : Tryz.prog.globalNamed "internal/strconv.uint64pow10" = some 5 := by kernel_rfl
  have hlt : 5 < w.heap.size := World.block_lt_of_cell? w _ (Lib.TabIs.cell h hg 0 (by rw [Lib.pow10Tab_length]; decide))
  unfold Tb Lib.TabIs World.var? at h ⊢
  rw [hg] at h ⊢
  simp only [Option.bind_some] at h ⊢
  rw [hb.block _ hlt (fun h => by rcases h with h | h; exact h1 h; omega)]
  exact h
theorem Tb.lt {w : World} (h : Tb w) : 5 < w.heap.size := by
  have hg : Tryz.prog.globalNamed "internal/strconv.uint64pow10" = some 5 := by kernel_rfl
  exact World.block_lt_of_cell? w _ (Lib.TabIs.cell h hg 0 (by rw [Lib.pow10Tab_length]; decide))
theorem dd_len {n : Nat} (h : n ≤ 1099511627776) : (dd n).length ≤ 13 := Nu.dd_13 h
theorem textL_dd (n : Nat) : textL (n : Int) = dd n := by unfold textL dd; rw [if_neg (by omega), Int.toNat_natCast]
theorem fork_len {s : Bs} (h : forkB s = true) : s.length ≤ 20 := by
  unfold forkB at h
  simp only [Bool.and_eq_true, decide_eq_true_eq] at h
  exact h.1.2
theorem head_len {s : Bs} (h : headB s = true) : s.length ≤ 80 := by
  unfold headB at h
  simp only [Bool.and_eq_true] at h
  exact Rf.nameB_len h.1
theorem named_1000 {l : List Bs} (h : ∀ x ∈ l, namedB x = true) : ∀ x ∈ l, x.length ≤ 1000 := fun x hx => by rw [Rf.named_len64 (h x hx)]; decide
theorem packsL_le {l : List Bs} (h : PacksOk l) : (packsL l).length ≤ 24024 := by
  have h1 := packsL_len (named_1000 h.id)
  have := h.len
  exact Nat.le_trans h1 (by omega)
theorem numL_len {word : Bs} (hw : word.length ≤ 100) {n : Nat} (h : n ≤ 1099511627776) : (numL word n).length ≤ 200 := by
  have := dd_len h
  unfold numL; simp; omega
theorem bond_len (b : Bool) : (bond b).length ≤ 6 := by cases b <;> decide
theorem openB_len {f : Fk} (h : FkOk f) : (openB f.op).length ≤ 200 := by
  have h1 := fork_len h.name; have h2 := head_len h.head; have h3 := bond_len f.linked
  have h4 := dd_len (n := f.refs.length) (by have := h.refs.len; omega)
  have h5 := dd_len (n := f.packs.length) (by have := h.packs.len; omega)
  unfold openB Fk.op
  simp [bFork]; omega
theorem forkL_len {f : Fk} (h : FkOk f) : (forkL f).length ≤ 40000 := by
  have h1 := openB_len h
  have h2 := Rf.linesL_len (l := f.refs) h.refs.each
  have h3 := packsL_le h.packs
  have := h.refs.len
  unfold forkL
  simp; omega
theorem forksL_len {l : List Fk} (h : ∀ f ∈ l, FkOk f) : (forksL l).length ≤ 40000 * l.length := by
  induction l with
  | nil => simp [forksL]
  | cons x l ih =>
    have h1 := forkL_len (h x List.mem_cons_self)
    have h2 := ih fun y hy => h y (List.mem_cons_of_mem _ hy)
    rw [forksL_cons, List.length_append, List.length_cons]; omega
theorem forksL_snoc {l : List Fk} {k : Nat} {x : Fk} (hx : l[k]? = some x) : forksL (l.take (k + 1)) = forksL (l.take k) ++ forkL x := by
  unfold forksL
  rw [List.take_add_one, hx, Option.toList_some, List.flatMap_append]; simp

theorem store_fn (W : World) (b : Nat) (f : Go.Fn) (x y : Array Value) (u : Value) (h : W.cell? ⟨b, 0, none⟩ = some u) (hf : W.frozen? ⟨b, 0, none⟩ = false) : (store ⟨b, 0, none⟩ (.func f x y)).run Tryz.prog W = .ok () (W.setCell ⟨b, 0, none⟩ (.func f x y)) := by
  rw [run_store Tryz.prog W ⟨b, 0, none⟩ _ _ (by rfl)]
  simp [h, hf]
/-- What write begins with. -/
structure Boxes (w w1 : World) (R bb sb : Nat) (z : Int) (pv fv : Value) : Prop where
  eR : R = w.heap.size
  eb : bb = w.heap.size + 1
  es : sb = w.heap.size + 1 + 1
  root : w1.heap[R]? = some (.cells #[.int .i64 z, pv, fv] 25 (0, 0))
  buf : w1.heap[bb]? = some (.cells #[.slice none 0 0] 26 (0, 0))
  fn : w1.heap[sb]? = some (.cells #[.func (.func 46) #[] #[.pointer (some ⟨bb, 0, none⟩)]] 77 (0, 0))
  below : Below w.heap.size w w1
  size : w1.heap.size = w.heap.size + 3
theorem boxes_mk (w : World) (z : Int) (pv fv : Value) : Boxes w (((w.alloc (.cells #[.int .i64 z, pv, fv] 25)).alloc (.cells #[.slice none 0 0] 26)).alloc (.cells #[.func (.func 46) #[] #[.pointer (some ⟨w.heap.size + 1, 0, none⟩)]] 77)) w.heap.size (w.heap.size + 1) (w.heap.size + 1 + 1) z pv fv := by
  obtain ⟨o3, ho3⟩ : ∃ o3, o3 = Obj.cells #[.func (.func 46) #[] #[.pointer (some ⟨w.heap.size + 1, 0, none⟩)]] 77 (0, 0) := ⟨_, rfl⟩
  have h1 := heap_alloc_new w (.cells #[.int .i64 z, pv, fv] 25)
  have s1 : (w.alloc (.cells #[.int .i64 z, pv, fv] 25)).heap.size = w.heap.size + 1 := by simp
  have h2 := heap_alloc_new (w.alloc (.cells #[.int .i64 z, pv, fv] 25)) (.cells #[.slice none 0 0] 26)
  have s2 : ((w.alloc (.cells #[.int .i64 z, pv, fv] 25)).alloc (.cells #[.slice none 0 0] 26)).heap.size = w.heap.size + 1 + 1 := by simp
  have h3 := heap_alloc_new ((w.alloc (.cells #[.int .i64 z, pv, fv] 25)).alloc (.cells #[.slice none 0 0] 26)) o3
  rw [s1] at h2
  rw [s2] at h3
  have k1 := (Below.heap_alloc _ o3 w.heap.size (by rw [s2]; omega)).trans ((Below.heap_alloc _ (.cells #[.slice none 0 0] 26) w.heap.size (by rw [s1]; omega)).trans h1)
  have k2 := (Below.heap_alloc _ o3 (w.heap.size + 1) (by rw [s2]; omega)).trans h2
  have b3 := (below_new w (.cells #[.int .i64 z, pv, fv] 25)).trans (((below_new _ (.cells #[.slice none 0 0] 26)).mono (by rw [s1]; omega)).trans ((below_new _ o3).mono (by rw [s2]; omega)))
  rw [← ho3]
  exact ⟨rfl, rfl, rfl, k1, k2, by rw [h3, ho3], b3, by simp⟩
theorem cell_third (w : World) (a b : Obj) (u : Value) (t : TypeId) : ((w.alloc a).alloc b |>.alloc (.cells #[u] t)).cell? ⟨w.heap.size + 1 + 1, 0, none⟩ = some u ∧ ((w.alloc a).alloc b |>.alloc (.cells #[u] t)).frozen? ⟨w.heap.size + 1 + 1, 0, none⟩ = false := by
  have h3 := heap_alloc_new ((w.alloc a).alloc b) (.cells #[u] t)
  have s2 : ((w.alloc a).alloc b).heap.size = w.heap.size + 1 + 1 := by simp
  rw [s2] at h3
  exact ⟨(cell_of_row _ _ 0 _ _ _ h3).trans rfl, by unfold World.frozen?; simp only [h3]; rfl⟩

/-- What write answers. -/
def WriteP (r : Rt) (w : World) (e : Ending) (w' : World) : Prop := ∃ A n c, e = .returned (.slice A n c) ∧ n = (rootL r).length ∧ Rb w' (.slice A n c) (rootL r) ∧ Below w.heap.size w w'
theorem wpList_appS {ops : Array Oper} {rest : List Oper} {o : Oper} {a : Go.Act} {w : World} {Q : Exit → Go.Act → World → Prop} (hgd : o.guard = none) (s x : Operand)
    (ho : o.op = .call { callee := .builtin .append, args := #[s, x], argTypes := #[26, 9] }) (v v' : Value) (m : Bs) (w' : World) (hs : a.eval s = v) (hx : a.eval x = .string ⟨m.toArray⟩)
    (h : ∀ ty, (Builtin.append_ #[26, 9] ty #[v, .string ⟨m.toArray⟩]).run Tryz.prog w = .ok v' w')
    (k : wpList Tryz.prog ops Q rest (a.put o.dst v') w') : wpList Tryz.prog ops Q (o :: rest) a w := by
  refine wpList_plain hgd fun K hK => ?_
  unfold Oper.wp
  simp [execOp, ho, resolve, invoke, builtin, hs, hx, h, Result.andThen]
  exact hK _ _ k
theorem run_appS' {w : World} {base : Nat} {v : Value} {l : List UInt8} (h : Ow w base v l) (m : List UInt8) (hl : l.length + m.length ≤ 140737488355328) (hb : base ≤ w.heap.size) :
    ∃ v' w', (∀ ty, (Builtin.append_ #[26, 9] ty #[v, .string ⟨m.toArray⟩]).run Tryz.prog w = .ok v' w') ∧ Ow w' base v' (l ++ m) ∧ w.grownBy w' v.ownBlock := by
  obtain ⟨v', w', h1, h2, h3⟩ := run_appS h m hl hb 26
  exact ⟨v', w', fun ty => h1, h2, h3⟩
set_option maxRecDepth 100000 in
set_option maxHeartbeats 8000000 in
theorem write_p (r : Rt) (v : Value) (w : World) (hv : RtR w v r) (hok : RtOk r) (hT : Tb w) : Calls Tryz.prog 25 #[v] w (WriteP r w) := by
  obtain ⟨A, c, B, d, rfl, hp, hk⟩ := hv.parts
  obtain ⟨n, hn⟩ : ∃ n, n = r.pool.length := ⟨_, rfl⟩
  obtain ⟨m, hm⟩ : ∃ m, m = r.forks.length := ⟨_, rfl⟩
  obtain ⟨z, hz⟩ : ∃ z : Nat, (z : Int) = r.count := ⟨r.count.toNat, by have := hok.lo; omega⟩
  rw [← hn] at hp
  rw [← hm] at hk
  rw [← hn, ← hm, ← hz]
  have hz1 : z ≤ 1099511627776 := by have := hok.hi; omega
  have hn1 : n ≤ 24 := by rw [hn]; exact hok.pool.len
  have hm1 : m ≤ 16 := by rw [hm]; exact hok.len
  have hb := boxes_mk w (z : Int) (.slice A n c) (.slice B m d)
  obtain ⟨hcc, hfc⟩ := cell_third w (.cells #[.int .i64 (z : Int), .slice A n c, .slice B m d] 25) (.cells #[.slice none 0 0] 26) .nilFunc 77
  have hs := store_fn _ _ (.func 46) #[] #[.pointer (some ⟨w.heap.size + 1, 0, none⟩)] _ hcc hfc
  have HX : Hid (z ≤ 1099511627776 ∧ n = r.pool.length ∧ m = r.forks.length ∧ (z : Int) = r.count ∧ n ≤ 24 ∧ m ≤ 16) := Lib.hid ⟨hz1, hn, hm, hz, hn1, hm1⟩
  have HP := Lib.hid hp; have HK := Lib.hid hk; have HOk := Lib.hid hok; have HT := Lib.hid hT
  clear hcc hfc hz1 hn hm hz hp hk hok hT hv
  go_enter Tryz.func25, Tryz.ntmps25
  go_upto_region 4 with fail
  obtain ⟨w1, hw1⟩ : ∃ y, y = (((w.alloc (.cells #[.int .i64 (z : Int), .slice A n c, .slice B m d] 25)).alloc (.cells #[.slice none 0 0] 26)).alloc (.cells #[.func (.func 46) #[] #[.pointer (some ⟨w.heap.size + 1, 0, none⟩)]] 77)) := ⟨_, rfl⟩
  rw [← hw1] at hb ⊢
  clear hs hw1
  obtain ⟨R, hR⟩ : ∃ z, z = w.heap.size := ⟨_, rfl⟩
  obtain ⟨bb, hbb⟩ : ∃ z, z = w.heap.size + 1 := ⟨_, rfl⟩
  obtain ⟨sb, hsb⟩ : ∃ z, z = w.heap.size + 1 + 1 := ⟨_, rfl⟩
  have hbz := hb.size
  have HLo0 : Hid (Below w.heap.size w w1) := Lib.hid hb.below
  rw [← hsb, ← hbb, ← hR] at hb ⊢
  obtain ⟨base, hbase⟩ : ∃ z, z = w1.heap.size := ⟨_, rfl⟩
  have HE : Hid (R < bb ∧ bb < sb ∧ sb < base ∧ R = w.heap.size ∧ base = w1.heap.size) := Lib.hid ⟨by omega, by omega, by omega, hR, hbase⟩
  have HB := Lib.hid (And.intro hb.root (And.intro hb.buf hb.fn))
  clear hb hR hbb hsb hbase hbz
  -- what stays
  have hk1 : ∀ {W : World} {k : Nat} {cs : Array Value} {t : TypeId}, w1.heap[k]? = some (.cells cs t (0, 0)) → k ≠ bb → k < base → Wt bb base w1 W → W.heap[k]? = some (.cells cs t (0, 0)) := fun h1 h2 h3 h4 => h4.keep h1 h2 (.inl h3)
  have CR : ∀ W, Wt bb base w1 W → W.heap[R]? = some (.cells #[.int .i64 (z : Int), .slice A n c, .slice B m d] 25 (0, 0)) := fun W hW => hk1 HB.out.1 (by have := HE.out; omega) (by have := HE.out; omega) hW
  have CR0 : Hid (∀ W, Wt bb base w1 W → W.cell? ⟨R, 0, none⟩ = some (.int .i64 (z : Int))) := Lib.hid fun W hW => (cell_of_row W R 0 _ _ _ (CR W hW)).trans rfl
  have CR1 : Hid (∀ W, Wt bb base w1 W → W.cell? ⟨R, 1, none⟩ = some (.slice A n c)) := Lib.hid fun W hW => (cell_of_row W R 1 _ _ _ (CR W hW)).trans rfl
  have CR2 : Hid (∀ W, Wt bb base w1 W → W.cell? ⟨R, 2, none⟩ = some (.slice B m d)) := Lib.hid fun W hW => (cell_of_row W R 2 _ _ _ (CR W hW)).trans rfl
  have CSh : Hid (∀ W, Wt bb base w1 W → W.heap[sb]? = some (.cells #[.func (.func 46) #[] #[.pointer (some ⟨bb, 0, none⟩)]] 77 (0, 0))) := Lib.hid fun W hW => hk1 HB.out.2.2 (by have := HE.out; omega) (by have := HE.out; omega) hW
  have CS : Hid (∀ W, Wt bb base w1 W → W.cell? ⟨sb, 0, none⟩ = some (.func (.func 46) #[] #[.pointer (some ⟨bb, 0, none⟩)])) := Lib.hid fun W hW => (cell_of_row W sb 0 _ _ _ (CSh.out W hW)).trans rfl
  have hT1 : Tb w1 := Tb.below HT.out HLo0.out
  have HTW : Hid (∀ W, Wt bb base w1 W → Tb W) := Lib.hid fun W hW => Tb.wt hT1 hW (by have := Tb.lt HT.out; have := HE.out; omega) (by have := Tb.lt HT.out; have := HE.out; omega)
  have HLow : Hid (∀ W, Wt bb base w1 W → Below w.heap.size w W) := Lib.hid fun W hW => HLo0.out.trans (hW.below (by have := HE.out; omega) (by have := HE.out; omega) (by have := HE.out; omega))
  have hsz : Hid (∀ W, Wt bb base w1 W → base ≤ W.heap.size) := Lib.hid fun W hW => by have := HE.out; have := hW.size; omega
  have HTxt : Hid (∀ (q : Nat) (W : World), q ≤ 1099511627776 → Wt bb base w1 W → Calls Tryz.prog 49 #[.int .i64 (q : Int)] W fun e w' => e = .returned (.string ⟨(dd q).toArray⟩) ∧ Below W.heap.size W w') := Lib.hid fun q W hq hW => by
    have h := Text_any (q : Int) (by omega) (by omega) W (HTW.out W hW)
    rw [textL_dd] at h; exact h
  clear hk1 CR hT1
  -- net
  obtain ⟨t4, ht4⟩ : ∃ t, t = dd z := ⟨_, rfl⟩
  have HTx4 : Hid (∀ W, Wt bb base w1 W → Calls Tryz.prog 49 #[.int .i64 (z : Int)] W fun e w' => e = .returned (.string ⟨t4.toArray⟩) ∧ Below W.heap.size W w') := Lib.hid fun W hW => by rw [ht4]; exact HTxt.out z W HX.out.1 hW
  obtain ⟨L1, hL1⟩ : ∃ L, L = numL bNet z := ⟨_, rfl⟩
  have HJ4 : Hid ((bNet ++ 32 :: t4).length ≤ 1000000) := Lib.hid (by have := dd_len HX.out.1; rw [ht4]; simp [bNet]; omega)
  have HL4 : Hid (([] : Bs).length ≤ 10000000) := Lib.hid (by simp)
  have HR4 : Hid (L1 = [] ++ ((bNet ++ 32 :: t4) ++ [10])) := Lib.hid (by rw [hL1, ht4]; unfold numL; simp)
  have HZ1 : Hid (L1 = numL bNet z ∧ L1.length ≤ 200) := Lib.hid ⟨hL1, by rw [hL1]; exact numL_len (by decide) HX.out.1⟩
  clear ht4 hL1
  obtain ⟨x0, hx0⟩ : ∃ x, x = w1.drew := ⟨_, rfl⟩
  have lx : Below w1.heap.size w1 x0 := by rw [hx0]; exact bdr (Below.refl _ _) 1
  have T0 : Hid (Wt bb base w1 x0) := Lib.hid (Wt.new lx)
  have B0 : Hid (Bf x0 bb base []) := Lib.hid ⟨none, 0, 0, (lx.block bb (lt_heap HB.out.2.1)).trans HB.out.2.1, Ow.nil _ _, rfl, by have := HE.out; omega⟩
  clear lx
  refine held_start (Wt bb base w1) (by kernel_rfl) ?_
  rw [← hx0]
  refine held_take 0 (.func (.func 46) #[] #[.pointer (some ⟨bb, 0, none⟩)]) rfl (by kernel_rfl) (by kernel_rfl) (by kernel_rfl) (fun _ _ _ h => h) (by kernel_rfl) (fun W hW => y_load (sv := .pointer (some ⟨sb, 0, none⟩)) rfl (by kernel_rfl) (l_Fn W sb _ _ _ (CS.out W hW))) (T0.out) ?_
  refine held_take 1 (.pointer (some ⟨R, 0, none⟩)) rfl (by kernel_rfl) (by kernel_rfl) (by kernel_rfl) (fun _ _ _ h => h) (by kernel_rfl) (fun W hW => by kernel_rfl) (T0.out) ?_
  refine held_take 2 (.int .i64 (z : Int)) rfl (by kernel_rfl) (by kernel_rfl) (by kernel_rfl) (fun _ _ _ h => h) (by kernel_rfl) (fun W hW => y_load (sv := .pointer (some ⟨R, 0, none⟩)) rfl (by kernel_rfl) (l_I W R 0 _ (CR0.out W hW))) (T0.out) ?_
  refine held_one (i := 3) (by kernel_rfl) ?_
  refine held_call 49 #[.int .i64 (z : Int)] rfl (by kernel_rfl) (by kernel_rfl) ?_
  refine (HTx4.out _ T0.out).mono ?_
  rintro e w8 ⟨rfl, hb8⟩
  have T8 := Lib.hid (Wt.trans T0.out (Wt.new hb8))
  have B8 := Lib.hid (B0.out.below hb8 (Nat.le_refl _))
  clear hb8
  refine ⟨_, rfl, T8.out, ?_⟩
  obtain ⟨wb, hwb⟩ : ∃ y, y = w8.alloc (.cells #[.string ⟨#[110, 101, 116]⟩, .string ⟨t4.toArray⟩] 9) := ⟨_, rfl⟩
  have lb : Below w8.heap.size w8 wb := by rw [hwb]; exact below_new _ _
  have Tb8 : Hid (Wt bb base w1 wb) := Lib.hid (Wt.trans T8.out (Wt.new lb))
  have Bb : Hid (Bf wb bb base ([])) := Lib.hid (B8.out.below lb (Nat.le_refl _))
  have hsb : StrsR wb (.slice (some ⟨w8.heap.size, 0, none⟩) 2 2) [bNet, t4] := by rw [hwb]; exact strs_new w8 _ _ rfl 2 rfl
  have HSay := Lib.hid (say_p (r := L1) Bb.out (hsz.out wb Tb8.out) hsb (N := 2) rfl (by decide) (by decide) (by rw [joinL_two]; exact HJ4.out) HL4.out (by rw [joinL_two, HR4.out]))
  have hbs := bs_two w8 ⟨#[110, 101, 116]⟩ ⟨t4.toArray⟩
  rw [← hwb] at hbs
  clear lb hsb B8 hwb
  refine held_one (i := 4) (by kernel_rfl) ?_
  refine held_op (.slice (some ⟨w8.heap.size, 0, none⟩) 2 2) wb rfl (by kernel_rfl) (y_build (vs := #[(0, .string ⟨#[110, 101, 116]⟩), (1, .string ⟨t4.toArray⟩)]) rfl (by kernel_rfl) hbs) (Tb8.out) ?_
  refine held_one (i := 5) (by kernel_rfl) ?_
  refine held_call 46 #[.slice (some ⟨w8.heap.size, 0, none⟩) 2 2, .pointer (some ⟨bb, 0, none⟩)] rfl (by kernel_rfl) (by kernel_rfl) ?_
  refine HSay.out.mono ?_
  rintro e w9 ⟨rfl, b9, t9⟩
  have T9 := Lib.hid (Wt.trans Tb8.out t9)
  have B9 := Lib.hid b9
  clear b9 t9 hbs
  refine ⟨_, rfl, T9.out, ?_⟩
  refine held_done _ (by kernel_rfl) ?_
  go_simp
  clear T0 B0 T8 Tb8 Bb HSay HTx4 HJ4 HL4 HR4
  -- pool
  go_upto_region 5 with fail
  obtain ⟨t5, ht5⟩ : ∃ t, t = dd n := ⟨_, rfl⟩
  have HTx5 : Hid (∀ W, Wt bb base w1 W → Calls Tryz.prog 49 #[.int .i64 (n : Int)] W fun e w' => e = .returned (.string ⟨t5.toArray⟩) ∧ Below W.heap.size W w') := Lib.hid fun W hW => by rw [ht5]; exact HTxt.out n W (by have := HX.out; omega) hW
  obtain ⟨L2, hL2⟩ : ∃ L, L = L1 ++ numL bPool n := ⟨_, rfl⟩
  have HJ5 : Hid ((bPool ++ 32 :: t5).length ≤ 1000000) := Lib.hid (by have := dd_len (n := n) (by have := HX.out; omega); rw [ht5]; simp [bPool]; omega)
  have HL5 : Hid (L1.length ≤ 10000000) := Lib.hid (by have := HZ1.out.2; omega)
  have HR5 : Hid (L2 = L1 ++ ((bPool ++ 32 :: t5) ++ [10])) := Lib.hid (by rw [hL2, ht5]; unfold numL; simp)
  have HZ2 : Hid (L2 = numL bNet z ++ numL bPool n ∧ L2.length ≤ 400) := Lib.hid ⟨by rw [hL2, HZ1.out.1], by have h1 := numL_len (word := bPool) (by decide) (n := n) (by have := HX.out; omega); have h2 := HZ1.out.2; rw [hL2, List.length_append]; omega⟩
  clear ht5 hL2 hx0
  obtain ⟨x0, hx0⟩ : ∃ x, x = w9.drew := ⟨_, rfl⟩
  have lx : Below w9.heap.size w9 x0 := by rw [hx0]; exact bdr (Below.refl _ _) 1
  have T0 : Hid (Wt bb base w1 x0) := Lib.hid (Wt.trans T9.out (Wt.new lx))
  have B0 : Hid (Bf x0 bb base L1) := Lib.hid (B9.out.below lx (Nat.le_refl _))
  clear lx T9 B9
  refine held_start (Wt bb base w1) (by kernel_rfl) ?_
  rw [← hx0]
  refine held_take 0 (.func (.func 46) #[] #[.pointer (some ⟨bb, 0, none⟩)]) rfl (by kernel_rfl) (by kernel_rfl) (by kernel_rfl) (fun _ _ _ h => h) (by kernel_rfl) (fun W hW => y_load (sv := .pointer (some ⟨sb, 0, none⟩)) rfl (by kernel_rfl) (l_Fn W sb _ _ _ (CS.out W hW))) (T0.out) ?_
  refine held_take 1 (.pointer (some ⟨R, 1, none⟩)) rfl (by kernel_rfl) (by kernel_rfl) (by kernel_rfl) (fun _ _ _ h => h) (by kernel_rfl) (fun W hW => by kernel_rfl) (T0.out) ?_
  refine held_take 2 (.slice A n c) rfl (by kernel_rfl) (by kernel_rfl) (by kernel_rfl) (fun _ _ _ h => h) (by kernel_rfl) (fun W hW => y_load (sv := .pointer (some ⟨R, 1, none⟩)) rfl (by kernel_rfl) (l_Sl W R 1 A n c (CR1.out W hW))) (T0.out) ?_
  refine held_take 3 (.int .i64 (n : Int)) rfl (by kernel_rfl) (by kernel_rfl) (by kernel_rfl) (fun _ _ _ h => h) (by kernel_rfl) (fun W hW => by kernel_rfl) (T0.out) ?_
  refine held_one (i := 4) (by kernel_rfl) ?_
  refine held_call 49 #[.int .i64 (n : Int)] rfl (by kernel_rfl) (by kernel_rfl) ?_
  refine (HTx5.out _ T0.out).mono ?_
  rintro e w8 ⟨rfl, hb8⟩
  have T8 := Lib.hid (Wt.trans T0.out (Wt.new hb8))
  have B8 := Lib.hid (B0.out.below hb8 (Nat.le_refl _))
  clear hb8
  refine ⟨_, rfl, T8.out, ?_⟩
  obtain ⟨wb, hwb⟩ : ∃ y, y = w8.alloc (.cells #[.string ⟨#[112, 111, 111, 108]⟩, .string ⟨t5.toArray⟩] 9) := ⟨_, rfl⟩
  have lb : Below w8.heap.size w8 wb := by rw [hwb]; exact below_new _ _
  have Tb8 : Hid (Wt bb base w1 wb) := Lib.hid (Wt.trans T8.out (Wt.new lb))
  have Bb : Hid (Bf wb bb base (L1)) := Lib.hid (B8.out.below lb (Nat.le_refl _))
  have hsb : StrsR wb (.slice (some ⟨w8.heap.size, 0, none⟩) 2 2) [bPool, t5] := by rw [hwb]; exact strs_new w8 _ _ rfl 2 rfl
  have HSay := Lib.hid (say_p (r := L2) Bb.out (hsz.out wb Tb8.out) hsb (N := 2) rfl (by decide) (by decide) (by rw [joinL_two]; exact HJ5.out) HL5.out (by rw [joinL_two, HR5.out]))
  have hbs := bs_two w8 ⟨#[112, 111, 111, 108]⟩ ⟨t5.toArray⟩
  rw [← hwb] at hbs
  clear lb hsb B8 hwb
  refine held_one (i := 5) (by kernel_rfl) ?_
  refine held_op (.slice (some ⟨w8.heap.size, 0, none⟩) 2 2) wb rfl (by kernel_rfl) (y_build (vs := #[(0, .string ⟨#[112, 111, 111, 108]⟩), (1, .string ⟨t5.toArray⟩)]) rfl (by kernel_rfl) hbs) (Tb8.out) ?_
  refine held_one (i := 6) (by kernel_rfl) ?_
  refine held_call 46 #[.slice (some ⟨w8.heap.size, 0, none⟩) 2 2, .pointer (some ⟨bb, 0, none⟩)] rfl (by kernel_rfl) (by kernel_rfl) ?_
  refine HSay.out.mono ?_
  rintro e w9 ⟨rfl, b9, t9⟩
  have T9 := Lib.hid (Wt.trans Tb8.out t9)
  have B9 := Lib.hid b9
  clear b9 t9 hbs
  refine ⟨_, rfl, T9.out, ?_⟩
  refine held_done _ (by kernel_rfl) ?_
  go_simp
  clear T0 B0 T8 Tb8 Bb HSay HTx5 HJ5 HL5 HR5 hx0
  -- the pool's packs
  have c1 := CR1.out _ T9.out
  have hnp : Hid (∀ g, (Value.slice A n c).ownBlock = some g → 0 < n → g < w.heap.size) := Lib.hid fun g hg h0 => by
    obtain ⟨g', o', c', e, _, hlt⟩ := HP.out.pos (by have := HX.out; omega)
    rw [e] at hg; cases hg; exact hlt
  obtain ⟨L3, hL3⟩ : ∃ L, L = L2 ++ packsL r.pool := ⟨_, rfl⟩
  have HZ3 : Hid (L3 = L2 ++ packsL r.pool ∧ L3.length ≤ 30000) := Lib.hid ⟨hL3, by have h1 := packsL_le HOk.out.pool; have h2 := HZ2.out.2; rw [hL3, List.length_append]; omega⟩
  have HSE := Lib.hid (sayEach_p' B9.out (hsz.out _ T9.out) (RdK.below HP.out (HLow.out _ T9.out) (Nat.le_refl _)) (named_1000 HOk.out.pool.id) (by have := HX.out; omega) (by have := HZ2.out.2; omega) (fun g hg h0 => by
    have h1 := hnp.out g hg (by have := HX.out; omega); have := HE.out; exact ⟨by omega, .inl (by omega)⟩) (CSh.out _ T9.out) (by have := HE.out; omega) (by have := HE.out; omega) HZ3.out.1)
  clear hL3 B9
  go_wp2_with fail
  refine HSE.out.mono ?_
  rintro e w10 ⟨rfl, b10, t10⟩
  have T10 := Lib.hid (Wt.trans T9.out t10)
  have B10 := Lib.hid b10
  clear b10 t10 HSE c1 T9 hnp
  -- forks
  go_upto_region 7 with fail
  obtain ⟨t7, ht7⟩ : ∃ t, t = dd m := ⟨_, rfl⟩
  have HTx7 : Hid (∀ W, Wt bb base w1 W → Calls Tryz.prog 49 #[.int .i64 (m : Int)] W fun e w' => e = .returned (.string ⟨t7.toArray⟩) ∧ Below W.heap.size W w') := Lib.hid fun W hW => by rw [ht7]; exact HTxt.out m W (by have := HX.out; omega) hW
  obtain ⟨L4, hL4⟩ : ∃ L, L = L3 ++ numL bForks m := ⟨_, rfl⟩
  have HJ7 : Hid ((bForks ++ 32 :: t7).length ≤ 1000000) := Lib.hid (by have := dd_len (n := m) (by have := HX.out; omega); rw [ht7]; simp [bForks]; omega)
  have HL7 : Hid (L3.length ≤ 10000000) := Lib.hid (by have := HZ3.out.2; omega)
  have HR7 : Hid (L4 = L3 ++ ((bForks ++ 32 :: t7) ++ [10])) := Lib.hid (by rw [hL4, ht7]; unfold numL; simp)
  have HZ4 : Hid (L4 = L3 ++ numL bForks m ∧ L4.length ≤ 30200) := Lib.hid ⟨hL4, by have h1 := numL_len (word := bForks) (by decide) (n := m) (by have := HX.out; omega); have h2 := HZ3.out.2; rw [hL4, List.length_append]; omega⟩
  clear ht7 hL4
  obtain ⟨x0, hx0⟩ : ∃ x, x = w10.drew := ⟨_, rfl⟩
  have lx : Below w10.heap.size w10 x0 := by rw [hx0]; exact bdr (Below.refl _ _) 1
  have T0 : Hid (Wt bb base w1 x0) := Lib.hid (Wt.trans T10.out (Wt.new lx))
  have B0 : Hid (Bf x0 bb base L3) := Lib.hid (B10.out.below lx (Nat.le_refl _))
  clear lx T10 B10
  refine held_start (Wt bb base w1) (by kernel_rfl) ?_
  rw [← hx0]
  refine held_take 0 (.func (.func 46) #[] #[.pointer (some ⟨bb, 0, none⟩)]) rfl (by kernel_rfl) (by kernel_rfl) (by kernel_rfl) (fun _ _ _ h => h) (by kernel_rfl) (fun W hW => y_load (sv := .pointer (some ⟨sb, 0, none⟩)) rfl (by kernel_rfl) (l_Fn W sb _ _ _ (CS.out W hW))) (T0.out) ?_
  refine held_take 1 (.pointer (some ⟨R, 2, none⟩)) rfl (by kernel_rfl) (by kernel_rfl) (by kernel_rfl) (fun _ _ _ h => h) (by kernel_rfl) (fun W hW => by kernel_rfl) (T0.out) ?_
  refine held_take 2 (.slice B m d) rfl (by kernel_rfl) (by kernel_rfl) (by kernel_rfl) (fun _ _ _ h => h) (by kernel_rfl) (fun W hW => y_load (sv := .pointer (some ⟨R, 2, none⟩)) rfl (by kernel_rfl) (l_Fl W R 2 B m d (CR2.out W hW))) (T0.out) ?_
  refine held_take 3 (.int .i64 (m : Int)) rfl (by kernel_rfl) (by kernel_rfl) (by kernel_rfl) (fun _ _ _ h => h) (by kernel_rfl) (fun W hW => by kernel_rfl) (T0.out) ?_
  refine held_one (i := 4) (by kernel_rfl) ?_
  refine held_call 49 #[.int .i64 (m : Int)] rfl (by kernel_rfl) (by kernel_rfl) ?_
  refine (HTx7.out _ T0.out).mono ?_
  rintro e w8 ⟨rfl, hb8⟩
  have T8 := Lib.hid (Wt.trans T0.out (Wt.new hb8))
  have B8 := Lib.hid (B0.out.below hb8 (Nat.le_refl _))
  clear hb8
  refine ⟨_, rfl, T8.out, ?_⟩
  obtain ⟨wb, hwb⟩ : ∃ y, y = w8.alloc (.cells #[.string ⟨#[102, 111, 114, 107, 115]⟩, .string ⟨t7.toArray⟩] 9) := ⟨_, rfl⟩
  have lb : Below w8.heap.size w8 wb := by rw [hwb]; exact below_new _ _
  have Tb8 : Hid (Wt bb base w1 wb) := Lib.hid (Wt.trans T8.out (Wt.new lb))
  have Bb : Hid (Bf wb bb base (L3)) := Lib.hid (B8.out.below lb (Nat.le_refl _))
  have hsb : StrsR wb (.slice (some ⟨w8.heap.size, 0, none⟩) 2 2) [bForks, t7] := by rw [hwb]; exact strs_new w8 _ _ rfl 2 rfl
  have HSay := Lib.hid (say_p (r := L4) Bb.out (hsz.out wb Tb8.out) hsb (N := 2) rfl (by decide) (by decide) (by rw [joinL_two]; exact HJ7.out) HL7.out (by rw [joinL_two, HR7.out]))
  have hbs := bs_two w8 ⟨#[102, 111, 114, 107, 115]⟩ ⟨t7.toArray⟩
  rw [← hwb] at hbs
  clear lb hsb B8 hwb
  refine held_one (i := 5) (by kernel_rfl) ?_
  refine held_op (.slice (some ⟨w8.heap.size, 0, none⟩) 2 2) wb rfl (by kernel_rfl) (y_build (vs := #[(0, .string ⟨#[102, 111, 114, 107, 115]⟩), (1, .string ⟨t7.toArray⟩)]) rfl (by kernel_rfl) hbs) (Tb8.out) ?_
  refine held_one (i := 6) (by kernel_rfl) ?_
  refine held_call 46 #[.slice (some ⟨w8.heap.size, 0, none⟩) 2 2, .pointer (some ⟨bb, 0, none⟩)] rfl (by kernel_rfl) (by kernel_rfl) ?_
  refine HSay.out.mono ?_
  rintro e w9 ⟨rfl, b9, t9⟩
  have T9 := Lib.hid (Wt.trans Tb8.out t9)
  have B9 := Lib.hid b9
  clear b9 t9 hbs
  refine ⟨_, rfl, T9.out, ?_⟩
  refine held_done _ (by kernel_rfl) ?_
  go_simp
  clear T0 B0 T8 Tb8 Bb HSay HTx7 HJ7 HL7 HR7 hx0
  have c2 := CR2.out _ T9.out
  go_wp2_with fail
  clear c2
  go_loopw [39] (fun i wr => ∃ k : Nat, k ≤ m ∧ i = .int .i64 k ∧ Hid (Bf wr bb base (L4 ++ forksL (r.forks.take k))) ∧ Hid (Wt bb base w1 wr)) (fun i _ => m - (intOf i).toNat)
  case atStart => exact ⟨0, Nat.zero_le _, rfl, Lib.hid (by have := B9.out; simpa [forksL] using this), T9⟩
  case round =>
    clear B9 T9
    obtain ⟨wo, hwo⟩ : ∃ wo, wo = wr := ⟨_, rfl⟩
    subst hwo
    obtain ⟨k, hk, rfl, hB, hTT⟩ := hrel
    by_cases hlt : k < m
    case neg =>
      have hkm : k = m := by omega
      have hB1 := hB.out
      rw [hkm, HX.out.2.2.1, List.take_length] at hB1
      have er : L4 ++ forksL r.forks = rootL r := by
        have e1 : r.count.toNat = z := by have := HX.out.2.2.2.1; omega
        unfold rootL
        rw [HZ4.out.1, HZ3.out.1, HZ2.out.1, e1, ← HX.out.2.1, ← HX.out.2.2.1]
        simp
      rw [er] at hB1
      obtain ⟨A9, n9, c9, hk9, ho9, hn9, _⟩ := hB1
      have c0 : wo.cell? ⟨bb, 0, none⟩ = some (.slice A9 n9 c9) := (cell_of_row wo bb 0 _ _ _ hk9).trans rfl
      have HF : Hid (WriteP r w (.returned (.slice A9 n9 c9)) wo) := Lib.hid ⟨A9, n9, c9, rfl, hn9, Ow.rb ho9, HLow.out _ hTT.out⟩
      clear hkm er hk9 ho9 hn9 hB hTT
      go_wp2_with fail
      go_ret
      exact HF.out
    obtain ⟨g, o, c', e, _, hg⟩ := HK.out.pos (by have := HX.out; omega)
    obtain rfl : B = some ⟨g, o, none⟩ := by rw [← HX.out.2.2.1] at e; cases e; rfl
    clear e
    obtain ⟨f, hfx⟩ : ∃ f, r.forks[k]? = some f := ⟨_, List.getElem?_eq_getElem (by have := HX.out; omega)⟩
    have hokf := HOk.out.forks.each f (List.mem_of_getElem? hfx)
    have hV := HK.out.below (HLow.out _ hTT.out) (Nat.le_refl _)
    obtain ⟨x, hx, d0, d1, d2, d3, d4⟩ := hV.at hfx
    -- a slice of a fork lies below
    obtain ⟨x0, hx0, q0, q1, q2, q3, q4⟩ := HK.out.at hfx
    have hxe : x.pv = x0.pv := by
      have h1 := ((HLow.out _ hTT.out).cell (p := ⟨g, o + k * 5 + 4, none⟩) hg).symm.trans d4
      rw [q4] at h1; exact (Option.some.inj h1).symm
    have hnp : Hid (∀ g, x.pv.ownBlock = some g → 0 < f.packs.length → g < w.heap.size) := Lib.hid fun g hg h0 => by
      rw [hxe] at hg
      obtain ⟨g', o', c', e, _, hlt⟩ := RdK.pos hx0.packs h0
      rw [e] at hg; cases hg; exact hlt
    clear hxe q0 q1 q2 q3 q4 hx0 x0
    obtain ⟨F, hF⟩ : ∃ y, y = wo.heap.size := ⟨_, rfl⟩
    obtain ⟨w2, hw2⟩ : ∃ y, y = wo.alloc (.cells (fkC x).toArray 42) := ⟨_, rfl⟩
    have l2 : Below wo.heap.size wo w2 := by rw [hw2]; exact below_new _ _
    have k2 : w2.heap[F]? = some (.cells (fkC x).toArray 42 (0, 0)) := by rw [hw2, hF]; exact heap_alloc_new _ _
    have hFb : F ≠ bb := by have := hsz.out _ hTT.out; have := HE.out; omega
    have CF : ∀ (i : Nat) (u : Value), (fkC x)[i]? = some u → Hid (∀ W, Wt bb base w2 W → W.cell? ⟨F, i, none⟩ = some u) := fun i u hi => Lib.hid fun W hW => (cell_of_row W F i _ _ _ (hW.keep k2 hFb (.inr (by decide)))).trans (by simpa using hi)
    have F0 := CF 0 _ rfl; have F1 := CF 1 _ rfl; have F2 := CF 2 _ rfl; have F3 := CF 3 _ rfl; have F4 := CF 4 _ rfl
    have T2 : Hid (Wt bb base w1 w2) := Lib.hid (Wt.trans hTT.out (Wt.new l2))
    have B2 : Hid (Bf w2 bb base (L4 ++ forksL (r.forks.take k))) := Lib.hid (hB.out.below l2 (Nat.le_refl _))
    have CS2 : Hid (∀ W, Wt bb base w2 W → W.cell? ⟨sb, 0, none⟩ = some (.func (.func 46) #[] #[.pointer (some ⟨bb, 0, none⟩)])) := Lib.hid fun W hW => CS.out W (Wt.trans T2.out hW)
    obtain ⟨Ar, cr, er⟩ := RdK.shape hx.refs
    obtain ⟨Ap, cp, ep⟩ := RdK.shape hx.packs
    obtain ⟨nr, hnr⟩ : ∃ n, n = f.refs.length := ⟨_, rfl⟩
    obtain ⟨np, hnq⟩ : ∃ n, n = f.packs.length := ⟨_, rfl⟩
    rw [← hnr] at er
    rw [← hnq] at ep
    obtain ⟨tr, htr⟩ : ∃ t, t = dd nr := ⟨_, rfl⟩
    obtain ⟨tp, htp⟩ : ∃ t, t = dd np := ⟨_, rfl⟩
    have HTr : Hid (∀ W, Wt bb base w2 W → Calls Tryz.prog 49 #[.int .i64 (nr : Int)] W fun e w' => e = .returned (.string ⟨tr.toArray⟩) ∧ Below W.heap.size W w') := Lib.hid fun W hW => by rw [htr]; exact HTxt.out nr W (by have := hokf.refs.len; omega) (Wt.trans T2.out hW)
    have HTp : Hid (∀ W, Wt bb base w2 W → Calls Tryz.prog 49 #[.int .i64 (np : Int)] W fun e w' => e = .returned (.string ⟨tp.toArray⟩) ∧ Below W.heap.size W w') := Lib.hid fun W hW => by rw [htp]; exact HTxt.out np W (by have := hokf.packs.len; omega) (Wt.trans T2.out hW)
    obtain ⟨bd, hbd⟩ : ∃ t, t = bond x.linked := ⟨_, rfl⟩
    have HBd : Hid (∀ W, Calls Tryz.prog 50 #[.bool x.linked] W fun e w' => e = .returned (.string ⟨bd.toArray⟩) ∧ W = w') := Lib.hid fun W => by rw [hbd]; exact bond_any x.linked W
    have hrf : RefsR wo x.rv f.refs := hx.refs
    have HPut : Hid (∀ W, Wt bb base w1 W → RefsR W x.rv f.refs → Calls Tryz.prog 51 #[x.rv] W (Rf.PutP f.refs W)) := Lib.hid fun W _ h => Rf.Put_p f.refs _ W h (fun y hy => by
      have h1 := Rf.nameB_len (hokf.refs.name y hy); have h2 := Rf.named_len64 (hokf.refs.id y hy)
      unfold maxLen; omega) (by have := hokf.refs.len; omega)
    -- the refs lie below
    obtain ⟨x9, hx9, q0, q1, q2, q3, q4⟩ := HK.out.at hfx
    have hxr : x.rv = x9.rv := by
      have h1 := ((HLow.out _ hTT.out).cell (p := ⟨g, o + k * 5 + 3, none⟩) hg).symm.trans d3
      rw [q3] at h1; exact (Option.some.inj h1).symm
    have hxp : x.pv = x9.pv := by
      have h1 := ((HLow.out _ hTT.out).cell (p := ⟨g, o + k * 5 + 4, none⟩) hg).symm.trans d4
      rw [q4] at h1; exact (Option.some.inj h1).symm
    have HRR : Hid (∀ W, Wt bb base w1 W → RefsR W x.rv f.refs) := Lib.hid fun W hW => by rw [hxr]; exact RdK.below hx9.refs (HLow.out _ hW) (Nat.le_refl _)
    have HPP : Hid (∀ W, Wt bb base w1 W → StrsR W x.pv f.packs) := Lib.hid fun W hW => by rw [hxp]; exact RdK.below hx9.packs (HLow.out _ hW) (Nat.le_refl _)
    clear q0 q1 q2 q3 q4 hxr hxp hx9 x9 hrf
    have HFL : Hid (nr = f.refs.length ∧ np = f.packs.length ∧ FkOk f ∧ x.name = f.name ∧ x.linked = f.linked ∧ x.head = f.head ∧ tr = dd nr ∧ tp = dd np ∧ bd = bond x.linked) := Lib.hid ⟨hnr, hnq, hokf, hx.name, hx.linked, hx.head, htr, htp, hbd⟩
    have HFx := Lib.hid hfx
    have HW2 := Lib.hid hw2
    have hFe := Lib.hid hF; have HFb := Lib.hid hFb
    clear hfx hokf hV hx hF hw2 l2 k2 hFb CF hnr hnq htr htp hbd hg
    obtain ⟨nm, lk, hd, rv, pv⟩ := x
    simp only at er ep
    subst er
    subst ep
    unfold fkC at HW2
    simp only [SV] at d0 d1 d2 d3 d4 HW2 F0 F1 F2 F3 F4 HBd HPut HRR HPP HFL hnp
    go_upto_region 11 with fail
    rw [← HW2.out, ← hFe.out]
    clear d0 d1 d2 d3 d4 HW2
    -- the opening
    have hop : openB f.op = joinL [bFork, nm, bd, hd, tr, tp] := by
      have h := HFL.out
      rw [joinL_six]
      unfold openB Fk.op
      rw [h.2.2.2.1, h.2.2.2.2.2.1, h.2.2.2.2.2.2.1, h.2.2.2.2.2.2.2.1, h.2.2.2.2.2.2.2.2, h.2.2.2.2.1, ← h.1, ← h.2.1]
    have HJ11 : Hid ((joinL [bFork, nm, bd, hd, tr, tp]).length ≤ 1000000) := Lib.hid (by rw [← hop]; have := openB_len HFL.out.2.2.1; omega)
    obtain ⟨M1, hM1⟩ : ∃ L, L = L4 ++ forksL (r.forks.take k) := ⟨_, rfl⟩
    obtain ⟨M2, hM2⟩ : ∃ L, L = M1 ++ (joinL [bFork, nm, bd, hd, tr, tp] ++ [10]) := ⟨_, rfl⟩
    obtain ⟨M3, hM3⟩ : ∃ L, L = M2 ++ linesL f.refs := ⟨_, rfl⟩
    obtain ⟨M4, hM4⟩ : ∃ L, L = M3 ++ packsL f.packs := ⟨_, rfl⟩
    have hfl : (forksL (r.forks.take k)).length ≤ 640000 := by
      have h1 := forksL_len (l := r.forks.take k) (fun y hy => HOk.out.forks.each y (List.mem_of_mem_take hy))
      rw [List.length_take] at h1
      refine Nat.le_trans h1 ?_
      have := HX.out
      have h2 : min k r.forks.length ≤ 16 := by omega
      omega
    have hm1 : M1.length ≤ 671000 := by rw [hM1, List.length_append]; have := HZ4.out.2; omega
    have hm2 : M2.length ≤ 672000 := by rw [hM2, ← hop]; have := openB_len HFL.out.2.2.1; simp; omega
    have hm3 : M3.length ≤ 690000 := by
      have h1 := Rf.linesL_len (l := f.refs) HFL.out.2.2.1.refs.each
      have := HFL.out.2.2.1.refs.len
      rw [hM3, List.length_append]; omega
    have HM : Hid (M1 = L4 ++ forksL (r.forks.take k) ∧ M2 = M1 ++ (joinL [bFork, nm, bd, hd, tr, tp] ++ [10]) ∧ M3 = M2 ++ linesL f.refs ∧ M4 = M3 ++ packsL f.packs ∧ M1.length ≤ 671000 ∧ M2.length ≤ 672000 ∧ M3.length ≤ 690000) := Lib.hid ⟨hM1, hM2, hM3, hM4, hm1, hm2, hm3⟩
    have HEnd : Hid (M4 = L4 ++ forksL (r.forks.take (k + 1))) := Lib.hid (by
      rw [forksL_snoc HFx.out, hM4, hM3, hM2, hM1, ← hop]
      unfold forkL
      simp)
    rw [← hM1] at B2
    clear hop hM1 hM2 hM3 hM4 hfl hm1 hm2 hm3 hB hTT
    obtain ⟨x0, hx0⟩ : ∃ x, x = w2.drew := ⟨_, rfl⟩
    have lx : Below w2.heap.size w2 x0 := by rw [hx0]; exact bdr (Below.refl _ _) 1
    have T0 : Hid (Wt bb base w2 x0) := Lib.hid (Wt.new lx)
    have B0 : Hid (Bf x0 bb base M1) := Lib.hid (B2.out.below lx (Nat.le_refl _))
    clear lx
    refine held_start (Wt bb base w2) (by kernel_rfl) ?_
    rw [← hx0]
    refine held_take 0 (.func (.func 46) #[] #[.pointer (some ⟨bb, 0, none⟩)]) rfl (by kernel_rfl) (by kernel_rfl) (by kernel_rfl) (fun _ _ _ h => h) (by kernel_rfl) (fun W hW => y_load (sv := .pointer (some ⟨sb, 0, none⟩)) rfl (by kernel_rfl) (l_Fn W sb _ _ _ (CS2.out W hW))) (T0.out) ?_
    refine held_take 1 (.pointer (some ⟨F, 0, none⟩)) rfl (by kernel_rfl) (by kernel_rfl) (by kernel_rfl) (fun _ _ _ h => h) (by kernel_rfl) (fun W hW => by kernel_rfl) (T0.out) ?_
    refine held_take 2 (.string ⟨nm.toArray⟩) rfl (by kernel_rfl) (by kernel_rfl) (by kernel_rfl) (fun _ _ _ h => h) (by kernel_rfl) (fun W hW => y_load (sv := .pointer (some ⟨F, 0, none⟩)) rfl (by kernel_rfl) (l_S W F 0 nm (F0.out W hW))) (T0.out) ?_
    refine held_take 3 (.pointer (some ⟨F, 1, none⟩)) rfl (by kernel_rfl) (by kernel_rfl) (by kernel_rfl) (fun _ _ _ h => h) (by kernel_rfl) (fun W hW => by kernel_rfl) (T0.out) ?_
    refine held_take 4 (.bool lk) rfl (by kernel_rfl) (by kernel_rfl) (by kernel_rfl) (fun _ _ _ h => h) (by kernel_rfl) (fun W hW => y_load (sv := .pointer (some ⟨F, 1, none⟩)) rfl (by kernel_rfl) (l_Bo W F 1 lk (F1.out W hW))) (T0.out) ?_
    refine held_take 6 (.pointer (some ⟨F, 2, none⟩)) rfl (by kernel_rfl) (by kernel_rfl) (by kernel_rfl) (fun _ _ _ h => h) (by kernel_rfl) (fun W hW => by kernel_rfl) (T0.out) ?_
    refine held_take 7 (.string ⟨hd.toArray⟩) rfl (by kernel_rfl) (by kernel_rfl) (by kernel_rfl) (fun _ _ _ h => h) (by kernel_rfl) (fun W hW => y_load (sv := .pointer (some ⟨F, 2, none⟩)) rfl (by kernel_rfl) (l_S W F 2 hd (F2.out W hW))) (T0.out) ?_
    refine held_take 8 (.pointer (some ⟨F, 3, none⟩)) rfl (by kernel_rfl) (by kernel_rfl) (by kernel_rfl) (fun _ _ _ h => h) (by kernel_rfl) (fun W hW => by kernel_rfl) (T0.out) ?_
    refine held_take 9 (.slice Ar nr cr) rfl (by kernel_rfl) (by kernel_rfl) (by kernel_rfl) (fun _ _ _ h => h) (by kernel_rfl) (fun W hW => y_load (sv := .pointer (some ⟨F, 3, none⟩)) rfl (by kernel_rfl) (l_Rl W F 3 Ar nr cr (F3.out W hW))) (T0.out) ?_
    refine held_take 10 (.int .i64 (nr : Int)) rfl (by kernel_rfl) (by kernel_rfl) (by kernel_rfl) (fun _ _ _ h => h) (by kernel_rfl) (fun W hW => by kernel_rfl) (T0.out) ?_
    refine held_take 12 (.pointer (some ⟨F, 4, none⟩)) rfl (by kernel_rfl) (by kernel_rfl) (by kernel_rfl) (fun _ _ _ h => h) (by kernel_rfl) (fun W hW => by kernel_rfl) (T0.out) ?_
    refine held_take 13 (.slice Ap np cp) rfl (by kernel_rfl) (by kernel_rfl) (by kernel_rfl) (fun _ _ _ h => h) (by kernel_rfl) (fun W hW => y_load (sv := .pointer (some ⟨F, 4, none⟩)) rfl (by kernel_rfl) (l_Sl W F 4 Ap np cp (F4.out W hW))) (T0.out) ?_
    refine held_take 14 (.int .i64 (np : Int)) rfl (by kernel_rfl) (by kernel_rfl) (by kernel_rfl) (fun _ _ _ h => h) (by kernel_rfl) (fun W hW => by kernel_rfl) (T0.out) ?_
    refine held_one (i := 5) (by kernel_rfl) ?_
    refine held_call 50 #[.bool lk] rfl (by kernel_rfl) (by kernel_rfl) ?_
    refine (HBd.out _).mono ?_
    rintro e w7 ⟨rfl, rfl⟩
    refine ⟨_, rfl, T0.out, ?_⟩
    refine held_one (i := 11) (by kernel_rfl) ?_
    refine held_call 49 #[.int .i64 (nr : Int)] rfl (by kernel_rfl) (by kernel_rfl) ?_
    refine (HTr.out _ T0.out).mono ?_
    rintro e w7a ⟨rfl, hb8⟩
    have Tw7a := Lib.hid (Wt.trans T0.out (Wt.new hb8))
    have Bw7a := Lib.hid (B0.out.below hb8 (Nat.le_refl _))
    clear hb8
    refine ⟨_, rfl, Tw7a.out, ?_⟩
    refine held_one (i := 15) (by kernel_rfl) ?_
    refine held_call 49 #[.int .i64 (np : Int)] rfl (by kernel_rfl) (by kernel_rfl) ?_
    refine (HTp.out _ Tw7a.out).mono ?_
    rintro e w8 ⟨rfl, hb8⟩
    have Tw8 := Lib.hid (Wt.trans Tw7a.out (Wt.new hb8))
    have Bw8 := Lib.hid (Bw7a.out.below hb8 (Nat.le_refl _))
    clear hb8
    refine ⟨_, rfl, Tw8.out, ?_⟩
    obtain ⟨wb, hwb⟩ : ∃ y, y = w8.alloc (.cells #[.string ⟨#[102, 111, 114, 107]⟩, .string ⟨nm.toArray⟩, .string ⟨bd.toArray⟩, .string ⟨hd.toArray⟩, .string ⟨tr.toArray⟩, .string ⟨tp.toArray⟩] 9) := ⟨_, rfl⟩
    have lb : Below w8.heap.size w8 wb := by rw [hwb]; exact below_new _ _
    have Tb8 : Hid (Wt bb base w2 wb) := Lib.hid (Wt.trans Tw8.out (Wt.new lb))
    have Bb : Hid (Bf wb bb base M1) := Lib.hid (Bw8.out.below lb (Nat.le_refl _))
    have hsb : StrsR wb (.slice (some ⟨w8.heap.size, 0, none⟩) 6 6) [bFork, nm, bd, hd, tr, tp] := by rw [hwb]; exact strs_new w8 _ _ rfl 6 rfl
    have HSay := Lib.hid (say_p (r := M2) Bb.out (hsz.out wb (Wt.trans T2.out Tb8.out)) hsb (N := 6) rfl (by decide) (by decide) HJ11.out (by have := HM.out; omega) HM.out.2.1)
    have hbs := bs_six w8 ⟨#[102, 111, 114, 107]⟩ ⟨nm.toArray⟩ ⟨bd.toArray⟩ ⟨hd.toArray⟩ ⟨tr.toArray⟩ ⟨tp.toArray⟩
    rw [← hwb] at hbs
    clear lb hsb hwb
    refine held_one (i := 16) (by kernel_rfl) ?_
    refine held_op (.slice (some ⟨w8.heap.size, 0, none⟩) 6 6) wb rfl (by kernel_rfl) (y_build (vs := #[(0, .string ⟨#[102, 111, 114, 107]⟩), (1, .string ⟨nm.toArray⟩), (2, .string ⟨bd.toArray⟩), (3, .string ⟨hd.toArray⟩), (4, .string ⟨tr.toArray⟩), (5, .string ⟨tp.toArray⟩)]) rfl (by kernel_rfl) hbs) (Tb8.out) ?_
    refine held_one (i := 17) (by kernel_rfl) ?_
    refine held_call 46 #[.slice (some ⟨w8.heap.size, 0, none⟩) 6 6, .pointer (some ⟨bb, 0, none⟩)] rfl (by kernel_rfl) (by kernel_rfl) ?_
    refine HSay.out.mono ?_
    rintro e w9 ⟨rfl, b9, t9⟩
    have T9 := Lib.hid (Wt.trans Tb8.out t9)
    have B9 := Lib.hid b9
    clear b9 t9 hbs
    refine ⟨_, rfl, T9.out, ?_⟩
    refine held_done _ (by kernel_rfl) ?_
    go_simp
    clear T0 B0 Tw7a Tw8 Bw7a Bw8 Tb8 Bb HSay HTr HTp HBd hx0
    have h3 := F3.out _ T9.out
    have HPt := Lib.hid (HPut.out w9 (Wt.trans T2.out T9.out) (HRR.out w9 (Wt.trans T2.out T9.out)))
    clear HPut HRR
    go_wp2_with fail
    refine HPt.out.mono ?_
    rintro e w10 ⟨(⟨rfl, _⟩ | ⟨_, hnr⟩), l10⟩
    case inr => exact absurd HFL.out.2.2.1.refs hnr
    have T10 := Lib.hid (Wt.trans T9.out (Wt.new l10))
    have b10 := B9.out.below l10 (Nat.le_refl _)
    obtain ⟨Ab, nb, cb, hkb, hob, hnb, hbl⟩ := b10
    have c0 : w10.cell? ⟨bb, 0, none⟩ = some (.slice Ab nb cb) := (cell_of_row w10 bb 0 _ _ _ hkb).trans rfl
    obtain ⟨ll, hll⟩ : ∃ l, l = linesL f.refs := ⟨_, rfl⟩
    have hle : ll.length ≤ 10000 := by
      have h1 := Rf.linesL_len (l := f.refs) HFL.out.2.2.1.refs.each
      have := HFL.out.2.2.1.refs.len
      rw [hll]; omega
    obtain ⟨v11, w11, r11, o11, g11⟩ := run_appS' hob ll (by have := HM.out; omega) (hsz.out w10 (Wt.trans T2.out T10.out))
    obtain ⟨b11, t11, c11, f11⟩ := Bf.app hkb hob hbl o11 g11
    obtain ⟨A11, n11, q11, rfl, -⟩ := Ow.slice o11
    have hm3 : M2 ++ ll = M3 := by rw [hll]; exact HM.out.2.2.1.symm
    rw [hm3] at b11
    obtain ⟨w12, hw12⟩ : ∃ y, y = w11.setCell ⟨bb, 0, none⟩ (.slice A11 n11 q11) := ⟨_, rfl⟩
    rw [← hw12] at b11 t11
    have B12 := Lib.hid b11
    have T12 := Lib.hid (Wt.trans T10.out t11)
    have e4 : w11.cell? ⟨F, 4, none⟩ = some (.slice Ap np cp) := ((but_set w11 bb 0 (.slice A11 n11 q11)).cell (p := ⟨F, 4, none⟩) (Nat.lt_of_lt_of_le (World.block_lt_of_cell? _ _ (F4.out _ T10.out)) g11.size) HFb.out).symm.trans (by rw [← hw12]; exact F4.out _ T12.out)
    have HW12 := Lib.hid hw12
    have R11 := Lib.hid r11
    rw [← hll]
    unfold SV
    have HSE := Lib.hid (sayEach_p' (r := M4) B12.out (hsz.out _ (Wt.trans T2.out T12.out)) (HPP.out w12 (Wt.trans T2.out T12.out)) (named_1000 HFL.out.2.2.1.packs.id) (by have := HFL.out.2.2.1.packs.len; omega) (by have := HM.out; omega) (fun g hg h0 => by
      have h1 := hnp.out g hg (by have h := HFL.out; omega); have := HE.out; exact ⟨by omega, .inl (by omega)⟩) (CSh.out _ (Wt.trans T2.out T12.out)) (by have := HE.out; omega) (by have := HE.out; omega) HM.out.2.2.2.1)
    have hs11 : w11.cell? ⟨sb, 0, none⟩ = w11.cell? ⟨sb, 0, none⟩ := rfl
    clear hs11 l10 hkb hob hnb hbl hll hle o11 g11 b11 t11 hm3 hw12 r11 B9 T9 h3 HPt
    go_wp2_with (refine wpList_appS (o := ⟨some 69, _, _, _, _, _⟩) rfl _ _ rfl (.slice Ab nb cb) (.slice A11 n11 q11) ll w11 rfl rfl R11.out ?_)
    rw [← HW12.out]
    clear c0 c11 f11 HW12 R11 T10 e4 B12 HPP
    refine HSE.out.mono ?_
    rintro e w13 ⟨rfl, b13, t13⟩
    have T13 := Lib.hid (Wt.trans T2.out (Wt.trans T12.out t13))
    have B13 : Hid (Bf w13 bb base (L4 ++ forksL (r.forks.take (k + 1)))) := Lib.hid (by rw [← HEnd.out]; exact b13)
    clear b13 t13 HSE T12 F0 F1 F2 F3 F4 CS2 HJ11 HM HEnd HFL HFx T2 B2 hnp
    go_wp2_with fail
    go_roundw
    case rel => exact ⟨k + 1, by omega, by go_num, B13, T13⟩
    case measure => simp [intOf]; omega
end Go.Proofs.YtnboagmibhllpaaGreatDoor.Ro
