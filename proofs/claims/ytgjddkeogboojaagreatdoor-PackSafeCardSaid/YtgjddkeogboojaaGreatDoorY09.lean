/-
  PutTree: a tree's bytes. checkLabel, writeLabel, PutLabel; told of commits, of tags. An item, read. readTree, GetTree, treeWants.
-/
import Derived.Test.YtgjddkeogboojaaGreatDoorY08
import Derived.Test.YtgjddkeogboojaaGreatDoorLay
import Derived.Test.YtgjddkeogboojaaGreatDoorY05
set_option maxHeartbeats 16000000
set_option maxRecDepth 100000
namespace Go.Proofs.YtgjddkeogboojaaGreatDoor
open Go Go.RowKit Go.Shelf
theorem putI_len {x : Itm} (h : z39 x = true) : (putI x).length ≤ 137 := by
 obtain ⟨_, _, h3, h4⟩ := z2g h;have := z17 h4;have := (z4b.1 h3).2.1.2;unfold putI;simp only [List.length_cons, List.length_append];omega
theorem zlf (l : List Itm) (k : Nat) (hk : k < l.length) : putT (l.take (k + 1)) = putT (l.take k) ++ putI (l.getD k z1c) := by
 unfold putT;rw [z0l l z1c k hk, List.flatMap_append]; simp
theorem zbt : ∀ {l : List Itm}, (∀ x ∈ l, z39 x = true) → (putT l).length ≤ 137 * l.length
 | [], _ => Nat.zero_le _
 | x :: l, h => by
   have h1 := putI_len (h x (by simp));have h2 := zbt (l := l) (fun y hy => h y (by simp [hy]));unfold putT at h2 ⊢;rw [List.flatMap_cons, List.length_append, List.length_cons];omega
theorem z4g (a b : zB) (t : ByteArray) (ht : t = ⟨(a ++ b).toArray⟩) (ha : a.length ≤ 1000000) (hb : b.length ≤ 1000000) : ∀ W : World, (Op.stringOp .add ⟨a.toArray⟩ ⟨b.toArray⟩).run Tryz.prog W = .ok (.string t) W := fun W => by
 rw [run_string_add_sum W _ _ (by show a.length + b.length ≤ _; omega), append_S, ht]
theorem z1s (a b : zB) (s t : ByteArray) (hs : s = ⟨a.toArray⟩) (ht : t = ⟨(a ++ b).toArray⟩) (ha : a.length ≤ 1000000) (hb : b.length ≤ 1000000) : ∀ W : World, (Op.stringOp .add s ⟨b.toArray⟩).run Tryz.prog W = .ok (.string t) W := by
 subst hs; exact z4g a b t ht ha hb
def zfe (l : List Itm) : Value := .tuple #[SV (if z0k l then putT l else []), .bool (z0k l)]
theorem zd2 {l : List Itm} (h : z0k l = true) : zfe l = .tuple #[SV (putT l), .bool true] := by unfold zfe; rw [h]; rfl
theorem zgt {l : List Itm} (h : z0k l = false) : zfe l = .tuple #[.string ⟨#[]⟩, .bool false] := by unfold zfe; rw [h]; rfl
def LblV (l : Lbl) : Value := .agg #[.string ⟨l.id.toArray⟩, .int .i64 l.kind, .string ⟨l.name.toArray⟩, .string ⟨l.text.toArray⟩]
def SmallL (l : Lbl) : Prop := l.id.length ≤ 100000 ∧ l.name.length ≤ 100000 ∧ l.text.length ≤ 100000
theorem za8 (l : Lbl) (w : World) (hs : SmallL l) (he : Er w) :
 Calls Tryz.prog 184 #[LblV l] w (CkPost (rightL l) w) := by
 obtain ⟨i, k, nm, tx⟩ := l;obtain ⟨s1, s2, s3⟩ := hs;simp only at s1 s2 s3;unfold LblV;simp only;have B0 := below_new w (.cells #[.string ⟨i.toArray⟩, .int .i64 k, .string ⟨nm.toArray⟩, .string ⟨tx.toArray⟩] 100);have HB0 := zh B0;have HN := zh (zlb i (by omega) _ (he.below B0));have HP := zh (fun W (h : Below w.heap.size w W) => ckPart nm (by omega) W (he.below h));have HE := zh he;have hb1 : ∀ w1, Below (w.alloc (.cells #[.string ⟨i.toArray⟩, .int .i64 k, .string ⟨nm.toArray⟩, .string ⟨tx.toArray⟩] 100)).heap.size (w.alloc (.cells #[.string ⟨i.toArray⟩, .int .i64 k, .string ⟨nm.toArray⟩, .string ⟨tx.toArray⟩] 100)) w1 → Below w.heap.size w w1 ∧ w1.heap[w.heap.size]? = some (.cells #[.string ⟨i.toArray⟩, .int .i64 k, .string ⟨nm.toArray⟩, .string ⟨tx.toArray⟩] 100 (0, 0)) := fun w1 h => ⟨B0.trans (h.mono B0.size), (h.block _ (by simp)).trans (heap_alloc_new _ _)⟩
 have HB1 := zh hb1;have hwd := fun W => z3k k W;unfold SV at hwd;have HWd := zh hwd;have HR : Hid (rightL ⟨i, k, nm, tx⟩ = (z0c i && decide (1 ≤ k ∧ k ≤ 4) && z2a nm)) := zh (by unfold rightL; simp);clear s1 s2 s3 he B0 hb1 hwd
 go_enter Tryz.func184, Tryz.ntmps184
 go_wp2_with fail
 refine HN.out.mono ?_;rintro e w1 ⟨⟨hi, rfl⟩ | ⟨hi, p, rfl⟩, l1⟩
 · obtain ⟨h1, hb⟩ := HB1.out w1 l1;have q1 := (cell_of_row w1 w.heap.size 1 _ _ _ hb).trans (by rfl);have q2 := (cell_of_row w1 w.heap.size 2 _ _ _ hb).trans (by rfl);obtain ⟨ea, e0⟩ := (HE.out.below h1).wrong;have H1 := zh h1; have HI := zh hi;clear h1 hi hb l1;by_cases hk : 1 ≤ k ∧ k ≤ 4
   · have hne : kindW k ≠ [] := fun e => z3e.1 e hk;have hd : decide (1 ≤ k ∧ k ≤ 4) = true := decide_eq_true hk;have HD := zh hd;obtain ⟨ch, tl, hct⟩ := List.exists_cons_of_ne_nil hne;rw [hct] at HWd;clear hne hd hct hk
     go_wp2_with fail
     refine (HWd.out w1).mono ?_;rintro e w2 ⟨rfl, rfl⟩
     go_wp2_with fail
     refine (HP.out w1 H1.out).mono ?_;intro e w3 h3;have H3 := zh (h3.thru (b' := rightL ⟨i, k, nm, tx⟩) (by rw [HR.out, HI.out, HD.out]; rfl) H1.out);obtain ⟨v, rfl⟩ := h3.ret;clear h3
     go_wp2_with fail
     go_ret
     exact H3.out
   · have hct := z3e.2 hk;have hd : decide (1 ≤ k ∧ k ≤ 4) = false := decide_eq_false hk;have HD := zh hd;rw [hct] at HWd;clear hd hct hk
     go_wp2_with fail
     refine (HWd.out w1).mono ?_;rintro e w2 ⟨rfl, rfl⟩
     go_wp2_with fail
     go_ret
     exact ⟨.inr ⟨by rw [HR.out, HD.out]; simp, _, rfl⟩, H1.out.alloc H1.out.size _⟩
 · obtain ⟨h1, _⟩ := HB1.out w1 l1;have H1 := zh h1; have HI := zh hi;clear h1 hi l1
   go_wp2_with fail
   go_ret
   exact ⟨.inr ⟨by rw [HR.out, HI.out]; simp, _, rfl⟩, H1.out⟩
def zig (l : Lbl) : Value := .tuple #[SV (if rightL l then z6e l else []), .bool (rightL l)]
theorem zlg {l : Lbl} (h : rightL l = true) : zig l = .tuple #[SV (z6e l), .bool true] := by unfold zig; rw [h]; rfl
theorem putLV_no {l : Lbl} (h : rightL l = false) : zig l = .tuple #[.string ⟨#[]⟩, .bool false] := by unfold zig; rw [h]; rfl
theorem cells4 (W : World) (n : Nat) (a b c d : Value) {a' b' c' d' : Value} (h0 : W.cell? ⟨n, 0, none⟩ = some a') (h1 : W.cell? ⟨n, 1, none⟩ = some b') (h2 : W.cell? ⟨n, 2, none⟩ = some c') (h3 : W.cell? ⟨n, 3, none⟩ = some d') :
 (W.setCell ⟨n, 0, none⟩ a).cell? ⟨n, 0, none⟩ = some a ∧ ((W.setCell ⟨n, 0, none⟩ a).setCell ⟨n, 1, none⟩ b).cell? ⟨n, 1, none⟩ = some b ∧ (((W.setCell ⟨n, 0, none⟩ a).setCell ⟨n, 1, none⟩ b).setCell ⟨n, 2, none⟩ c).cell? ⟨n, 2, none⟩ = some c ∧ ((((W.setCell ⟨n, 0, none⟩ a).setCell ⟨n, 1, none⟩ b).setCell ⟨n, 2, none⟩ c).setCell ⟨n, 3, none⟩ d).cell? ⟨n, 3, none⟩ = some d := by
 refine ⟨?_, ?_, ?_, ?_⟩
 · simp [go_sem, h0]
 · simp [go_sem, h1]
 · simp [go_sem, h2]
 · simp [go_sem, h3]
theorem z0i {N n : Nat} {w W : World} (h : Below N w W) (hn : N ≤ n) (a b c d : Value) : Below N w ((((W.setCell ⟨n, 0, none⟩ a).setCell ⟨n, 1, none⟩ b).setCell ⟨n, 2, none⟩ c).setCell ⟨n, 3, none⟩ d) :=
 (((h.setCell hn _).setCell hn _).setCell hn _).setCell hn _
structure ItmEnv (w : World) (W : World) (md nm di : zB) : Prop where
 below : Below w.heap.size w W
 r0 : W.heap[w.heap.size]? = some (.cells #[.int .i64 0, .string ⟨#[]⟩, .string ⟨#[]⟩] 126 (0, 0))
 it : W.heap[w.heap.size + 1]? = some (.cells #[.int .i64 0, SV nm, SV di] 126 (0, 0))
 mo : W.heap[w.heap.size + 2]? = some (.cells #[SV md] 9 (0, 0))
 b3 : W.heap[w.heap.size + 3]? = some (.cells #[.int .i64 1] 3 (0, 0))
 b4 : W.heap[w.heap.size + 4]? = some (.cells #[.pointer (some ⟨w.heap.size + 2, 0, none⟩)] 285 (0, 0))
 b5 : W.heap[w.heap.size + 5]? = some (.cells #[.string ⟨#[32]⟩] 9 (0, 0))
 b6 : W.heap[w.heap.size + 6]? = some (.cells #[.string ⟨#[0]⟩] 9 (0, 0))
 b7 : W.heap[w.heap.size + 7]? = some (.cells #[.pointer (some ⟨w.heap.size + 1, 1, none⟩)] 285 (0, 0))
 b8 : W.heap[w.heap.size + 8]? = some (.cells #[.int .i64 64] 3 (0, 0))
 b9 : W.heap[w.heap.size + 9]? = some (.cells #[.pointer (some ⟨w.heap.size + 1, 2, none⟩)] 285 (0, 0))
 b10 : W.heap[w.heap.size + 10]? = some (.cells #[.func (.func 203) #[] #[.pointer (some ⟨w.heap.size + 3, 0, none⟩), .pointer (some ⟨w.heap.size + 4, 0, none⟩)],
  .func (.func 193) #[] #[.pointer (some ⟨w.heap.size + 5, 0, none⟩)],
  .func (.func 204) #[] #[.pointer (some ⟨w.heap.size + 6, 0, none⟩), .pointer (some ⟨w.heap.size + 7, 0, none⟩)],
  .func (.func 203) #[] #[.pointer (some ⟨w.heap.size + 8, 0, none⟩), .pointer (some ⟨w.heap.size + 9, 0, none⟩)]] 283 (0, 0))
theorem z7g {w W W' : World} {tb : Nat} (h : Below w.heap.size w W) (hg : W.grownBy W' (some tb)) (ht : w.heap.size ≤ tb) : Below w.heap.size w W' :=
 h.grown hg h.size (fun k e => by cases e; exact ht)
theorem ItmEnv.mode {w W W' : World} {md nm di x : zB} (h : ItmEnv w W md nm di) (ht : Turned W W' (w.heap.size + 2) 0 (SV x)) : ItmEnv w W' x nm di := by
 have k : ∀ j, j ≠ 2 → ∀ o, W.heap[w.heap.size + j]? = some o → W'.heap[w.heap.size + j]? = some o := fun j hj o ho => (ht.1.block _ (lt_heap ho) (fun e => hj (by simp at e; omega))).trans ho;exact ⟨z7g h.below ht.1 (by omega), k 0 (by omega) _ h.r0, k 1 (by omega) _ h.it, by have := ht.2 _ _ h.mo; simpa using this, k 3 (by omega) _ h.b3, k 4 (by omega) _ h.b4, k 5 (by omega) _ h.b5, k 6 (by omega) _ h.b6, k 7 (by omega) _ h.b7, k 8 (by omega) _ h.b8, k 9 (by omega) _ h.b9, k 10 (by omega) _ h.b10⟩
theorem ItmEnv.nameT {w W W' : World} {md nm di x : zB} (h : ItmEnv w W md nm di) (ht : Turned W W' (w.heap.size + 1) 1 (SV x)) : ItmEnv w W' md x di := by
 have k : ∀ j, j ≠ 1 → ∀ o, W.heap[w.heap.size + j]? = some o → W'.heap[w.heap.size + j]? = some o := fun j hj o ho => (ht.1.block _ (lt_heap ho) (fun e => hj (by simp at e; omega))).trans ho;exact ⟨z7g h.below ht.1 (by omega), k 0 (by omega) _ h.r0, by have := ht.2 _ _ h.it; simpa using this, k 2 (by omega) _ h.mo, k 3 (by omega) _ h.b3, k 4 (by omega) _ h.b4, k 5 (by omega) _ h.b5, k 6 (by omega) _ h.b6, k 7 (by omega) _ h.b7, k 8 (by omega) _ h.b8, k 9 (by omega) _ h.b9, k 10 (by omega) _ h.b10⟩
theorem ItmEnv.idT {w W W' : World} {md nm di x : zB} (h : ItmEnv w W md nm di) (ht : Turned W W' (w.heap.size + 1) 2 (SV x)) : ItmEnv w W' md nm x := by
 have k : ∀ j, j ≠ 1 → ∀ o, W.heap[w.heap.size + j]? = some o → W'.heap[w.heap.size + j]? = some o := fun j hj o ho => (ht.1.block _ (lt_heap ho) (fun e => hj (by simp at e; omega))).trans ho;exact ⟨z7g h.below ht.1 (by omega), k 0 (by omega) _ h.r0, by have := ht.2 _ _ h.it; simpa using this, k 2 (by omega) _ h.mo, k 3 (by omega) _ h.b3, k 4 (by omega) _ h.b4, k 5 (by omega) _ h.b5, k 6 (by omega) _ h.b6, k 7 (by omega) _ h.b7, k 8 (by omega) _ h.b8, k 9 (by omega) _ h.b9, k 10 (by omega) _ h.b10⟩
def itmRel (s0 : zB) : Nat → zB → zB → zB → zB → Prop
 | 0, s, _, _, _ => s = s0
 | 1, s, md, _, _ => ∃ c, s0 = c :: s ∧ md = [c]
 | 2, s, md, _, _ => ∃ c, s0 = c :: 32 :: s ∧ md = [c]
 | 3, s, md, nm, _ => ∃ c q, s0 = c :: 32 :: q ∧ md = [c] ∧ z1u 0 q = some (nm, s)
 | _, s, md, nm, di => ∃ c q r, s0 = c :: 32 :: q ∧ md = [c] ∧ z1u 0 q = some (nm, r) ∧ 64 ≤ r.length ∧ di = r.take 64 ∧ s = r.drop 64
def itmP (w : World) (s0 : zB) (i : Nat) (s : zB) (W : World) : Prop := s.length ≤ 1000000 ∧ ∃ md nm di, ItmEnv w W md nm di ∧ itmRel s0 i s md nm di
def itmF (w : World) (s0 : zB) (_ : Value) (W : World) : Prop := getI s0 = none ∧ Below w.heap.size w W ∧ W.heap[w.heap.size]? = some (.cells #[.int .i64 0, .string ⟨#[]⟩, .string ⟨#[]⟩] 126 (0, 0))
def itmG : Nat → FuncId
 | 0 => 203
 | 1 => 193
 | 2 => 204
 | _ => 203
def itmL (N : Nat) : Nat → Array Value
 | 0 => #[.pointer (some ⟨N + 3, 0, none⟩), .pointer (some ⟨N + 4, 0, none⟩)]
 | 1 => #[.pointer (some ⟨N + 5, 0, none⟩)]
 | 2 => #[.pointer (some ⟨N + 6, 0, none⟩), .pointer (some ⟨N + 7, 0, none⟩)]
 | _ => #[.pointer (some ⟨N + 8, 0, none⟩), .pointer (some ⟨N + 9, 0, none⟩)]
theorem z0v {W : World} {b i : Nat} {cs : Array Value} {t : TypeId} {v : Value} (h : W.heap[b]? = some (.cells cs t (0, 0))) (hv : cs[i]? = some v) : W.cell? ⟨b, i, none⟩ = some v := (cell_of_row W b i cs t (0, 0) h).trans hv
theorem frozen_of {W : World} {b i : Nat} {cs : Array Value} {t : TypeId} (h : W.heap[b]? = some (.cells cs t (0, 0))) : W.frozen? ⟨b, i, none⟩ = false := by
 simp [World.frozen?, h]
theorem itm_step (w : World) (he : Er w) (s0 : zB) : ∀ i s W, i < 4 → itmP w s0 i s W → Calls Tryz.prog (itmG i) (#[.string ⟨s.toArray⟩] ++ itmL w.heap.size i) W (StepPost (itmP w s0 (i + 1)) (itmF w s0)) := by
 have hgl : 4 < w.heap.size := by
  obtain ⟨a, h⟩ := he.wrong; exact World.block_lt_of_cell? w _ h
 intro i s W hi hP;obtain ⟨hs, md, nm, di, E, R⟩ := hP;have heW := he.below E.below
 match i, hi, R with
 | 0, _, R =>
   have e0 : s = s0 := R;subst e0;cases s with
   | nil =>
     refine (zkz [] 1 (by simp) (w.heap.size + 3) _ W (z0v E.b3 rfl) heW).mono ?_;rintro e w' ⟨⟨p, rfl⟩, hb⟩;exact .inr ⟨_, p, rfl, rfl, E.below.trans (hb.mono E.below.size), (hb.block _ (lt_heap E.r0)).trans E.r0⟩
   | cons c s =>
     refine (zgl (c :: s) 1 (by simp) (w.heap.size + 3) (w.heap.size + 4) (w.heap.size + 2) 0 _ W (z0v E.b3 rfl) (z0v E.b4 rfl) (z0v E.mo rfl) (frozen_of E.mo) (by omega)).mono ?_;rintro e w' ⟨rfl, ht⟩;exact .inl ⟨s, rfl, by simp at hs; omega, _, _, _, E.mode ht, c, rfl, rfl⟩
 | 1, _, R =>
   obtain ⟨c, e0, e1⟩ := R;by_cases hp : ([32] : zB).isPrefixOf s = true
   · refine (z8d s [32] (w.heap.size + 5) W (z0v E.b5 rfl) heW hp).mono ?_;rintro e w' ⟨rfl, rfl⟩;obtain ⟨q, hq⟩ := z61.1 hp;refine .inl ⟨q, by rw [hq]; rfl, by rw [hq] at hs; simp at hs; omega, _, _, _, E, c, by rw [e0, hq]; rfl, e1⟩
   · obtain ⟨a, b, _, _, c3⟩ := heW.two;refine (zbo s [32] (w.heap.size + 5) W (z0v E.b5 rfl) _ c3 (Bool.eq_false_iff.2 hp)).mono ?_;rintro e w' ⟨rfl, rfl⟩;refine .inr ⟨_, _, rfl, ?_, E.below.trans ((below_new W _).mono E.below.size), ((below_new W _).block _ (lt_heap E.r0)).trans E.r0⟩;rw [e0];cases s with
     | nil => rfl
     | cons b s =>
       rw [getI, if_neg];intro h; subst h; exact hp (by simp)
 | 2, _, R =>
   obtain ⟨c, e0, e1⟩ := R;cases hc : z1u 0 s with
   | none =>
     obtain ⟨ew, c1⟩ := heW.wrong;refine (zgk s hs 0 (w.heap.size + 6) (w.heap.size + 7) (w.heap.size + 1) 1 _ W (z0v E.b6 rfl) (z0v E.b7 rfl) (z0v E.it rfl) (frozen_of E.it) ew c1 (by omega) hc).mono ?_;rintro e w' ⟨rfl, ht, _⟩;refine .inr ⟨_, _, rfl, ?_, (E.nameT ht).below, (E.nameT ht).r0⟩;rw [e0, getI, if_pos rfl, hc]
   | some p =>
     obtain ⟨a, r⟩ := p;refine (zcr s a r hs 0 (w.heap.size + 6) (w.heap.size + 7) (w.heap.size + 1) 1 _ W (z0v E.b6 rfl) (z0v E.b7 rfl) (z0v E.it rfl) (frozen_of E.it) heW (by omega) hc).mono ?_;rintro e w' ⟨rfl, ht⟩;exact .inl ⟨r, rfl, by have := (z2f hc).1; rw [this] at hs; simp at hs; omega, _, _, _, E.nameT ht, c, s, e0, e1, hc⟩
 | 3, _, R =>
   obtain ⟨c, q, e0, e1, hc⟩ := R;by_cases hl : 64 ≤ s.length
   · refine (zgl s 64 hl (w.heap.size + 8) (w.heap.size + 9) (w.heap.size + 1) 2 _ W (z0v E.b8 rfl) (z0v E.b9 rfl) (z0v E.it rfl) (frozen_of E.it) (by omega)).mono ?_;rintro e w' ⟨rfl, ht⟩;exact .inl ⟨_, rfl, by rw [List.length_drop]; omega, _, _, _, E.idT ht, c, q, s, e0, e1, hc, hl, rfl, rfl⟩
   · refine (zkz s 64 (by omega) (w.heap.size + 8) _ W (z0v E.b8 rfl) heW).mono ?_;rintro e w' ⟨⟨p, rfl⟩, hb⟩;refine .inr ⟨_, p, rfl, ?_, E.below.trans (hb.mono E.below.size), (hb.block _ (lt_heap E.r0)).trans E.r0⟩;rw [e0, getI, if_pos rfl, hc];show (if 64 ≤ s.length then _ else _) = _;rw [if_neg hl]
theorem zih (w : World) (o : Obj) : (w.alloc o).heap = w.heap.push o := rfl
def zlh (o : Option (Itm × zB)) (w : World) (e : Ending) (w' : World) : Prop :=
 (match o with
 | some (x, r) => e = .returned (.tuple #[ItV x, SV r, .nilIface])
 | none => ∃ p, e = .returned (.tuple #[.agg #[.int .i64 0, .string ⟨#[]⟩, .string ⟨#[]⟩], .string ⟨#[]⟩, .iface 232 (.pointer (some p))])) ∧ Below w.heap.size w w'
theorem zli (W : World) (n : Nat) (a b c : Value) {a' b' c' : Value} (h0 : W.cell? ⟨n, 0, none⟩ = some a') (h1 : W.cell? ⟨n, 1, none⟩ = some b') (h2 : W.cell? ⟨n, 2, none⟩ = some c') :
 (W.setCell ⟨n, 0, none⟩ a).cell? ⟨n, 0, none⟩ = some a ∧ ((W.setCell ⟨n, 0, none⟩ a).setCell ⟨n, 1, none⟩ b).cell? ⟨n, 1, none⟩ = some b ∧ (((W.setCell ⟨n, 0, none⟩ a).setCell ⟨n, 1, none⟩ b).setCell ⟨n, 2, none⟩ c).cell? ⟨n, 2, none⟩ = some c := by
 refine ⟨?_, ?_, ?_⟩
 · simp [go_sem, h0]
 · simp [go_sem, h1]
 · simp [go_sem, h2]
theorem cells3 (W : World) (n : Nat) (p : Addr) (x a b c : Value) {a' b' c' : Value} (hp : p.block ≠ n) (h0 : W.cell? ⟨n, 0, none⟩ = some a') (h1 : W.cell? ⟨n, 1, none⟩ = some b') (h2 : W.cell? ⟨n, 2, none⟩ = some c') :
 ((W.setCell p x).setCell ⟨n, 0, none⟩ a).cell? ⟨n, 0, none⟩ = some a ∧ (((W.setCell p x).setCell ⟨n, 0, none⟩ a).setCell ⟨n, 1, none⟩ b).cell? ⟨n, 1, none⟩ = some b ∧ ((((W.setCell p x).setCell ⟨n, 0, none⟩ a).setCell ⟨n, 1, none⟩ b).setCell ⟨n, 2, none⟩ c).cell? ⟨n, 2, none⟩ = some c := by
 have hc : ∀ i, (W.setCell p x).cell? ⟨n, i, none⟩ = W.cell? ⟨n, i, none⟩ := fun i => World.cell?_setCell_far _ _ _ _ hp;exact zli _ n a b c ((hc 0).trans h0) ((hc 1).trans h1) ((hc 2).trans h2)
theorem zd3 (s : zB) (hs : s.length ≤ 1000000) (w : World) (he : Er w) : Calls Tryz.prog 175 #[.string ⟨s.toArray⟩] w (zlh (getI s) w) := by
 have HST := zh (itm_step w he s);have HS := zh hs;clear he hs
 go_enter Tryz.func175, Tryz.ntmps175
 go_wp2_with fail
 refine (zl0 _ _ _).mono ?_;rintro e w1 ⟨rfl, rfl⟩
 go_wp2_with fail
 refine (zbp _ _).mono ?_;rintro e w1 ⟨rfl, rfl⟩
 go_wp2_with fail
 refine (zgm _ _ _).mono ?_;rintro e w1 ⟨rfl, rfl⟩
 go_wp2_with fail
 refine (zl0 _ _ _).mono ?_;rintro e w1 ⟨rfl, rfl⟩
 go_wp2_with fail
 refine (z6i 4 4 (w.heap.size + 10) (by decide) itmG (itmL w.heap.size) (itmP w s) (itmF w s) ?c1 ?c2 HST.out s _ ?c3).mono ?_
 case c1 =>
  rintro i r W hi ⟨_, md, nm, di, E, _⟩;refine z0v E.b10 ?_
  match i, hi with
  | 0, _ => rfl
  | 1, _ => rfl
  | 2, _ => rfl
  | 3, _ => rfl
 case c2 =>
  intro i hi
  match i, hi with
  | 0, _ => exact enters_of Tryz.func203 (by kernel_rfl) rfl
  | 1, _ => exact enters_of Tryz.func193 (by kernel_rfl) rfl
  | 2, _ => exact enters_of Tryz.func204 (by kernel_rfl) rfl
  | 3, _ => exact enters_of Tryz.func203 (by kernel_rfl) rfl
 case c3 =>
  refine ⟨HS.out, [], [], [], ⟨?_, ?_, ?_, ?_, ?_, ?_, ?_, ?_, ?_, ?_, ?_, ?_⟩, rfl⟩
  · refine Below.alloc (Below.alloc (Below.alloc (Below.alloc (Below.alloc (Below.alloc (Below.alloc (Below.alloc (Below.alloc (Below.alloc (Below.alloc (Below.refl _ _) ?_ _) ?_ _) ?_ _) ?_ _) ?_ _) ?_ _) ?_ _) ?_ _) ?_ _) ?_ _) ?_ _ <;> first | omega | (simp only [World.size_alloc]; omega)
  all_goals (simp only [zih, Array.getElem?_push, Array.size_push, Nat.add_assoc, Nat.reduceAdd]; simp [SV])
 rintro e W (⟨r, rfl, _, md, nm, di, E, R⟩ | ⟨r, p, rfl, hg, hb, h0⟩)
 · obtain ⟨c, q, t, e0, e1, hc, hl, rfl, rfl⟩ := R;subst e1
   have hg : getI s = some (⟨(c.toNat : Int) - 48, nm, t.take 64⟩, t.drop 64) := by
    rw [e0, getI, if_pos rfl, hc];show (if 64 ≤ t.length then _ else _) = _;rw [if_pos hl]
   have B := zh E.below;have x0 : W.cell? ⟨w.heap.size + 1, 0, none⟩ = some (.int .i64 0) := z0v E.it rfl;have x1 : W.cell? ⟨w.heap.size + 1, 1, none⟩ = some (SV nm) := z0v E.it rfl;have x2 : W.cell? ⟨w.heap.size + 1, 2, none⟩ = some (SV (t.take 64)) := z0v E.it rfl;have z1 : ∀ i, W.frozen? ⟨w.heap.size + 1, i, none⟩ = false := fun i => frozen_of E.it;have y0 : W.cell? ⟨w.heap.size, 0, none⟩ = some (.int .i64 0) := z0v E.r0 rfl;have y1 : W.cell? ⟨w.heap.size, 1, none⟩ = some (.string ⟨#[]⟩) := z0v E.r0 rfl;have y2 : W.cell? ⟨w.heap.size, 2, none⟩ = some (.string ⟨#[]⟩) := z0v E.r0 rfl;have z0 : ∀ i, W.frozen? ⟨w.heap.size, i, none⟩ = false := fun i => frozen_of E.r0;have m0 : W.cell? ⟨w.heap.size + 2, 0, none⟩ = some (.string ⟨#[c]⟩) := z0v E.mo rfl;have hcl : (c.toNat : Int) < 256 := by have := c.toNat_lt; omega
   have hcl0 : 0 ≤ (c.toNat : Int) := by omega
   have ge : ∀ h, (⟨#[c]⟩ : ByteArray)[0]'h = c := fun _ => rfl;have z00 := z0 0; have z01 := z0 1; have z02 := z0 2; have z10 := z1 0;generalize t.take 64 = di at x2 hg ⊢;generalize t.drop 64 = r at hg ⊢;have HG := zh hg;unfold SV at x1 x2 m0 ⊢;clear E hg hc e0 hl z0 z1;have f0 := cells3 W w.heap.size ⟨w.heap.size + 1, 0, none⟩ (.int .i64 ((c.toNat : Int) - 48)) (.int .i64 ((c.toNat : Int) - 48)) (.string ⟨nm.toArray⟩) (.string ⟨di.toArray⟩) (by simp) y0 y1 y2;obtain ⟨f0, f1, f2⟩ := f0
   go_wp2_with fail
   refine bodyPost_ret (v := .tuple #[.agg #[.int .i64 ((c.toNat : Int) - 48), .string ⟨nm.toArray⟩, .string ⟨di.toArray⟩], .string ⟨r.toArray⟩, .nilIface]) (by simp [results, Tryz.results175, go_sem, f0, f1, f2]) rfl ?_;rw [HG.out];exact ⟨rfl, (((B.out.setCell (Nat.le_add_right _ 1) _).setCell zl _).setCell zl _).setCell zl _⟩
 · obtain ⟨pb, po, ps⟩ := p;have HG := zh hg;have B := zh hb;have y0 : W.cell? ⟨w.heap.size, 0, none⟩ = some (.int .i64 0) := z0v h0 rfl;have y1 : W.cell? ⟨w.heap.size, 1, none⟩ = some (.string ⟨#[]⟩) := z0v h0 rfl;have y2 : W.cell? ⟨w.heap.size, 2, none⟩ = some (.string ⟨#[]⟩) := z0v h0 rfl;have z0 : ∀ i, W.frozen? ⟨w.heap.size, i, none⟩ = false := fun i => frozen_of h0;have z00 := z0 0; have z01 := z0 1; have z02 := z0 2;clear hg hb h0 z0;have f0 := zli W w.heap.size (.int .i64 0) (.string ⟨#[]⟩) (.string ⟨#[]⟩) y0 y1 y2;obtain ⟨f0, f1, f2⟩ := f0
   go_wp2_with fail
   refine bodyPost_ret (v := .tuple #[.agg #[.int .i64 0, .string ⟨#[]⟩, .string ⟨#[]⟩], .string ⟨#[]⟩, .iface 232 (.pointer (some ⟨pb, po, ps⟩))]) (by simp [results, Tryz.results175, go_sem, f0, f1, f2]) rfl ?_;rw [HG.out];exact ⟨⟨_, rfl⟩, ((B.out.setCell zl _).setCell zl _).setCell zl _⟩
theorem zgu {s r : zB} {x : Itm} (h : getI s = some (x, r)) : r.length < s.length ∧ x.name.length ≤ s.length ∧ x.id.length ≤ s.length := by
 match s, h with
 | m :: b :: s, h =>
   rw [getI] at h;by_cases hb : b = 32
   · rw [if_pos hb] at h;cases hc : z1u 0 s with
     | none => rw [hc] at h; cases h
     | some p =>
       obtain ⟨a, q⟩ := p;rw [hc] at h;simp only at h;by_cases hq : 64 ≤ q.length
       · rw [if_pos hq] at h;simp only [Option.some.injEq, Prod.mk.injEq] at h;obtain ⟨rfl, rfl⟩ := h;obtain ⟨e, _⟩ := z2f hc;subst e;simp;omega
       · rw [if_neg hq] at h; cases h
   · rw [if_neg hb] at h; cases h
 | [], h => cases h
 | [_], h => cases h
def TrPost (o : Option (List Itm)) (w : World) (e : Ending) (w' : World) : Prop :=
 ((∃ v l, o = some l ∧ e = .returned (.tuple #[v, .nilIface]) ∧ ItmsR w' v l ∧ l.length ≤ 256) ∨
  (∃ v l p, o = none ∧ e = .returned (.tuple #[v, .iface 232 (.pointer (some p))]) ∧ ItmsR w' v l ∧ l.length ≤ 257)) ∧ Below w.heap.size w w'
def TrRel (s : zB) (w : World) (r : zB) (v : Value) (l : List Itm) (wr : World) : Prop :=
 OwK 126 3 itmC wr w.heap.size v l ∧ Below w.heap.size w wr ∧ l.length ≤ 257 ∧ Smalls l ∧ z48 257 s = (z48 (257 - l.length) r).map fun p => (l ++ p.1, p.2)
def lenV : Value → Nat
 | .string b => b.size
 | _ => 0
theorem TrRel.start (s : zB) (w : World) : TrRel s w s (.slice none 0 0) [] w :=
 ⟨OwK.nil _ _ _ _ _, Below.refl _ _, by simp, fun x hx => by simp at hx, by simp⟩
theorem TrRel.ends {s r : zB} {w wr : World} {v : Value} {l : List Itm} (h : TrRel s w r v l wr) (he : r = [] ∨ l.length = 257) : getT s = if z0k l then some l else none := by
 have e : ∃ q, z48 257 s = some (l, q) := by
  rcases he with rfl | he
  · rw [h.2.2.2.2];cases hf : 257 - l.length with
    | zero => exact ⟨[], by simp [z48]⟩
    | succ n => exact ⟨[], by simp [z48]⟩
  · rw [h.2.2.2.2, he]; exact ⟨r, by simp [z48]⟩
 obtain ⟨q, hq⟩ := e;unfold getT; rw [hq]
theorem TrRel.fails {s : zB} {c : UInt8} {r : zB} {w wr : World} {v : Value} {l : List Itm} (h : TrRel s w (c :: r) v l wr) (hl : l.length ≤ 256) (he : getI (c :: r) = none) : getT s = none := by
 unfold getT;rw [h.2.2.2.2];obtain ⟨n, hn⟩ : ∃ n, 257 - l.length = n + 1 := ⟨256 - l.length, by omega⟩
 rw [hn, z48, he]; rfl
theorem TrRel.step {s : zB} {c : UInt8} {r q : zB} {w wr w1 w2 : World} {v v' : Value} {l : List Itm} {x : Itm} (h : TrRel s w (c :: r) v l wr) (hl : l.length ≤ 256) (hs : (c :: r).length ≤ 1000000) (he : getI (c :: r) = some (x, q))
 (ho : OwK 126 3 itmC w2 w.heap.size v' (l ++ [x])) (h1 : Below w.heap.size w w1) (h2 : Below w.heap.size w1 w2) : TrRel s w q v' (l ++ [x]) w2 := by
 refine ⟨ho, h1.trans h2, by simp; omega, ?_, ?_⟩
 · intro y hy;rcases List.mem_append.1 hy with hy | hy
   · exact h.2.2.2.1 y hy
   · have e : y = x := by simpa using hy
     have hg := zgu he;subst e;exact ⟨by omega, by omega⟩
 · rw [h.2.2.2.2];obtain ⟨n, hn⟩ : ∃ n, 257 - l.length = n + 1 := ⟨256 - l.length, by omega⟩
   have hn2 : 257 - (l ++ [x]).length = n := by simp; omega
   rw [hn, hn2, z48, he];show ((z48 n q).map _).map _ = _;rw [Option.map_map]
   congr 1
   funext p;simp
theorem zd4 (s : zB) (hs : s.length ≤ 1000000) (w : World) (he : Er w) (ht : Tb w) : Calls Tryz.prog 168 #[.string ⟨s.toArray⟩] w (TrPost (getT s) w) := by
 have HE := zh he; have HT := zh ht; have HS := zh hs;clear he ht hs
 go_enter Tryz.func168, Tryz.ntmps168
 go_wp2_with fail
 go_loopw [0, 4] (fun vs vl wr => ∃ (r : zB) (l : List Itm), vs = .string ⟨r.toArray⟩ ∧ Hid (r.length ≤ 1000000) ∧ Hid (TrRel s w r vl l wr)) (fun vs _ _ => lenV vs)
 case atStart => exact ⟨s, [], rfl, HS, zh (TrRel.start s w)⟩
 case round =>
  obtain ⟨r, l, rfl, hr, hrel⟩ := hrel;have hll := hrel.out.2.2.1;have hB := hrel.out.2.1;have hR := hrel.out.1.rd zbl;obtain ⟨A, cc, e0⟩ := hR.shape;subst e0;have HRd := zh hR;have HB := zh hB;have heR := HE.out.below hB;have htR := HT.out.below hB;have HEr := zh heR;have HTr := zh htR;clear hR hB heR htR;by_cases hgo : r ≠ [] ∧ l.length ≤ 256
  · obtain ⟨hne, hl⟩ := hgo;cases r with
    | nil => exact absurd rfl hne
    | cons c r =>
    have hri := zd3 (c :: r) hr.out wr HEr.out;have hl2 : (l.length : Int) ≤ 256 := by omega
    cases hg : getI (c :: r) with
    | none =>
      rw [hg] at hri;have HRI := zh hri;have HF := zh (hrel.out.fails hl hg);clear hri hne hg
      go_wp2_with fail
      refine HRI.out.mono ?_;rintro e w1 ⟨⟨p, rfl⟩, l1⟩;have hit := zgq l.length (by omega) (w1.alloc (.cells #[.int .i64 0, .string ⟨#[]⟩, .string ⟨#[]⟩] 126)) (HTr.out.below (l1.alloc l1.size _));have HIT := zh hit;have L1 := zh ((HB.out.trans (l1.mono HB.out.size)).alloc (Nat.le_trans HB.out.size l1.size) (.cells #[.int .i64 0, .string ⟨#[]⟩, .string ⟨#[]⟩] 126));clear hit l1
      go_wp2_with fail
      refine HIT.out.mono ?_;rintro e w2 ⟨⟨sx, rfl⟩, l2⟩;have L2 := zh (L1.out.trans (l2.mono L1.out.size));clear l2
      go_wp2_with fail
      go_ret2
      exact ⟨.inr ⟨_, [], _, HF.out, rfl, .inl ⟨⟨_, _, rfl⟩, rfl⟩, by simp⟩, L2.out.alloc L2.out.size _⟩
    | some p =>
      obtain ⟨x, q⟩ := p;rw [hg] at hri;have HRI := zh hri;have hgl := zgu hg;have HG := zh hg;have HL := zh hgl;obtain ⟨m, nm, di⟩ := x;unfold zlh ItV SV at HRI;clear hri hne hg hgl
      go_wp2_with fail
      refine HRI.out.mono ?_;rintro e w1 ⟨rfl, l1⟩;have L1 := zh ((HB.out.trans (l1.mono HB.out.size)).alloc (Nat.le_trans HB.out.size l1.size) (.cells #[.int .i64 m, .string ⟨nm.toArray⟩, .string ⟨di.toArray⟩] 126));have HO := zh ((hrel.out.1.below l1 zl).below (below_new w1 (.cells #[.int .i64 m, .string ⟨nm.toArray⟩, .string ⟨di.toArray⟩] 126)) zl);clear l1
      go_wp2_with (at_builtin; refine z0z itmK rfl _ _ rfl w.heap.size (.slice A l.length cc) l ⟨m, nm, di⟩ _ rfl rfl (by simp [go_sem]) HO.out ?c1 (by decide) ?c2 ?_)
      case c1 => omega
      case c2 => exact L1.out.size
      intro v' w2 ho2 hb2;have HR2 := zh (hrel.out.step hl hr.out HG.out ho2 L1.out hb2);clear ho2 hb2
      go_wp2_with fail
      go_roundw
      case rel => exact ⟨q, l ++ [⟨m, nm, di⟩], rfl, zh (by have := hr.out; have := HL.out.1; omega), HR2⟩
      case measure => exact HL.out.1
  · have hend : r = [] ∨ l.length = 257 := by
     by_cases hr0 : r = []
     · exact .inl hr0
     · right;by_cases h : l.length ≤ 256
       · exact absurd ⟨hr0, h⟩ hgo
       · omega
    have hge := hrel.out.ends hend;have hsm := hrel.out.2.2.2.1;have hck := zbs l (.slice A l.length cc) wr HRd.out hsm (by omega) HEr.out HTr.out;have HC := zh hck; have HG := zh hge;have hlq : z0k l = true → l.length ≤ 256 := fun h => (z0w.1 h).1;have HLQ := zh hlq;clear hge hsm hck hgo hlq
    have hout : ∀ (e : Ending) (w1 : World), CkPost (z0k l) wr e w1 → ∃ ev, e = .returned ev ∧ TrPost (getT s) w (.returned (.tuple #[.slice A l.length cc, ev])) w1 := by
     rintro e w1 ⟨⟨h1, rfl⟩ | ⟨h1, p, rfl⟩, l1⟩
     · exact ⟨_, rfl, .inl ⟨_, l, by rw [HG.out, h1]; rfl, rfl, HRd.out.below l1 zl, HLQ.out h1⟩, HB.out.trans (l1.mono HB.out.size)⟩
     · exact ⟨_, rfl, .inr ⟨_, l, p, by rw [HG.out, h1]; rfl, rfl, HRd.out.below l1 zl, hll⟩, HB.out.trans (l1.mono HB.out.size)⟩
    have HOUT := zh hout;clear hout hrel;rcases hend with rfl | hl
    · go_wp2_with fail
      refine HC.out.mono ?_;intro e w1 h1;obtain ⟨ev, rfl, h2⟩ := HOUT.out e w1 h1;have H2 := zh h2;clear h1 h2
      go_wp2_with fail
      go_ret2
      exact H2.out
    · have hl2 : ¬ (l.length : Int) ≤ 256 := by omega
      clear hl;cases r with
      | nil =>
        go_wp2_with fail
        refine HC.out.mono ?_;intro e w1 h1;obtain ⟨ev, rfl, h2⟩ := HOUT.out e w1 h1;have H2 := zh h2;clear h1 h2
        go_wp2_with fail
        go_ret2
        exact H2.out
      | cons c r =>
        go_wp2_with fail
        refine HC.out.mono ?_;intro e w1 h1;obtain ⟨ev, rfl, h2⟩ := HOUT.out e w1 h1;have H2 := zh h2;clear h1 h2
        go_wp2_with fail
        go_ret2
        exact H2.out
def GtPost (o : Option (List Itm)) (w : World) (e : Ending) (w' : World) : Prop :=
 (∃ v l, e = .returned (.tuple #[v, .bool o.isSome]) ∧ ItmsR w' v l ∧ l = o.getD []) ∧ Below w.heap.size w w'
def Fr (n : Nat) (v : Value) : Prop := ∀ g, v.ownBlock = some g → n ≤ g
theorem Fr.mono {n m : Nat} {v : Value} (h : Fr n v) (hm : m ≤ n) : Fr m v := fun g hg => Nat.le_trans hm (h g hg)
theorem Fr.nil (n a c : Nat) : Fr n (.slice none a c) := fun _ h => by cases h
theorem OwK.fr {α : Type} {t : TypeId} {k : Nat} {f : α → List Value} {w : World} {base n : Nat} {v : Value} {l : List α} (h : OwK t k f w base v l) (hn : n ≤ base) : Fr n v := fun g hg => by
 rcases h.2 with ⟨rfl, _⟩ | ⟨g', _, _, rfl, hb, _⟩
 · cases hg
 · cases hg; exact Nat.le_trans hn hb
def WtPost (o : Option (List (zB × Int))) (w : World) (e : Ending) (w' : World) : Prop :=
 ((∃ v l, o = some l ∧ e = .returned (.tuple #[v, .nilIface]) ∧ zcn w' v l ∧ l.length ≤ 256 ∧ Fr w.heap.size v) ∨ (o = none ∧ ∃ A n c p, e = .returned (.tuple #[.slice A n c, .iface 232 (.pointer (some p))]))) ∧ Below w.heap.size w w'
def TwRel (l : List Itm) (w1 : World) (k : Nat) (v : Value) (wr : World) : Prop :=
 OwK 266 2 z8t wr w1.heap.size v ((l.take k).map z7b) ∧ Below w1.heap.size w1 wr
theorem TwRel.step {l : List Itm} {w1 w2 w3 : World} {k : Nat} {v' : Value} {x : Itm} {ns : List (zB × Int)} {y : zB × Int} (hns : ns = (l.take k).map z7b) (hk : k < l.length) (hx : x = l.getD k z1c) (hy : y = z7b x)
 (ho : OwK 266 2 z8t w3 w1.heap.size v' (ns ++ [y])) (h1 : Below w1.heap.size w1 w2) (h2 : Below w1.heap.size w2 w3) : TwRel l w1 (k + 1) v' w3 := by
 refine ⟨?_, h1.trans h2⟩;rw [z0l l z1c k hk, List.map_append, ← hns, ← hx];subst hy;exact ho
theorem zbu (s : zB) (hs : s.length ≤ 1000000) (w : World) (he : Er w) (ht : Tb w) :
 Calls Tryz.prog 155 #[.string ⟨s.toArray⟩] w (WtPost ((getT s).map fun l => l.map z7b) w) := by
 have hret : Calls Tryz.prog 168 #[.string ⟨s.toArray⟩] w fun e w1 => ∃ A c l ev, e = .returned (.tuple #[.slice A (l : List Itm).length c, ev]) ∧ l.length ≤ 257 ∧ ItmsR w1 (.slice A l.length c) l ∧ Below w.heap.size w w1 ∧
  ∀ v w2, zcn w2 v (l.map z7b) → Fr w.heap.size v → Below w.heap.size w w2 → WtPost ((getT s).map fun l => l.map z7b) w (.returned (.tuple #[v, ev])) w2 := by
  refine (zd4 s hs w he ht).mono ?_;rintro e w1 ⟨⟨v, l, hg, rfl, hi, hn⟩ | ⟨v, l, p, hg, rfl, hi, hn⟩, l1⟩
  · obtain ⟨A, c, rfl⟩ := hi.shape;exact ⟨A, c, l, _, rfl, by omega, hi, l1, fun v w2 h1 hf h2 => ⟨.inl ⟨v, _, by rw [hg]; rfl, rfl, h1, by rw [List.length_map]; exact hn, hf⟩, h2⟩⟩
  · obtain ⟨A, c, rfl⟩ := hi.shape;refine ⟨A, c, l, _, rfl, hn, hi, l1, fun v w2 h1 _ h2 => ⟨.inr ⟨by rw [hg]; rfl, ?_⟩, h2⟩⟩;obtain ⟨A2, c2, rfl⟩ := h1.shape;exact ⟨_, _, _, p, rfl⟩
 have HT := zh hret;clear hret he ht hs
 go_enter Tryz.func155, Tryz.ntmps155
 go_wp2_with fail
 refine HT.out.mono ?_;rintro e w1 ⟨A, c, l, ev, rfl, hl, hr, l1, hout⟩;have HR := zh hr; have L1 := zh l1; have HO := zh hout; have HL := zh hl;clear hr l1 hout hl
 go_wp2_with fail
 go_loopw [6, 17] (fun vl vi wr => ∃ k : Nat, k ≤ l.length ∧ vi = .int .i64 k ∧ Hid (TwRel l w1 k vl wr)) (fun _ vi _ => l.length - (intOf vi).toNat)
 case atStart => exact ⟨0, Nat.zero_le _, rfl, zh ⟨OwK.nil _ _ _ _ _, Below.refl _ _⟩⟩
 case round =>
  obtain ⟨k, hk, rfl, hrel⟩ := hrel;by_cases hlt : k < l.length
  · obtain ⟨g, o, c', e, _, hg⟩ := HR.out.pos (by omega);cases e;obtain ⟨c0, c1, c2⟩ := ItmsR.cells (HR.out.below hrel.out.2 zl) k hlt;obtain ⟨x, hx⟩ := zx (l.getD k z1c);rw [← hx] at c0 c1 c2;have HX := zh hx;obtain ⟨m, nm, di⟩ := x;unfold SV at c1 c2;simp only at c0 c1 c2;obtain ⟨ns, hns⟩ := zx ((l.take k).map z7b);have hown := hrel.out.1.below (below_new wr (.cells #[.int .i64 m, .string ⟨nm.toArray⟩, .string ⟨di.toArray⟩] 126)) zl;rw [← hns] at hown;have HN := zh hns; have HOw := zh hown;have hnl : ns.length ≤ 257 := by rw [hns, List.length_map, List.length_take]; have := HL.out; omega
    have HNL := zh hnl;have B1 := zh (hrel.out.2.alloc hrel.out.2.size (.cells #[.int .i64 m, .string ⟨nm.toArray⟩, .string ⟨di.toArray⟩] 126));clear hx hns hown hnl;by_cases hm : m = 3
    · subst hm
      go_wp2_with (at_builtin; refine z0z wantK rfl _ _ rfl w1.heap.size u6 ns (di, 2) _ rfl rfl (by simp [go_sem]) HOw.out ?c1 (by decide) ?c2 ?_)
      case c1 => have := HNL.out; omega
      case c2 => exact B1.out.size
      intro v' w2 ho2 hb2;have HR2 := zh (TwRel.step HN.out hlt HX.out (by simp [z7b]) ho2 B1.out hb2);clear ho2 hb2;have hL := HL.out;have eL : IntKind.i64.wrap ((k : Int) + 1) = ((k + 1 : Nat) : Int) := by rw [IntWalk.i64_in _ (by omega)]; omega
      go_wp2_with fail
      go_roundw
      case rel => exact ⟨k + 1, by omega, by go_num, HR2⟩
      case measure => simp [intOf]; omega
    · go_wp2_with (at_builtin; refine z0z wantK rfl _ _ rfl w1.heap.size u6 ns (di, 1) _ rfl rfl (by simp [go_sem]) HOw.out ?c1 (by decide) ?c2 ?_)
      case c1 => have := HNL.out; omega
      case c2 => exact B1.out.size
      intro v' w2 ho2 hb2;have HR2 := zh (TwRel.step HN.out hlt HX.out (by simp [z7b, hm]) ho2 B1.out hb2);clear ho2 hb2;have hL := HL.out;have eL : IntKind.i64.wrap ((k : Int) + 1) = ((k + 1 : Nat) : Int) := by rw [IntWalk.i64_in _ (by omega)]; omega
      go_wp2_with fail
      go_roundw
      case rel => exact ⟨k + 1, by omega, by go_num, HR2⟩
      case measure => simp [intOf]; omega
  · obtain rfl : k = l.length := by omega
    have h0 := hrel.out;unfold TwRel at h0;rw [List.take_length] at h0;have HF := zh (HO.out _ wr (h0.1.rd z6g) (h0.1.fr L1.out.size) (L1.out.trans (h0.2.mono L1.out.size)));clear h0
    go_wp2_with fail
    go_ret2
    exact HF.out
end Go.Proofs.YtgjddkeogboojaaGreatDoor
