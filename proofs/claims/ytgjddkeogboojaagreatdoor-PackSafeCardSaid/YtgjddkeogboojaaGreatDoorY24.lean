/-
  Is it too much? The document's Same. Right, Whole. Plain: what the head's calls answer; deltas that stand on one another; a delta of nobody's. The document's inserts. What steps say. The document's longest.
-/
import Derived.BigQuiet
import Derived.Test.YtgjddkeogboojaaGreatDoorY23
import Derived.Test.YtgjddkeogboojaaGreatDoorY20
import Derived.Deep.QuietTactic
import Derived.Laws.StructEq
import Derived.Test.YtgjddkeogboojaaGreatDoorY13
import Derived.Deep.CutRange
import Derived.Test.YtgjddkeogboojaaGreatDoorY17
import Derived.Test.YtgjddkeogboojaaGreatDoorY21
set_option maxHeartbeats 16000000
set_option maxRecDepth 100000
namespace Go.Proofs.YtgjddkeogboojaaGreatDoor.Pk
open Go.Proofs.YtgjddkeogboojaaGreatDoor
open Go Go.RowKit
def ze5 (x : Ent) : Nat := x.data.length + x.base.length
def zc3 (l : List Ent) : Nat := (l.map ze5).sum
def SmallE (l : List Ent) : Prop := 10 * l.length + zc3 l < 9000
def znw (x : Ent) : Nat := min x.data.length 9000 + min x.base.length 9000
def z1z (l : List Ent) : Nat := (l.map znw).sum
theorem zfv {l : List Ent} {k : Nat} (h : k < l.length) : z1z (l.take (k + 1)) = z1z (l.take k) + znw (l.getD k z0p) := by
 rw [z0l l z0p k h]; simp [z1z]
theorem znx {l : List Ent} (h : 10 * l.length + z1z l < 9000) : SmallE l := by
 unfold SmallE
 have : zc3 l = z1z l := by
  have h2 : z1z l < 9000 := by omega
  clear h;unfold zc3 z1z at *
  induction l with
  | nil => rfl
  | cons x l ih =>
    simp only [List.map_cons, List.sum_cons] at h2 ⊢;rw [ih (by omega)];have : znw x = ze5 x := by unfold znw ze5 at *; omega
    omega
 omega
theorem cost_le {l : List Ent} {x : Ent} (h : x ∈ l) : ze5 x ≤ zc3 l := by
 unfold zc3
 induction l with
 | nil => cases h
 | cons y r ih =>
   simp only [List.map_cons, List.sum_cons];rcases List.mem_cons.1 h with rfl | h
   · omega
   · have := ih h; omega
theorem SmallE.mem {l : List Ent} (h : SmallE l) {x : Ent} (hx : x ∈ l) : x.data.length < 9000 ∧ x.base.length < 9000 := by
 have := cost_le hx;unfold SmallE at h; unfold ze5 at this;omega
theorem SmallE.len {l : List Ent} (h : SmallE l) : l.length < 900 := by unfold SmallE at h; omega
theorem SmallE.smal {l : List Ent} (h : SmallE l) : Smal l := ⟨by have := h.len; omega, fun e he => by have := h.mem he; omega⟩
theorem entB_len {e : Ent} (h1 : e.data.length ≤ 65536) (h2 : e.back ≤ 1099511627776) : (entB e).length ≤ 13 + ze5 e := by
 unfold entB ze5;have a := Dl.putL_len6 (n := e.data.length) (by omega);have b := Dl.putL_len6 (n := e.back.toNat) (by omega);simp only [List.length_cons, List.length_append];split <;> simp <;> omega
theorem ze6 : ∀ {l : List Ent}, (∀ e ∈ l, e.data.length ≤ 65536 ∧ e.back ≤ 1099511627776) → (z2x l).length ≤ 13 * l.length + zc3 l
 | [], _ => by simp [z2x]
 | e :: l, h => by
   rw [z3v, List.length_append];have h1 := entB_len (h e (by simp)).1 (h e (by simp)).2;have h2 := ze6 (l := l) fun x hx => h x (by simp [hx]);unfold zc3 at *;simp only [List.map_cons, List.sum_cons, List.length_cons];omega
theorem ze7 {l : List Ent} (hr : rightL l = true) : (z23 l).length ≤ 42 + 13 * l.length + zc3 l ∧ 36 < (z23 l).length := by
 have h1 := ze6 (l := l) fun e he => ⟨(z6c hr e he).2.1, (z6c hr e he).2.2⟩
 have h2 := Dl.putL_len6 (n := l.length) (by have := (z0h.1 hr).1; omega)
 have h3 : 0 < (Dl.putL l.length).length := by
  rw [Dl.putL]; split <;> simp
 unfold z23 z1t;have h4 : ∀ x : Bs, (sumL x).length = 32 := z11;simp only [List.length_append, h4];have h5 : magicL.length = 4 := rfl;omega
theorem zb7 {l : List Ent} (h : SmallE l) (hr : rightL l = true) : (z23 l).length ≤ 40000 := by
 have := (ze7 hr).1;unfold SmallE at h;omega
theorem zjb {w : World} {v : Value} {l : List Ent} (h : EntsR w v l) (hl : l.length ≤ limW) : Calls Tryz.prog 11 #[v] w (zdw (SmallE l) w) := by
 obtain ⟨A, c, rfl⟩ := h.shape;have Hx := zh h; clear h;have hl' : l.length ≤ 140737488355328 := hl;clear hl
 go_enter Tryz.func11, Tryz.ntmps11
 go_wp2_with fail
 go_loopw [3, 4] (fun n i wr => Below w.heap.size w wr ∧ ∃ k : Nat, k ≤ l.length ∧ i = .int .i64 k ∧ n = .int .i64 ((10 * l.length + z1z (l.take k) : Nat) : Int) ∧ 10 * l.length + z1z (l.take k) ≤ 10000000000000000) (fun _ i _ => l.length - (intOf i).toNat)
 case atStart => exact ⟨Below.refl _ _, 0, Nat.zero_le _, rfl, by simp [z1z], by simp [z1z]; omega⟩
 case round =>
  obtain ⟨hB, k, hk, rfl, rfl, hN⟩ := hrel;by_cases hlt : k < l.length
  · by_cases hn : 10 * l.length + z1z (l.take k) < 9000
    · obtain ⟨g, o, c', e, _, hg⟩ := Hx.out.pos (by omega);cases e;obtain ⟨c0, c1, c2, c3⟩ := EntsR.cells (Hx.out.below hB zl) k hlt;have hc := zfv hlt;obtain ⟨x, hx⟩ := zx (l.getD k z0p);rw [← hx] at c0 c1 c2 c3 hc;obtain ⟨ek, eb, nm, di⟩ := x;unfold SV at c2 c3;simp only at c0 c1 c2 c3;unfold znw at hc;simp only at hc;have hrel' : 10 * l.length + z1z (l.take (k + 1)) ≤ 10000000000000000 := by rw [hc]; omega
      have m1 : (10 * (l.length : Int) + z1z (l.take k) + min (di.length : Int) 9000 + min (nm.length : Int) 9000) = ((10 * l.length + z1z (l.take (k + 1)) : Nat) : Int) := by
       rw [hc];omega
      have Hr := zh hrel'; have M1 := zh m1; have HB := zh hB; have Hc := zh hc;clear hc hrel' m1 hB hx c1 c0
      go_wp2_with fail
      go_quiet (fail)
      go_wp2_with fail
      go_roundw
      case rel => exact ⟨z7y HB.out _, k + 1, hlt, by go_num, by rw [M1.out], Hr.out⟩
      case measure => simp [intOf]; omega
    · have hnI : ¬ (10 * (l.length : Int) + z1z (l.take k) < 9000) := by omega
      have hgI : (9000 : Int) ≤ 10 * (l.length : Int) + z1z (l.take k) := by omega
      have HB := zh hB; clear hB
      go_wp2_with fail
      go_ret
      exact ⟨true, by simp, HB.out, fun h => by cases h⟩
  · obtain rfl : k = l.length := by omega
    rw [List.take_length] at hN;have HB := zh hB; clear hB;rw [List.take_length];by_cases hn : 10 * l.length + z1z l < 9000
    · have hnI : ¬ ((9000 : Int) ≤ 10 * (l.length : Int) + z1z l) := by omega
      have Hs := zh (znx hn)
      go_wp2_with fail
      go_ret
      exact ⟨_, rfl, HB.out, fun _ => Hs.out⟩
    · have hnI : (9000 : Int) ≤ 10 * (l.length : Int) + z1z l := by omega
      go_wp2_with fail
      go_ret
      exact ⟨true, by simp, HB.out, fun h => by cases h⟩
end Go.Proofs.YtgjddkeogboojaaGreatDoor.Pk
namespace Go.Proofs.YtgjddkeogboojaaGreatDoor.Pk
open Go.Proofs.YtgjddkeogboojaaGreatDoor
open Go Go.RowKit Go.Maps
theorem zjc {w : World} {v : Value} {l : List Ent} (h : EntsR w v l) (hs : Smal l) : Calls Tryz.prog 16 #[v] w (z06 (.bool (rightL l)) w) := by
 have HC := zh (z54 h hs 1);obtain ⟨A, c, rfl⟩ := h.shape;clear h hs;have q1 : ∀ (W : World), (binOp .eql 64 .nilIface .nilIface).run Tryz.prog W = .ok (.bool true) W := fun W => by go_simp
 have q2 : ∀ (v : Value) (W : World), (binOp .eql 64 (.iface 107 v) .nilIface).run Tryz.prog W = .ok (.bool false) W := fun v W => by go_simp
 go_enter Tryz.func16, Tryz.ntmps16
 go_wp2_with fail
 refine HC.out.mono ?_;rintro e w1 ⟨b1, ⟨hr, rfl⟩ | ⟨hr, ev, rfl, hf⟩⟩
 · have HB := zh b1; have Hr := zh hr;clear b1 hr HC
   go_wp2_with fail
   go_ret
   rw [Hr.out];exact ⟨rfl, HB.out⟩
 · obtain ⟨a, rfl⟩ := z1e hf;have HB := zh b1; have Hr := zh hr;clear b1 hr hf HC
   go_wp2_with fail
   go_ret
   rw [Hr.out];exact ⟨rfl, HB.out⟩
def entH (x : Hld) : Ent := ⟨x.kind, 0, [], x.data⟩
theorem zny {w : World} {v : Value} {l : List Hld} (h : HldsR w v l) (hl : l.length ≤ 100000) : Calls Tryz.prog 20 #[v] w fun e w' => ∃ u, e = .returned u ∧ NewE w.heap.size w' u (l.map entH) ∧ Below w.heap.size w w' := by
 obtain ⟨A, c, rfl⟩ := h.shape;have Hx := zh h; clear h
 go_enter Tryz.func20, Tryz.ntmps20
 go_wp2_with fail
 have HN0 : Hid (NewE w.heap.size w (.slice none 0 0) ((l.take 0).map entH)) := zh (OwK.nil _ _ _ _ _)
 go_loopw [3, 8] (fun z i wr => Hid (Below w.heap.size w wr) ∧ ∃ k : Nat, k ≤ l.length ∧ i = .int .i64 k ∧ Hid (NewE w.heap.size wr z ((l.take k).map entH))) (fun _ i _ => l.length - (intOf i).toNat)
 case atStart => exact ⟨zh (Below.refl _ _), 0, Nat.zero_le _, rfl, HN0⟩
 case round =>
  obtain ⟨hB, k, hk, rfl, hN⟩ := hrel;by_cases hlt : k < l.length
  · obtain ⟨g, o, c', e, _, hg⟩ := Hx.out.pos (by omega);cases e;obtain ⟨p0, p1, p2⟩ := HldsR.cells (Hx.out.below hB.out zl) k hlt;have htk := z0l l z05 k hlt;obtain ⟨x, hx⟩ := zx (l.getD k z05);rw [← hx] at p0 p1 p2 htk;obtain ⟨xi, xk, xd⟩ := x;unfold SV at p0 p2;simp only at p0 p1 p2;obtain ⟨w4, hw4⟩ := zx (wr.alloc (.cells #[.string ⟨xi.toArray⟩, .int .i64 xk, .string ⟨xd.toArray⟩] 47));have b4 : Below wr.heap.size wr w4 := by rw [hw4]; exact below_new wr _
    have km4 : w4.heap[wr.heap.size]? = some (.cells #[.string ⟨xi.toArray⟩, .int .i64 xk, .string ⟨xd.toArray⟩] 47 (0, 0)) := by rw [hw4]; exact heap_alloc_new wr _
    have x0 := (cell_of_row w4 _ 0 _ _ _ km4).trans rfl;have x1 := (cell_of_row w4 _ 1 _ _ _ km4).trans rfl;have x2 := (cell_of_row w4 _ 2 _ _ _ km4).trans rfl;obtain ⟨zs, hzs⟩ := zx ((l.take k).map entH);have hN4 : NewE w.heap.size w4 u3 ((l.take k).map entH) := OwK.below hN.out b4 zl;have hzl : zs.length ≤ 100000 := by rw [hzs, List.length_map, List.length_take]; omega
    have hz2 : (l.take (k + 1)).map entH = zs ++ [⟨xk, 0, [], xd⟩] := by rw [htk, hzs, List.map_append]; rfl
    rw [← hzs] at hN4;have HW4 := zh hw4; have HN4 := zh hN4; have HZ := zh hz2; have HZl := zh hzl;have HB4 := zh (hB.out.trans (b4.mono hB.out.size));clear hw4 b4 km4 hx hzs hN4 hN hz2 hzl htk hB
    go_upto_region 5 with fail
    rw [← HW4.out];clear HW4 p0 p1 p2
    go_wp2_with (at_builtin; refine z0z entK rfl _ _ rfl w.heap.size u3 zs ⟨xk, 0, [], xd⟩ _ rfl rfl (by simp [go_sem]) HN4.out ?c1 (by decide) ?c2 ?_)
    case c1 => have := HZl.out; omega
    case c2 => exact HB4.out.size
    intro z' w6 hN6 hb6;have HN6 := zh hN6;have HB6 : Hid (Below w.heap.size w w6) := zh (HB4.out.trans hb6);clear hN6 hb6
    go_wp2_with fail
    go_roundw
    case rel => exact ⟨HB6, k + 1, hlt, by go_num, zh (by rw [HZ.out]; exact HN6.out)⟩
    case measure => simp [intOf]; omega
  · obtain rfl : k = l.length := by omega
    rw [List.take_length] at hN
    go_wp2_with fail
    go_ret
    exact ⟨_, rfl, hN.out, hB.out⟩
end Go.Proofs.YtgjddkeogboojaaGreatDoor.Pk
namespace Go.Proofs.YtgjddkeogboojaaGreatDoor.Pk
open Go.Proofs.YtgjddkeogboojaaGreatDoor
open Go Go.RowKit
theorem zb8 {s : Bs} (h : s.length ≤ 65536) : (z0g 1 s).isSome = true := by
 unfold z0g;rw [if_neg (by omega)];rfl
def z1p (s d : Bs) (n : Nat) : List Ent := ⟨1, 0, [], s⟩ :: List.replicate n ⟨6, 1, [], d⟩
def z5c (s t : Bs) (n : Nat) : List Md := ⟨true, 1, s, 0⟩ :: (List.range n).map fun i => ⟨true, 1, t, i + 1⟩
theorem z7l (s d : Bs) (n : Nat) : (z1p s d n).length = n + 1 := by simp [z1p]
theorem zb9 (s t : Bs) (n : Nat) : (z5c s t n).length = n + 1 := by simp [z5c]
theorem ze8 (s d : Bs) (n j : Nat) (h : j < n) : (z1p s d n).getD (j + 1) z0p = ⟨6, 1, [], d⟩ := by
 unfold z1p;rw [List.getD_cons_succ, zg, List.getElem?_replicate, if_pos h]; rfl
theorem z9q (s t : Bs) (n j : Nat) (h : j < n) : (z5c s t n).getD (j + 1) noMd = ⟨true, 1, t, j + 1⟩ := by
 unfold z5c;rw [List.getD_cons_succ, zg, List.getElem?_map, List.getElem?_range h]; rfl
theorem z9r {s d : Bs} {n : Nat} (hs : s.length ≤ 65536) (hd : d.length ≤ 65536) (hn : n ≤ 511) : rightL (z1p s d n) = true := by
 rw [z0h, z7l];refine ⟨by omega, fun j hj => ?_⟩
 match j with
 | 0 =>
   show okE 0 ⟨1, 0, [], s⟩ = true;unfold okE z3q;simp [hs]
 | j + 1 =>
   rw [ze8 s d n j (by omega)];unfold okE z3q;simp [hd];omega
theorem ze9 {T : List Md} {j k : Nat} (h : k < j) (h2 : k < T.length) (X : List Md) : (T.take j ++ X).getD k noMd = T.getD k noMd := by
 rw [zg, List.getElem?_append_left (by rw [List.length_take]; omega), List.getElem?_take_of_lt h, zg]
structure znz (s t d : Bs) (n : Nat) : Prop where
 ls : s.length ≤ 65536
 lt : t.length ≤ 65536
 ld : d.length ≤ 65536
 first : 1 ≤ n → Dl.applyL s d = some t
 more : 2 ≤ n → Dl.applyL t d = some t
theorem zo0 {s t d : Bs} {n : Nat} (h : znz s t d n) (hv : List Hld) (j : Nat) (hj : j < n + 1) :
 resE ((z1p s d n).getD j z0p) (z2s ((z5c s t n).take j ++ List.replicate ((z1p s d n).length - j) noMd) hv j ((z1p s d n).getD j z0p)) = if 16 < j then .error 2 else .ok ((z5c s t n).getD j noMd) := by
 match j with
 | 0 =>
   show resE ⟨1, 0, [], s⟩ _ = .ok ⟨true, 1, s, 0⟩;unfold resE;simp [zb8 h.ls]
 | j + 1 =>
   have hj' : j < n := by omega
   rw [ze8 s d n j hj', z9q s t n j hj']
   have hb : z2s ((z5c s t n).take (j + 1) ++ List.replicate ((z1p s d n).length - (j + 1)) noMd) hv (j + 1) ⟨6, 1, [], d⟩ = (z5c s t n).getD j noMd := by
    unfold z2s;rw [if_pos rfl];exact ze9 (T := z5c s t n) (j := j + 1) (k := j) (by omega) (by rw [zb9]; omega) _
   rw [hb]
   have hT : ∃ x, (z5c s t n).getD j noMd = ⟨true, 1, x, j⟩ ∧ Dl.applyL x d = some t := by
    match j with
    | 0 => exact ⟨s, rfl, h.first (by omega)⟩
    | i + 1 => exact ⟨t, z9q s t n i (by omega), h.more (by omega)⟩
   obtain ⟨x, hx, ha⟩ := hT;rw [hx];unfold resE;rw [if_pos (.inl rfl)];simp only;rw [if_neg (by simp)];unfold zab;rw [ha];simp only;rw [if_pos h.lt];simp only;rw [if_pos (zb8 h.lt)]
theorem chain_ok {s t d : Bs} {n : Nat} (h : znz s t d n) (hv : List Hld) (hn : n ≤ 16) : z0n (z1p s d n) hv = .ok (z5c s t n) := by
 refine zfn (z9r h.ls h.ld (by omega)) (by rw [z7l, zb9]) fun j hj => ?_;rw [z7l] at hj;refine ⟨?_, ?_⟩
 · match j with
   | 0 => rfl
   | j + 1 => rw [z9q s t n j (by omega)]
 · rw [zo0 h hv j hj, if_neg (by omega)]
theorem zc4 {x d : Bs} {hv : List Hld} (hx : z0c x = true) (hd : d.length ≤ 65536) (hf : z0t hv x = none) : z0n [⟨7, 0, x, d⟩] hv = .error 51 := by
 have hr : rightL [⟨7, 0, x, d⟩] = true := by
  rw [z0h];refine ⟨by simp, fun j hj => ?_⟩;obtain rfl : j = 0 := by simpa using hj
  show okE 0 ⟨7, 0, x, d⟩ = true;unfold okE z3q;simp [hd, hx]
 unfold z0n;rw [if_pos hr, ← zby, go_step (by unfold z1b; simp)]
 have hb : z2s (z1b [⟨7, 0, x, d⟩]) hv 0 ⟨7, 0, x, d⟩ = noMd := by
  unfold z2s;rw [if_neg (by show ¬ ((7 : Int) = 6); decide), z9d];simp only;rw [hf]
 have hs : stepE [⟨7, 0, x, d⟩] hv 0 (z1b [⟨7, 0, x, d⟩]) = .ok (z1b [⟨7, 0, x, d⟩], false) := by
  have h2 : stepE [⟨7, 0, x, d⟩] hv 0 (z1b [⟨7, 0, x, d⟩]) = z9f (z1b [⟨7, 0, x, d⟩]) 0 (resE ⟨7, 0, x, d⟩ (z2s (z1b [⟨7, 0, x, d⟩]) hv 0 ⟨7, 0, x, d⟩)) := rfl;rw [h2, hb];rfl
 have h1 : z0o [⟨7, 0, x, d⟩] hv ([⟨7, 0, x, d⟩] : List Ent).length (z1b [⟨7, 0, x, d⟩]) = .ok (z1b [⟨7, 0, x, d⟩], false) := by
  show z0o [⟨7, 0, x, d⟩] hv (0 + 1) (z1b [⟨7, 0, x, d⟩]) = _;unfold z0o;unfold z0o;simp only;rw [hs];rfl
 rw [h1];rfl
theorem get_rest (l : List Ent) : getP ((z23 l).drop 1) = none := by
 cases h : getP ((z23 l).drop 1) with
 | none => rfl
 | some m =>
   have h2 := (zgc.1 h).2.1;exfalso;have a : ((z23 l).drop 1)[0]? = some 65 := by unfold z23 z1t magicL; rfl
   have b : (z23 m)[0]? = some 80 := by unfold z23 z1t magicL; rfl
   rw [h2, b] at a;cases a
def h6 : Bs := [97, 98, 99, 100, 101, 102]
def h7 : Bs := [120, 97, 98, 99, 100, 101, 102]
def hd : Bs := Dl.makeL h6 h7
theorem zjd (base text : Bs) (hb : base.length ≤ 10000) (ht : text.length ≤ 900) : (Dl.makeL base text).length ≤ 2000 := by
 have h1 := Dl.putL_len6 (n := base.length) (by omega);have h2 := Dl.putL_len6 (n := text.length) (by omega);have h3 := Dl.mkS_len (base := base) (by omega) text.length [] text zl (by omega);unfold Dl.makeL;simp only [List.length_append, List.length_nil] at h3 ⊢;omega
theorem hd_len : hd.length ≤ 2000 := zjd h6 h7 (by decide) (by decide)
theorem headD : znz h6 h7 hd 1 := ⟨by decide, by decide, by have := hd_len; omega, fun _ => Dl.apply_make (by decide) (by decide), fun h => absurd h (by decide)⟩
theorem zba : rightL (z1p h6 hd 1) = true := z9r headD.ls headD.ld (by decide)
theorem zhm : z0n (z1p h6 hd 1) [] = .ok [⟨true, 1, h6, 0⟩, ⟨true, 1, h7, 1⟩] := chain_ok headD [] (by decide)
theorem head_small : SmallE (z1p h6 hd 1) := by
 have := hd_len;unfold SmallE zc3 z1p ze5;have e6 : h6.length = 6 := rfl;simp [e6];omega
end Go.Proofs.YtgjddkeogboojaaGreatDoor.Pk
namespace Go.Proofs.YtgjddkeogboojaaGreatDoor.Dl
open Go Go.RowKit
def InsP (w : World) (l : zB) (e : Ending) (w' : World) : Prop := ∃ v, e = .returned v ∧ Ow w' w.heap.size v l ∧ Below w.heap.size w w'
theorem zea (s : zB) (hs : s.length ≤ 1000000) (w : World) :
 Calls Tryz.prog 46 #[SV s] w (InsP w (ins s)) := by
 have h : Ow w w.heap.size (.slice none 0 0) [] := Ow.nil w w.heap.size;obtain ⟨B, hBe⟩ := zx w.heap.size;rw [← hBe] at h;have hB : B ≤ w.heap.size := by omega
 have HBe := zh hBe;clear hBe;obtain ⟨v, hv⟩ := zx (Value.slice none 0 0);obtain ⟨l, hl0⟩ := zx (([] : zB));have Hv := zh hv; have Hl0 := zh hl0;rw [← hv, ← hl0] at h;have hl : l.length + (ins s).length ≤ 140000000000000 := by rw [hl0, z5y _ s zl]; simp; omega
 clear hl0 hs;have H0 : Hid (∃ pre, Ow w B v (l ++ pre) ∧ pre ++ ins s = ins s) := zh ⟨[], by rw [List.append_nil]; exact h, rfl⟩;have HL := zh hl; have HB := zh hB;have hsz := z5y _ s zl;have hs : s.length ≤ 140000000000000 := by omega
 clear h hl hB hsz;unfold SV;subst hv
 go_enter Tryz.func46, Tryz.ntmps46
 go_wp2
 go_loopw [0, 3, 4] (fun v1 v0 _ wr => ∃ (u0 : Value) (rest : zB), u0 = v0 ∧ v1 = .string ⟨rest.toArray⟩ ∧ Hid (∃ pre, Ow wr B v0 (l ++ pre) ∧ pre ++ ins rest = ins s) ∧ Hid (AppF w (.slice none 0 0) wr u0) ∧ Hid (rest.length ≤ 140000000000000)) (fun v1 _ _ _ => szV v1)
 case atStart => exact ⟨_, s, rfl, rfl, H0, zh (AppF.refl _ _), zh hs⟩
 case round =>
  obtain ⟨v0, rest, h0, rfl, HP, LB, HR⟩ := hrel;subst h0;clear H0;have hr := HR.out;by_cases hlt : 0 < rest.length
  · obtain ⟨m, hm⟩ := zx (min rest.length 127);have hmi : min (rest.length : Int) 127 = (m : Int) := by omega
    have hm1 : m ≤ 127 := by omega
    have hm2 : m ≤ rest.length := by omega
    have hm3 : 0 < m := by omega
    obtain ⟨x, hx⟩ := zx (UInt8.ofNat m);have gx : Hid (IntKind.u8.wrap (m : Int) = (x.toNat : Int)) := zh (by rw [hx, byte_of (by omega), IntKind.wrap_u8']; omega);have hne : rest ≠ [] := by intro e; rw [e] at hlt; simp at hlt
    have hins : ins rest = x :: (rest.take m ++ ins (rest.drop m)) := by
     rw [zen hne, hx, hm];by_cases h127 : rest.length ≤ 127
     · rw [Nat.min_eq_left h127, List.take_of_length_le (l := rest) (i := 127) (by omega), List.take_of_length_le (l := rest) (i := rest.length) (by omega), List.drop_of_length_le (by omega), List.drop_of_length_le (by omega)]
     · rw [Nat.min_eq_right (by omega)]
    obtain ⟨pre, ho, hpre⟩ := HP.out
    have hlen : l.length + pre.length + (ins rest).length ≤ 140000000000000 := by
     have := HL.out; rw [← hpre, List.length_append] at this; omega
    have hil : (ins rest).length = 1 + (rest.take m).length + (ins (rest.drop m)).length := by rw [hins]; simp; omega
    obtain ⟨v16, w16, r16, o16, b16⟩ := run_app' (ho.below ((Below.refl wr.heap.size wr).drew.alloc zl (.cells #[.int .u8 (x.toNat : Int)] 5)) zl) (rb_one wr.drew x) (by simp; omega) (by have := LB.out.size; have := HB.out; show B ≤ (wr.drew.alloc _).heap.size; rw [z7f]; show B ≤ wr.heap.size + 1; omega) 23;obtain ⟨v20, w20, r20, o20, b20⟩ := run_apps' o16 (rest.take m) (by simp; omega) (by have := b16.size; have e : (wr.drew.alloc (.cells #[.int .u8 (x.toNat : Int)] 5)).heap.size = wr.heap.size + 1 := z7f _ _; have := LB.out.size; have := HB.out; omega) 23;have H20 : Hid (∃ pre, Ow w20 B v20 (l ++ pre) ∧ pre ++ ins (rest.drop m) = ins s) := zh ⟨(pre ++ [x]) ++ rest.take m, by rw [← List.append_assoc, ← List.append_assoc]; exact o20, by rw [← hpre, hins]; simp⟩;have HB20 : Hid (AppF w (.slice none 0 0) w20 v20) := zh ((LB.out.trans ((AppF.new v0 ((Below.refl _ wr).drew.alloc zl (.cells #[.int .u8 (x.toNat : Int)] 5))).trans b16)).trans b20);have HE20 : Hid ((rest.drop m).length ≤ 140000000000000) := zh (by rw [List.length_drop]; omega);have hdrop : Hid ((⟨rest.toArray⟩ : ByteArray).extract m rest.length = ⟨(rest.drop m).toArray⟩) := zh (by rw [extract_S, List.take_length])
    have HMz : Hid (szV (.string ((⟨rest.toArray⟩ : ByteArray).extract m rest.length)) < szV (.string ⟨rest.toArray⟩)) := zh (by
     rw [hdrop.out]; show (rest.drop m).length < rest.length; rw [List.length_drop]; omega)
    have r16 := zh r16; have r20 := zh r20;clear hx hne hins ho hpre hlen hil o16 b16 o20 b20 HP hm
    go_upto_region 4 with fail
    refine held_start (fun _ : World => True) (by kernel_rfl) ?_;refine z08 0 (v0) rfl (fun W hW => by kernel_rfl) (trivial) ?_;refine z08 1 (.int .i64 (m : Int)) rfl (fun W hW => by kernel_rfl) (trivial) ?_;refine z08 2 (.int .u8 (x.toNat : Int)) rfl (fun W hW => y_conv (x := .int .i64 (m : Int)) rfl (by kernel_rfl) (conv_u8 W _ _ gx.out)) (trivial) ?_;refine z08 5 (.string ⟨rest.toArray⟩) rfl (fun W hW => by kernel_rfl) (trivial) ?_;refine z08 6 (.int .i64 (m : Int)) rfl (fun W hW => by kernel_rfl) (trivial) ?_;refine z08 7 (.string ⟨(rest.take m).toArray⟩) rfl (fun W hW => y_slice (xv := .string ⟨rest.toArray⟩) (lv := none) (hv := some (.int .i64 (m : Int))) (mv := none) rfl (by kernel_rfl) (by kernel_rfl) (by kernel_rfl) (by kernel_rfl) (cut_to W rest m (by omega))) (trivial) ?_;refine held_one (i := 3) (by kernel_rfl) ?_;refine held_op (.slice (some ⟨wr.drew.heap.size, 0, none⟩) 1 1) (wr.drew.alloc (.cells #[.int .u8 (x.toNat : Int)] 5)) rfl (by kernel_rfl) (y_bs (xv := .int .u8 (x.toNat : Int)) rfl (by kernel_rfl) (bs_u8 _ _)) (trivial) ?_;refine held_one (i := 4) (by kernel_rfl) ?_;refine held_op (v16) w16 rfl (by kernel_rfl) (y_app2 (sv := v0) (yv := .slice (some ⟨wr.drew.heap.size, 0, none⟩) 1 1) rfl (by kernel_rfl) (by kernel_rfl) r16.out) (trivial) ?_;refine held_one (i := 8) (by kernel_rfl) ?_;refine held_op (v20) w20 rfl (by kernel_rfl) (y_app2 (sv := v16) (yv := .string ⟨(rest.take m).toArray⟩) rfl (by kernel_rfl) (by kernel_rfl) r20.out) (trivial) ?_;refine z08 9 (v20) rfl (fun W hW => by kernel_rfl) (trivial) ?_;refine held_done _ (by kernel_rfl) ?_;go_simp
    go_wp2_with fail
    go_roundw
    case rel => exact ⟨_, rest.drop m, rfl, by rw [← hdrop.out], H20, HB20, HE20⟩
    case measure => exact HMz.out
  · have he : rest = [] := List.length_eq_zero_iff.1 (by omega);subst he
    have HF : Hid (InsP w (ins s) (.returned v0) wr) := zh (by
     obtain ⟨pre, ho, hpre⟩ := HP.out;rw [ins_nil, List.append_nil] at hpre;rw [← hpre];rw [Hl0.out, List.nil_append, HBe.out] at ho;exact ⟨v0, rfl, ho, LB.out.1.below (fun k _ hk => by cases hk) zl⟩)
    clear hlt
    go_wp2
    go_ret
    exact HF.out
section
variable {P : Program} {ops : Array Oper} {Q : Exit → Go.Act → World → Prop} {S : World → Prop}
theorem z0j (i : Nat) {oi : Oper} {fuel : Nat} {listed : Array Bool} {a : Go.Act} {w : World} (hi : ops[i]? = some oi)
 (hs : Region.noSelect ops = true) (hf : Region.free .any ops listed i = true) (hr : (Region.ready .any ops listed).contains i = true)
 (hQ : ∀ c a w, Q (.panic c) (a.put oi.dst undef) w → Q (.panic c) a w) (hw : Region.wanted oi (yielded ops a.tmps) = false) (hS : S w)
 (h : wpAnyH P .any ops Q S fuel (listed.setIfInBounds i true) (a.put oi.dst undef) w) : wpAnyH P .any ops Q S (fuel + 1) listed a w :=
 wpAnyH_take hi hs hf hr hQ (.inr ⟨hw, rfl⟩) hS h
end
theorem z8k (W : World) (a b : Nat) (ha : a ≤ 1000000) (hb : b ≤ 1000000) : (binOp .add 3 (.int .i64 (a : Int)) (.int .i64 (b : Int))).run Tryz.prog W = .ok (.int .i64 ((a : Int) + (b : Int))) W := by
 have e : IntKind.i64.wrap ((a : Int) + (b : Int)) = (a : Int) + (b : Int) := by rw [IntKind.wrap_i64]; omega
 simp [go_sem, e]
section
variable {P : Program} {a : Go.Act} {o : Oper} {W : World}
theorem y_idx {t : TypeId} {s i : Operand} {sv iv r : Value} (ho : o.op = .index t s i) (hs : a.eval s = sv) (hi : a.eval i = iv) (h : (Instr.index t sv iv).run P W = .ok r W) : (execOp a.eval o).run P W = .ok (.value r) W := by
 subst hs hi;simp only [execOp, ho];simp [h, Result.andThen]
end
theorem zo1 (W : World) (s : Bs) (k : Nat) (c : UInt8) (h : s[k]? = some c) : (Instr.index 9 (.string ⟨s.toArray⟩) (.int .i64 (k : Int))).run Tryz.prog W = .ok (.int .u8 (c.toNat : Int)) W := by
 obtain ⟨hk, hc⟩ := List.getElem?_eq_some_iff.1 h;have gc : ∀ h, ((⟨s.toArray⟩ : ByteArray)[k]'h) = c := fun h => hc;have h2 : (k : Int) < (s.length : Int) := by omega
 simp [go_sem, h2, gc]
theorem idx_sum (W : World) (s : Bs) (i n : Nat) (c : UInt8) (h : s[i + n]? = some c) : (Instr.index 9 (.string ⟨s.toArray⟩) (.int .i64 ((i : Int) + (n : Int)))).run Tryz.prog W = .ok (.int .u8 (c.toNat : Int)) W := by
 rw [← Int.natCast_add]; exact zo1 W s (i + n) c h
theorem zo2 (W : World) (a b : Int) (c : Bool) (h : decide (a < b) = c) : (binOp .lss 3 (.int .i64 a) (.int .i64 b)).run Tryz.prog W = .ok (.bool c) W := by
 rw [← h];simp [go_sem]
theorem eql_b (W : World) (x y : UInt8) (c : Bool) (h : decide (x = y) = c) : (binOp .eql 5 (.int .u8 (x.toNat : Int)) (.int .u8 (y.toNat : Int))).run Tryz.prog W = .ok (.bool c) W := by
 have e : ((x.toNat : Int) == (y.toNat : Int)) = c := by
  rw [← h];by_cases hxy : x = y
  · subst hxy; simp
  · have : x.toNat ≠ y.toNat := fun e => hxy (UInt8.toNat_inj.1 e);rw [decide_eq_false hxy, beq_eq_false_iff_ne]; omega
 simp [go_sem, e]
theorem lcp_step {base left : Bs} {i n : Nat} {x y : UInt8} (hn : n ≤ lcp (base.drop i) left) (h1 : base[i + n]? = some x) (h2 : left[n]? = some y) : n < lcp (base.drop i) left ↔ x = y := by
 obtain ⟨k1, rfl⟩ := List.getElem?_eq_some_iff.1 h1;obtain ⟨k2, rfl⟩ := List.getElem?_eq_some_iff.1 h2;obtain ⟨_, _, h3⟩ := (zai n _ _).1 hn;have hd : n < (base.drop i).length := by rw [List.length_drop]; omega
 have e1 : (base.drop i).take (n + 1) = (base.drop i).take n ++ [base[i + n]] := by rw [List.take_succ_eq_append_getElem hd, List.getElem_drop]
 have e2 : left.take (n + 1) = left.take n ++ [left[n]] := List.take_succ_eq_append_getElem k2;rw [Nat.lt_iff_add_one_le, zai, e1, e2, h3];constructor
 · rintro ⟨_, _, h⟩; exact (List.cons.inj (List.append_cancel_left h)).1
 · intro h; exact ⟨hd, k2, by rw [h]⟩
def LngP (base left : Bs) (w : World) (e : Ending) (w' : World) : Prop := e = .returned (.tuple #[.int .i64 ((lng base left).1 : Int), .int .i64 ((lng base left).2 : Int)]) ∧ Below w.heap.size w w'
theorem zeb (base left : Bs) (hb : base.length ≤ 100000) (hl : left.length ≤ 100000) (w : World) :
 Calls Tryz.prog 45 #[SV base, SV left] w (LngP base left w) := by
 unfold SV
 go_enter Tryz.func45, Tryz.ntmps45
 go_wp2
 go_loopw [6, 7, 8, 9] (fun v6 v7 v8 _ wr => ∃ (f m i : Nat), v6 = .int .i64 (f : Int) ∧ v7 = .int .i64 (m : Int) ∧ v8 = .int .i64 (i : Int) ∧ i ≤ base.length ∧ Hid (rl base left i = (f, m)) ∧ Hid (Below w.heap.size w wr)) (fun _ _ v8 _ _ => base.length - (intOf v8).toNat)
 case atStart => exact ⟨0, 0, 0, rfl, rfl, rfl, Nat.zero_le _, zh rfl, zh (Below.refl _ _)⟩
 case round =>
  obtain ⟨f, m, i, rfl, rfl, rfl, hi, HF, HB⟩ := hrel;by_cases hlt : i < base.length
  · obtain ⟨L, hL⟩ := zx (lcp (base.drop i) left);have hLl : L ≤ left.length := by rw [hL]; exact z7p _ _
    have hLb : i + L ≤ base.length := by have := z8o (base.drop i) left; rw [← hL, List.length_drop] at this; omega
    have HL := zh hL;clear hL
    go_wp2
    go_loopw [9] (fun v9 wi => ∃ n : Nat, v9 = .int .i64 (n : Int) ∧ n ≤ L ∧ Hid (Below w.heap.size w wi)) (fun v9 _ => L - (intOf v9).toNat)
    case atStart => exact ⟨0, rfl, Nat.zero_le _, HB⟩
    case round =>
     clear HB;obtain ⟨n, rfl, hn, HB⟩ := hrel;have LD : Below wr.heap.size wr wr.drew := (Below.refl _ _).drew;have HLd : Hid (Below w.heap.size w wr.drew) := zh HB.out.drew
     go_upto_region 7 with fail
     go_cut [38] from 16 to 40 (fun v38 wx => ∃ q : Bool, v38 = .bool q ∧ Hid (q = decide (n < L)) ∧ Hid (Below w.heap.size w wx))
     case first =>
      by_cases h1 : i + n < base.length
      · have k1 : decide ((i : Int) + (n : Int) < (base.length : Int)) = true := decide_eq_true (by omega);by_cases h2 : n < left.length
        · have k2 : decide ((n : Int) < (left.length : Int)) = true := decide_eq_true (by omega);obtain ⟨x, hx⟩ : ∃ x, base[i + n]? = some x := ⟨_, zj h1⟩
          obtain ⟨y, hy⟩ : ∃ y, left[n]? = some y := ⟨_, zj h2⟩
          have gx := zh hx; have gy := zh hy;obtain ⟨q, hq⟩ : ∃ q, decide (x = y) = q := ⟨_, rfl⟩
          have HQ : Hid (q = decide (n < L)) := zh (by
           rw [← hq, HL.out]; exact decide_eq_decide.2 (lcp_step (by rw [← HL.out]; exact hn) hx hy).symm)
          have gq := zh hq;clear hx hy hq;refine held_start (fun W : World => Below wr.drew.heap.size wr.drew W) (by kernel_rfl) ?_;refine z08 0 (.int .i64 (i : Int)) rfl (fun W hW => by kernel_rfl) (Below.refl _ _) ?_;refine z08 1 (.int .i64 (n : Int)) rfl (fun W hW => by kernel_rfl) (Below.refl _ _) ?_;refine z08 2 (.int .i64 ((i : Int) + (n : Int))) rfl (fun W hW => y_bin rfl (by kernel_rfl) (by kernel_rfl) rfl (z8k W i n (by omega) (by omega))) (Below.refl _ _) ?_;refine z08 3 (.string ⟨base.toArray⟩) rfl (fun W hW => by kernel_rfl) (Below.refl _ _) ?_;refine z08 4 (.int .i64 (base.length : Int)) rfl (fun W hW => zl2 (sv := .string ⟨base.toArray⟩) rfl (by kernel_rfl) (zct W base _)) (Below.refl _ _) ?_;refine z08 5 (.bool true) rfl (fun W hW => y_bin rfl (by kernel_rfl) (by kernel_rfl) rfl (zo2 W _ _ _ k1)) (Below.refl _ _) ?_;refine z08 6 (.bool true) rfl (fun W hW => by kernel_rfl) (Below.refl _ _) ?_;refine z08 7 (.int .i64 (n : Int)) rfl (fun W hW => by kernel_rfl) (Below.refl _ _) ?_;refine z08 8 (.string ⟨left.toArray⟩) rfl (fun W hW => by kernel_rfl) (Below.refl _ _) ?_;refine z08 9 (.int .i64 (left.length : Int)) rfl (fun W hW => zl2 (sv := .string ⟨left.toArray⟩) rfl (by kernel_rfl) (zct W left _)) (Below.refl _ _) ?_;refine z08 10 (.bool true) rfl (fun W hW => y_bin rfl (by kernel_rfl) (by kernel_rfl) rfl (zo2 W _ _ _ k2)) (Below.refl _ _) ?_;refine z08 11 (.bool true) rfl (fun W hW => by kernel_rfl) (Below.refl _ _) ?_;refine z08 12 (.bool true) rfl (fun W hW => by kernel_rfl) (Below.refl _ _) ?_;refine z08 13 (.string ⟨base.toArray⟩) rfl (fun W hW => by kernel_rfl) (Below.refl _ _) ?_;refine z08 14 (.int .i64 (i : Int)) rfl (fun W hW => by kernel_rfl) (Below.refl _ _) ?_;refine z08 15 (.int .i64 (n : Int)) rfl (fun W hW => by kernel_rfl) (Below.refl _ _) ?_;refine z08 16 (.int .i64 ((i : Int) + (n : Int))) rfl (fun W hW => y_bin rfl (by kernel_rfl) (by kernel_rfl) rfl (z8k W i n (by omega) (by omega))) (Below.refl _ _) ?_;refine z08 17 (.int .u8 (x.toNat : Int)) rfl (fun W hW => y_idx (sv := .string ⟨base.toArray⟩) (iv := .int .i64 ((i : Int) + (n : Int))) rfl (by kernel_rfl) (by kernel_rfl) (idx_sum W base i n x gx.out)) (Below.refl _ _) ?_;refine z08 18 (.string ⟨left.toArray⟩) rfl (fun W hW => by kernel_rfl) (Below.refl _ _) ?_;refine z08 19 (.int .i64 (n : Int)) rfl (fun W hW => by kernel_rfl) (Below.refl _ _) ?_;refine z08 20 (.int .u8 (y.toNat : Int)) rfl (fun W hW => y_idx (sv := .string ⟨left.toArray⟩) (iv := .int .i64 (n : Int)) rfl (by kernel_rfl) (by kernel_rfl) (zo1 W left n y gy.out)) (Below.refl _ _) ?_;refine z08 21 (.bool q) rfl (fun W hW => y_bin rfl (by kernel_rfl) (by kernel_rfl) rfl (eql_b W x y q gq.out)) (Below.refl _ _) ?_;refine z08 22 (.bool q) rfl (fun W hW => by kernel_rfl) (Below.refl _ _) ?_;refine held_done _ (by kernel_rfl) ?_;go_simp
          go_wp2
          go_meet
          case rel => exact ⟨_, rfl, HQ, HLd⟩
        · have k2 : decide ((n : Int) < (left.length : Int)) = false := decide_eq_false (by omega);have HQ : Hid (false = decide (n < L)) := zh (decide_eq_false (by omega)).symm;refine held_start (fun W : World => Below wr.drew.heap.size wr.drew W) (by kernel_rfl) ?_;refine z08 0 (.int .i64 (i : Int)) rfl (fun W hW => by kernel_rfl) (Below.refl _ _) ?_;refine z08 1 (.int .i64 (n : Int)) rfl (fun W hW => by kernel_rfl) (Below.refl _ _) ?_;refine z08 2 (.int .i64 ((i : Int) + (n : Int))) rfl (fun W hW => y_bin rfl (by kernel_rfl) (by kernel_rfl) rfl (z8k W i n (by omega) (by omega))) (Below.refl _ _) ?_;refine z08 3 (.string ⟨base.toArray⟩) rfl (fun W hW => by kernel_rfl) (Below.refl _ _) ?_;refine z08 4 (.int .i64 (base.length : Int)) rfl (fun W hW => zl2 (sv := .string ⟨base.toArray⟩) rfl (by kernel_rfl) (zct W base _)) (Below.refl _ _) ?_;refine z08 5 (.bool true) rfl (fun W hW => y_bin rfl (by kernel_rfl) (by kernel_rfl) rfl (zo2 W _ _ _ k1)) (Below.refl _ _) ?_;refine z08 6 (.bool true) rfl (fun W hW => by kernel_rfl) (Below.refl _ _) ?_;refine z08 7 (.int .i64 (n : Int)) rfl (fun W hW => by kernel_rfl) (Below.refl _ _) ?_;refine z08 8 (.string ⟨left.toArray⟩) rfl (fun W hW => by kernel_rfl) (Below.refl _ _) ?_;refine z08 9 (.int .i64 (left.length : Int)) rfl (fun W hW => zl2 (sv := .string ⟨left.toArray⟩) rfl (by kernel_rfl) (zct W left _)) (Below.refl _ _) ?_;refine z08 10 (.bool false) rfl (fun W hW => y_bin rfl (by kernel_rfl) (by kernel_rfl) rfl (zo2 W _ _ _ k2)) (Below.refl _ _) ?_;refine z08 11 (.bool false) rfl (fun W hW => by kernel_rfl) (Below.refl _ _) ?_;refine z08 12 (.bool false) rfl (fun W hW => by kernel_rfl) (Below.refl _ _) ?_;refine z0j 13 rfl (by kernel_rfl) (by kernel_rfl) (by kernel_rfl) (fun _ _ _ h => h) (by kernel_rfl) (Below.refl _ _) ?_;refine z0j 14 rfl (by kernel_rfl) (by kernel_rfl) (by kernel_rfl) (fun _ _ _ h => h) (by kernel_rfl) (Below.refl _ _) ?_;refine z0j 15 rfl (by kernel_rfl) (by kernel_rfl) (by kernel_rfl) (fun _ _ _ h => h) (by kernel_rfl) (Below.refl _ _) ?_;refine z0j 16 rfl (by kernel_rfl) (by kernel_rfl) (by kernel_rfl) (fun _ _ _ h => h) (by kernel_rfl) (Below.refl _ _) ?_;refine z0j 17 rfl (by kernel_rfl) (by kernel_rfl) (by kernel_rfl) (fun _ _ _ h => h) (by kernel_rfl) (Below.refl _ _) ?_;refine z0j 18 rfl (by kernel_rfl) (by kernel_rfl) (by kernel_rfl) (fun _ _ _ h => h) (by kernel_rfl) (Below.refl _ _) ?_;refine z0j 19 rfl (by kernel_rfl) (by kernel_rfl) (by kernel_rfl) (fun _ _ _ h => h) (by kernel_rfl) (Below.refl _ _) ?_;refine z0j 20 rfl (by kernel_rfl) (by kernel_rfl) (by kernel_rfl) (fun _ _ _ h => h) (by kernel_rfl) (Below.refl _ _) ?_;refine z0j 21 rfl (by kernel_rfl) (by kernel_rfl) (by kernel_rfl) (fun _ _ _ h => h) (by kernel_rfl) (Below.refl _ _) ?_;refine z08 22 (.bool false) rfl (fun W hW => by kernel_rfl) (Below.refl _ _) ?_;refine held_done _ (by kernel_rfl) ?_;go_simp
          go_wp2
          go_meet
          case rel => exact ⟨_, rfl, HQ, HLd⟩
      · have k1 : decide ((i : Int) + (n : Int) < (base.length : Int)) = false := decide_eq_false (by omega);have HQ : Hid (false = decide (n < L)) := zh (decide_eq_false (by omega)).symm;refine held_start (fun W : World => Below wr.drew.heap.size wr.drew W) (by kernel_rfl) ?_;refine z08 0 (.int .i64 (i : Int)) rfl (fun W hW => by kernel_rfl) (Below.refl _ _) ?_;refine z08 1 (.int .i64 (n : Int)) rfl (fun W hW => by kernel_rfl) (Below.refl _ _) ?_;refine z08 2 (.int .i64 ((i : Int) + (n : Int))) rfl (fun W hW => y_bin rfl (by kernel_rfl) (by kernel_rfl) rfl (z8k W i n (by omega) (by omega))) (Below.refl _ _) ?_;refine z08 3 (.string ⟨base.toArray⟩) rfl (fun W hW => by kernel_rfl) (Below.refl _ _) ?_;refine z08 4 (.int .i64 (base.length : Int)) rfl (fun W hW => zl2 (sv := .string ⟨base.toArray⟩) rfl (by kernel_rfl) (zct W base _)) (Below.refl _ _) ?_;refine z08 5 (.bool false) rfl (fun W hW => y_bin rfl (by kernel_rfl) (by kernel_rfl) rfl (zo2 W _ _ _ k1)) (Below.refl _ _) ?_;refine z08 6 (.bool false) rfl (fun W hW => by kernel_rfl) (Below.refl _ _) ?_;refine z0j 7 rfl (by kernel_rfl) (by kernel_rfl) (by kernel_rfl) (fun _ _ _ h => h) (by kernel_rfl) (Below.refl _ _) ?_;refine z0j 8 rfl (by kernel_rfl) (by kernel_rfl) (by kernel_rfl) (fun _ _ _ h => h) (by kernel_rfl) (Below.refl _ _) ?_;refine z0j 9 rfl (by kernel_rfl) (by kernel_rfl) (by kernel_rfl) (fun _ _ _ h => h) (by kernel_rfl) (Below.refl _ _) ?_;refine z0j 10 rfl (by kernel_rfl) (by kernel_rfl) (by kernel_rfl) (fun _ _ _ h => h) (by kernel_rfl) (Below.refl _ _) ?_;refine z08 11 (.bool false) rfl (fun W hW => by kernel_rfl) (Below.refl _ _) ?_;refine z08 12 (.bool false) rfl (fun W hW => by kernel_rfl) (Below.refl _ _) ?_;refine z0j 13 rfl (by kernel_rfl) (by kernel_rfl) (by kernel_rfl) (fun _ _ _ h => h) (by kernel_rfl) (Below.refl _ _) ?_;refine z0j 14 rfl (by kernel_rfl) (by kernel_rfl) (by kernel_rfl) (fun _ _ _ h => h) (by kernel_rfl) (Below.refl _ _) ?_;refine z0j 15 rfl (by kernel_rfl) (by kernel_rfl) (by kernel_rfl) (fun _ _ _ h => h) (by kernel_rfl) (Below.refl _ _) ?_;refine z0j 16 rfl (by kernel_rfl) (by kernel_rfl) (by kernel_rfl) (fun _ _ _ h => h) (by kernel_rfl) (Below.refl _ _) ?_;refine z0j 17 rfl (by kernel_rfl) (by kernel_rfl) (by kernel_rfl) (fun _ _ _ h => h) (by kernel_rfl) (Below.refl _ _) ?_;refine z0j 18 rfl (by kernel_rfl) (by kernel_rfl) (by kernel_rfl) (fun _ _ _ h => h) (by kernel_rfl) (Below.refl _ _) ?_;refine z0j 19 rfl (by kernel_rfl) (by kernel_rfl) (by kernel_rfl) (fun _ _ _ h => h) (by kernel_rfl) (Below.refl _ _) ?_;refine z0j 20 rfl (by kernel_rfl) (by kernel_rfl) (by kernel_rfl) (fun _ _ _ h => h) (by kernel_rfl) (Below.refl _ _) ?_;refine z0j 21 rfl (by kernel_rfl) (by kernel_rfl) (by kernel_rfl) (fun _ _ _ h => h) (by kernel_rfl) (Below.refl _ _) ?_;refine z08 22 (.bool false) rfl (fun W hW => by kernel_rfl) (Below.refl _ _) ?_;refine held_done _ (by kernel_rfl) ?_;go_simp
        go_wp2
        go_meet
        case rel => exact ⟨_, rfl, HQ, HLd⟩
     case rest =>
      obtain ⟨q, rfl, HQ, HC⟩ := hcut;clear HB HLd LD;cases q with
      | true =>
        have hnL : n < L := of_decide_eq_true HQ.out.symm;clear HQ
        go_wp2
        go_roundw
        case rel => exact ⟨n + 1, by go_num, hnL, HC⟩
        case measure => simp [intOf]; omega
      | false =>
        have hnL : L = n := by have := of_decide_eq_false HQ.out.symm; omega
        subst hnL
        have HF' : Hid (rl base left (i + 1) = if m < L then (i, L) else (f, m)) := zh (by
         rw [rl, HF.out, ← HL.out])
        clear HQ HF;by_cases hm : m < L
        · have HG : Hid (rl base left (i + 1) = (i, L)) := zh (HF'.out.trans (if_pos hm));clear HF'
          go_wp2
          go_roundw
          case rel => exact ⟨i, L, i + 1, rfl, rfl, by go_num, hlt, HG, HC⟩
          case measure => simp [intOf]; omega
        · have HG : Hid (rl base left (i + 1) = (f, m)) := zh (HF'.out.trans (if_neg hm));clear HF'
          go_wp2
          go_roundw
          case rel => exact ⟨f, m, i + 1, rfl, rfl, by go_num, hlt, HG, HC⟩
          case measure => simp [intOf]; omega
  · have hie : i = base.length := by omega
    have HE : Hid (lng base left = (f, m)) := zh (by rw [lng, ← hie]; exact HF.out);clear hie HF
    go_wp2
    go_ret2
    refine ⟨?_, HB.out⟩;rw [HE.out];rfl
end Go.Proofs.YtgjddkeogboojaaGreatDoor.Dl
