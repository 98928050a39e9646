/-
  What is being worked on, as it lies in memory; what an entry is made of. base, and the call that asks for it. The call that asks what an entry is made of; keep. round. SameItems, SameTexts, SameWants: alike? Has, Same, Great, GreatTexts; the document's Find. A name is met: the row, and how often each was met.
-/
import Derived.BigRegion
import Derived.Test.YtgjddkeogboojaaGreatDoorY17
import Derived.Test.YtgjddkeogboojaaGreatDoorY19
import Derived.Test.YtgjddkeogboojaaGreatDoorY16
import Derived.Deep.QuietTactic
import Derived.BigQuiet
import Derived.IntWalk
import Derived.Laws.StructEq
import Derived.Test.YtgjddkeogboojaaGreatDoorY03
import Derived.Deep.AppendLies
set_option maxHeartbeats 16000000
set_option maxRecDepth 100000
namespace Go.Proofs.YtgjddkeogboojaaGreatDoor.Pk
open Go.Proofs.YtgjddkeogboojaaGreatDoor
open Go Go.RowKit Go.Maps
theorem look_ok {w : World} {b n : Nat} {f : Bs → Option Value} (h : MapS w b n f) {t e : TypeId} (ht : Tryz.prog.underlying t = some (.map 9 e)) {z : Value} (hz : (zeroValue e).run Tryz.prog w = .ok z w) {x : Bs} (hx : x.length ≤ maxLen) :
 (Instr.lookup t (.map (some b)) (.string ⟨x.toArray⟩) true).run Tryz.prog w = .ok (.tuple #[(f x).getD z, .bool (f x).isSome]) w := by
 obtain ⟨D, hown, _, hf⟩ := h;obtain ⟨v, ps, hrun, hv⟩ := hown.look_ok lawS ht hz (zd := .held z) (zp := []) rfl (zn6 hx);cases hfx : f x with
 | none =>
   rw [(hf x).1 hfx] at hrun;rw [atKey_of_not_has ((hf x).1 hfx)] at hv;cases hv; exact hrun
 | some u =>
   rw [has_true_of_atKey ((hf x).2 u hfx)] at hrun;rw [(hf x).2 u hfx] at hv;cases hv; exact hrun
theorem But.ofD {S : Nat → Prop} {w w' : World} (h : Dl.But S w w') : But S w w' := ⟨h.os, h.tape, h.output, h.size, h.block⟩
def MdM (w : World) (M : Nat) (S : List Md) : Prop := ∃ cur, w.heap[M]? = some (.cells cur 82 (0, 0)) ∧ cur.size = S.length * 4 ∧ ∀ j, j < S.length → ∀ i, i < 4 → cur[j * 4 + i]? = (mdC (S.getD j noMd))[i]?
theorem MdM.cells {w : World} {M : Nat} {S : List Md} (h : MdM w M S) (k : Nat) (hk : k < S.length) :
 w.cell? ⟨M, k * 4, none⟩ = some (.bool (S.getD k noMd).th) ∧ w.cell? ⟨M, k * 4 + 1, none⟩ = some (.int .i64 (S.getD k noMd).kd) ∧ w.cell? ⟨M, k * 4 + 2, none⟩ = some (.string ⟨(S.getD k noMd).dt.toArray⟩) ∧ w.cell? ⟨M, k * 4 + 3, none⟩ = some (.int .i64 ((S.getD k noMd).dp : Int)) := by
 obtain ⟨cur, hg, _, hc⟩ := h;exact ⟨(cell_of_row w M _ _ _ _ hg).trans (hc k hk 0 (by omega)), (cell_of_row w M _ _ _ _ hg).trans (hc k hk 1 (by omega)), (cell_of_row w M _ _ _ _ hg).trans (hc k hk 2 (by omega)), (cell_of_row w M _ _ _ _ hg).trans (hc k hk 3 (by omega))⟩
theorem MdM.but {w w' : World} {M : Nat} {S : List Md} {T : Nat → Prop} (h : MdM w M S) (hb : Dl.But T w w') (hn : ¬ T M) : MdM w' M S := by
 obtain ⟨cur, hg, r⟩ := h;exact ⟨cur, (hb.block M (lt_heap hg) hn).trans hg, r⟩
theorem MdM.set {w : World} {M : Nat} {S : List Md} (h : MdM w M S) {j : Nat} (hj : j < S.length) (m : Md) :
 MdM ((((w.setCell ⟨M, j * 4, none⟩ (.bool m.th)).setCell ⟨M, j * 4 + 1, none⟩ (.int .i64 m.kd)).setCell ⟨M, j * 4 + 2, none⟩ (.string ⟨m.dt.toArray⟩)).setCell ⟨M, j * 4 + 3, none⟩ (.int .i64 (m.dp : Int))) M (S.set j m) := by
 obtain ⟨cur, hg, hs, hc⟩ := h;refine ⟨_, blk_setCell (blk_setCell (blk_setCell (blk_setCell hg _) _) _) _, by simp [hs], fun t ht q hq => ?_⟩;rw [List.length_set] at ht;have hsz : j * 4 + 3 < cur.size := by omega
 rw [z8h hj];by_cases e : t = j
 · subst e;rw [if_pos rfl]
   match q, hq with
   | 0, _ =>
     rw [Array.getElem?_setIfInBounds_ne (by omega), Array.getElem?_setIfInBounds_ne (by omega), Array.getElem?_setIfInBounds_ne (by omega)];show (cur.setIfInBounds (t * 4) _)[t * 4]? = _;rw [Array.getElem?_setIfInBounds_self_of_lt (by omega)]; rfl
   | 1, _ => rw [Array.getElem?_setIfInBounds_ne (by omega), Array.getElem?_setIfInBounds_ne (by omega), Array.getElem?_setIfInBounds_self_of_lt (by simp; omega)]; rfl
   | 2, _ => rw [Array.getElem?_setIfInBounds_ne (by omega), Array.getElem?_setIfInBounds_self_of_lt (by simp; omega)]; rfl
   | 3, _ => rw [Array.getElem?_setIfInBounds_self_of_lt (by simp; omega)]; rfl
 · rw [if_neg e, Array.getElem?_setIfInBounds_ne (by omega), Array.getElem?_setIfInBounds_ne (by omega), Array.getElem?_setIfInBounds_ne (by omega), Array.getElem?_setIfInBounds_ne (by omega)];exact hc t ht q hq
def z0x (l : List Ent) : List Bs := (l.filter fun e => decide (e.kind = 7)).map Ent.base
def z3m (l : List Ent) : Bool := decide (0 < (z0x l).length)
theorem zn7 {l : List Ent} {e : Ent} (h : e ∈ l) (h7 : e.kind = 7) : e.base ∈ z0x l := List.mem_map.2 ⟨e, List.mem_filter.2 ⟨h, by simpa using h7⟩, rfl⟩
theorem asked_of {l : List Ent} {x : Bs} (h : x ∈ z0x l) : z3m l = true := by unfold z3m; rw [decide_eq_true_eq]; exact List.length_pos_of_mem h
def z2u (S : List Md) (x : Bs) : Option Value := (z1g S x).map fun (k : Nat) => Value.int .i64 (k : Int)
def z7j (hv : List Hld) (x : Bs) : Option Value := (z0t hv x).map fun h => mdV (zmi h)
structure Wk (l : List Ent) (hv : List Hld) (B p M F H : Nat) (vl : Value) (S : List Md) (w : World) : Prop where
 k : w.heap[p]? = some (.cells #[vl, .slice (some ⟨M, 0, none⟩) l.length l.length, .bool (z3m l), .map (some F), .map (some H)] 124 (0, 0))
 m : MdM w M S
 el : EntsR w vl l
 len : S.length = l.length
 f : z3m l = true → ∃ n, n + left S ≤ l.length ∧ MapS w F n (z2u S)
 h : ∃ n hf, MapS w H n hf ∧ ∀ x, x ∈ z0x l → hf x = z7j hv x
 sz : B ≤ M ∧ M < F ∧ F < H ∧ H < p
 ow : 0 < l.length → ∀ g, vl.ownBlock = some g → g < B
theorem zc0 {w w' : World} {v : Value} {l : List Ent} {T : Nat → Prop} (h : EntsR w v l) (hb : Dl.But T w w') (hn : 0 < l.length → ∀ g, v.ownBlock = some g → ¬ T g) : EntsR w' v l := by
 rcases Nat.eq_zero_or_pos l.length with h0 | h0
 · obtain ⟨A, c, e⟩ := h.shape;exact .inl ⟨⟨A, c, by rw [e, h0]⟩, List.length_eq_zero_iff.1 h0⟩
 · rcases h with h | ⟨g, o, c, rfl, hc, hg, hcell⟩
   · exact .inl h
   · exact .inr ⟨g, o, c, rfl, hc, Nat.lt_of_lt_of_le hg hb.size, fun j hj x hx i hi => by rw [hb.cell (p := ⟨g, o + j * 4 + i, none⟩) hg (hn h0 g rfl)]; exact hcell j hj x hx i hi⟩
theorem Wk.but {l : List Ent} {hv : List Hld} {B p M F H : Nat} {vl : Value} {S : List Md} {w w' : World} {T : Nat → Prop} (h : Wk l hv B p M F H vl S w) (hb : Dl.But T w w') (hn : ∀ k, k ≤ p → ¬ T k) : Wk l hv B p M F H vl S w' := by
 obtain ⟨h1, h2, h3, h4⟩ := h.sz;refine ⟨(hb.block p (lt_heap h.k) (hn p zl)).trans h.k, h.m.but hb (hn M (by omega)), zc0 h.el hb (fun h0 g hg => hn g (by have := h.ow h0 g hg; omega)), h.len, fun ha => ?_, ?_, h.sz, h.ow⟩
 · obtain ⟨n, hn2, hm⟩ := h.f ha;exact ⟨n, hn2, hm.but (But.ofD hb) (hn F (by omega))⟩
 · obtain ⟨n, hf, hm, hx⟩ := h.h;exact ⟨n, hf, hm.but (But.ofD hb) (hn H (by omega)), hx⟩
theorem Wk.below {l : List Ent} {hv : List Hld} {B p M F H : Nat} {vl : Value} {S : List Md} {w w' : World} (h : Wk l hv B p M F H vl S w) (hb : Below w.heap.size w w') : Wk l hv B p M F H vl S w' := h.but (Dl.But.of_below hb) (fun k hk h2 => by have := lt_heap h.k; omega)
theorem Wk.cells {l : List Ent} {hv : List Hld} {B p M F H : Nat} {vl : Value} {S : List Md} {w : World} (h : Wk l hv B p M F H vl S w) : w.cell? ⟨p, 0, none⟩ = some vl ∧ w.cell? ⟨p, 1, none⟩ = some (.slice (some ⟨M, 0, none⟩) l.length l.length) ∧ w.cell? ⟨p, 2, none⟩ = some (.bool (z3m l)) ∧ w.cell? ⟨p, 3, none⟩ = some (.map (some F)) ∧ w.cell? ⟨p, 4, none⟩ = some (.map (some H)) :=
 ⟨(cell_of_row w p 0 _ _ _ h.k).trans rfl, (cell_of_row w p 1 _ _ _ h.k).trans rfl, (cell_of_row w p 2 _ _ _ h.k).trans rfl, (cell_of_row w p 3 _ _ _ h.k).trans rfl, (cell_of_row w p 4 _ _ _ h.k).trans rfl⟩
theorem zn8 (W : World) : (zeroValue 82).run Tryz.prog W = .ok (.agg #[.bool false, .int .i64 0, .string ⟨#[]⟩, .int .i64 0]) W := by kernel_rfl
theorem zhf (W : World) : (zeroValue 3).run Tryz.prog W = .ok (.int .i64 0) W := by kernel_rfl
theorem base_any {l : List Ent} {hv : List Hld} {B p M F H : Nat} {vl : Value} {S : List Md} {w : World} (h : Wk l hv B p M F H vl S w) {j : Nat} (hj : j < l.length) {e : Ent} (he : e = l.getD j z0p)
 (h6 : e.kind = 6 → 1 ≤ e.back ∧ e.back ≤ (j : Int)) (h67 : e.kind = 6 ∨ e.kind = 7) (hbl : e.base.length ≤ maxLen) (hll : l.length ≤ 1000000) :
 Calls Tryz.prog 105 #[.pointer (some ⟨p, 0, none⟩), .int .i64 (j : Int)] w (z06 (mdV (z2s S hv j e)) w) := by
 obtain ⟨g, o, c, rfl, _, hg⟩ := h.el.pos (by omega);obtain ⟨R, hR⟩ := zx (z2s S hv j e);rw [← hR];obtain ⟨wa, hwa⟩ := zx (w.alloc (.cells #[.bool false, .int .i64 0, .string ⟨#[]⟩, .int .i64 0] 82));have ba : Below w.heap.size w wa := by rw [hwa]; exact below_new w _
 have hA := h.below ba;obtain ⟨p0, p1, p2, p3⟩ := EntsR.cells hA.el j hj;rw [← he] at p0 p1 p2 p3;obtain ⟨kd, bk, bs, dt⟩ := e;unfold SV at p2 p3;simp only at p0 p1 p2 p3 h6 h67 hbl;obtain ⟨wb, hwb⟩ := zx (wa.alloc (.cells #[.int .i64 kd, .int .i64 bk, .string ⟨bs.toArray⟩, .string ⟨dt.toArray⟩] 51));have bb : Below wa.heap.size wa wb := by rw [hwb]; exact below_new wa _
 have hBk := hA.below bb;have kz : wb.heap[w.heap.size]? = some (.cells #[.bool false, .int .i64 0, .string ⟨#[]⟩, .int .i64 0] 82 (0, 0)) := (bb.block _ (by rw [hwa]; simp)).trans (by rw [hwa]; exact heap_alloc_new w _);have ke : wb.heap[wa.heap.size]? = some (.cells #[.int .i64 kd, .int .i64 bk, .string ⟨bs.toArray⟩, .string ⟨dt.toArray⟩] 51 (0, 0)) := by rw [hwb]; exact heap_alloc_new wa _
 have hBw : Below w.heap.size w wb := ba.trans (bb.mono ba.size);obtain ⟨B4, hB4⟩ := zx w.heap.size;rw [← hB4] at kz;obtain ⟨c0, c1, c2, c3, c4⟩ := hA.cells;have hjI : (j : Int) < (l.length : Int) := by omega
 have HWa := zh hwa; have HWb := zh hwb; have HK := zh hBk; have HKz := zh kz; have HKe := zh ke; have HBw := zh hBw;have HB4 : Hid (w.heap.size = B4) := zh hB4.symm;have HB4l : Hid (w.heap.size ≤ B4) := zh (by omega);have HRR := zh hR; have H6 := zh h6; have HE := zh he;clear hwa hwb hBk kz ke hBw hA h ba bb hB4 hR h6 he hg
 go_enter Tryz.func105, Tryz.ntmps105
 go_upto_region 1 with fail
 rw [← HWa.out, HB4.out]
 go_upto_region 2 with fail
 rw [← HWb.out];clear c0 c1 c2 c3 c4 p0 p1 p2 p3;obtain ⟨c0, c1, c2, c3, c4⟩ := HK.out.cells;obtain ⟨e0, e1, e2, e3⟩ := cells4 HKe.out;obtain ⟨z0, z1, z2, z3⟩ := cells4 HKz.out;have g0 := z07 HKz.out 0; have g1 := z07 HKz.out 1; have g2 := z07 HKz.out 2; have g3 := z07 HKz.out 3;have hlen := HK.out.len;have Hlen := zh hlen;clear hlen;by_cases hk : kd = 6
 · have hb := H6.out hk;subst hk;obtain ⟨bn, rfl⟩ := Int.eq_ofNat_of_zero_le (show 0 ≤ bk by omega);have hq : bn ≤ j := by omega
   obtain ⟨q, hqe⟩ := zx (j - bn);have hwq : IntKind.i64.wrap ((j : Int) - (bn : Int)) = (q : Int) := by rw [show (j : Int) - (bn : Int) = (q : Int) by omega]; exact IntWalk.i64_in _ (by omega)
   have hqI : (q : Int) < (l.length : Int) := by omega
   have hqS : q < S.length := by have := Hlen.out; omega
   obtain ⟨m0, m1, m2, m3⟩ := HK.out.m.cells q hqS
   have hRq : R = S.getD q noMd := by
    rw [HRR.out];unfold z2s;rw [if_pos rfl];show S.getD (j - (bn : Int).toNat) noMd = _;rw [Int.toNat_natCast, ← hqe]
   obtain ⟨mm, hmm⟩ := zx (S.getD q noMd);rw [← hmm] at m0 m1 m2 m3 hRq;obtain ⟨mt, mk, md, mp⟩ := mm;simp only at m0 m1 m2 m3;have HRq := zh hRq;have HfF := zh (cells4 (set4 HKz.out (.bool mt) (.int .i64 mk) (.string ⟨md.toArray⟩) (.int .i64 (mp : Int))));have HFB := zh (z4q HBw.out HB4l.out (.bool mt) (.int .i64 mk) (.string ⟨md.toArray⟩) (.int .i64 (mp : Int)));clear hb hq hqe hqS hRq hmm hbl h67
   go_upto_region 3 with fail
   go_big_region
   go_wp2
   obtain ⟨f0, f1, f2, f3⟩ := HfF.out;refine bodyPost_ret (v := .agg #[.bool mt, .int .i64 mk, .string ⟨md.toArray⟩, .int .i64 (mp : Int)]) (by simp [results, Tryz.results105, go_sem, f0, f1, f2, f3]) rfl ⟨?_, HFB.out.drew⟩;rw [HRq.out];rfl
 · obtain rfl : kd = 7 := by omega
   have hmem : (⟨7, bk, bs, dt⟩ : Ent) ∈ l := by rw [HE.out]; exact z1w l z0p j hj
   have hnm := zn7 hmem rfl;simp only at hnm;have hask := asked_of hnm;rw [hask] at c2;obtain ⟨n1, _, hF⟩ := HK.out.f hask;obtain ⟨n2, hf, hH, hhf⟩ := HK.out.h
   have hRq : R = match z1g S bs with | some k => S.getD k noMd | none => match z0t hv bs with | some h => zmi h | none => noMd := by
    rw [HRR.out];unfold z2s;rw [if_neg (by simp)];rfl
   have hlk := look_ok (hF.below (Below.refl _ _).drew hF.lt) Tryz.underlying121 (zhf _) hbl;have hff : z2u S bs = (z1g S bs).map fun (k : Nat) => Value.int .i64 (k : Int) := rfl;clear hk h67 hF hmem;cases hfi : z1g S bs with
   | some k =>
     rw [hfi] at hRq hff;simp only at hRq;rw [hff] at hlk;simp only [Option.map_some, Option.getD_some, Option.isSome_some] at hlk;have hkS := (z2j.1 hfi).1;have hkI : (k : Int) < (l.length : Int) := by have := Hlen.out; omega
     obtain ⟨m0, m1, m2, m3⟩ := HK.out.m.cells k hkS;obtain ⟨mm, hmm⟩ := zx (S.getD k noMd);rw [← hmm] at m0 m1 m2 m3 hRq;obtain ⟨mt, mk, md, mp⟩ := mm;simp only at m0 m1 m2 m3;have HRq := zh hRq;have HfF := zh (cells4 (set4 HKz.out (.bool mt) (.int .i64 mk) (.string ⟨md.toArray⟩) (.int .i64 (mp : Int))));have HFB := zh (z4q HBw.out HB4l.out (.bool mt) (.int .i64 mk) (.string ⟨md.toArray⟩) (.int .i64 (mp : Int)));clear hRq hmm hfi hkS hff hhf hH hask hnm hbl
     go_upto_region 4 with fail
     go_big_region
     go_wp2
     obtain ⟨f0, f1, f2, f3⟩ := HfF.out;refine bodyPost_ret (v := .agg #[.bool mt, .int .i64 mk, .string ⟨md.toArray⟩, .int .i64 (mp : Int)]) (by simp [results, Tryz.results105, go_sem, f0, f1, f2, f3]) rfl ⟨?_, HFB.out.drew⟩;rw [HRq.out];rfl
   | none =>
     rw [hfi] at hRq hff;simp only at hRq;rw [hff] at hlk;simp only [Option.map_none, Option.getD_none, Option.isSome_none] at hlk;have hlk2 := hH.below (Below.refl _ _).drew hH.lt |>.below (Below.refl _ _).drew hH.lt |>.look Tryz.underlying122 (zn8 _) hbl
     rw [hhf bs hnm] at hlk2
     have hval : (z7j hv bs).getD (.agg #[.bool false, .int .i64 0, .string ⟨#[]⟩, .int .i64 0]) = mdV R := by
      rw [hRq];unfold z7j;cases z0t hv bs <;> rfl
     rw [hval] at hlk2;obtain ⟨mt, mk, md, mp⟩ := R;unfold mdV at hlk2;simp only at hlk2;have HfF := zh (cells4 (set4 HKz.out (.bool mt) (.int .i64 mk) (.string ⟨md.toArray⟩) (.int .i64 (mp : Int))));have HFB := zh (z4q HBw.out HB4l.out (.bool mt) (.int .i64 mk) (.string ⟨md.toArray⟩) (.int .i64 (mp : Int)));clear hRq hfi hff hhf hH hask hnm hbl hval
     go_upto_region 4 with fail
     go_big_region
     go_upto_region 7 with fail
     go_big_region
     go_wp2
     obtain ⟨f0, f1, f2, f3⟩ := HfF.out;refine bodyPost_ret (v := .agg #[.bool mt, .int .i64 mk, .string ⟨md.toArray⟩, .int .i64 (mp : Int)]) (by simp [results, Tryz.results105, go_sem, f0, f1, f2, f3]) rfl ⟨rfl, HFB.out.drew.drew⟩
theorem zix {l : List Ent} {hv : List Hld} {B p M F H : Nat} {vl : Value} {S : List Md} {w : World} (h : Wk l hv B p M F H vl S w) {j : Nat} (hj : j < l.length) {e : Ent} (he : e = l.getD j z0p)
 (h6 : e.kind = 6 → 1 ≤ e.back ∧ e.back ≤ (j : Int)) (h67 : e.kind = 6 ∨ e.kind = 7) (hbl : e.base.length ≤ maxLen) (hll : l.length ≤ 1000000) {bw ba : Nat} (c1 : w.cell? ⟨bw, 0, none⟩ = some (.pointer (some ⟨p, 0, none⟩))) (c2 : w.cell? ⟨ba, 0, none⟩ = some (.int .i64 (j : Int))) :
 Calls Tryz.prog 104 #[.pointer (some ⟨bw, 0, none⟩), .pointer (some ⟨ba, 0, none⟩)] w (z06 (mdV (z2s S hv j e)) w) := by
 obtain ⟨wa, hwa⟩ := zx (w.alloc (.cells #[.bool false, .int .i64 0, .string ⟨#[]⟩, .int .i64 0] 82));have b1 : Below w.heap.size w wa := by rw [hwa]; exact below_new w _
 have HBs := zh (base_any (h.below b1) hj he h6 h67 hbl hll);have c1' : wa.cell? ⟨bw, 0, none⟩ = some (.pointer (some ⟨p, 0, none⟩)) := (b1.cell (p := ⟨bw, 0, none⟩) (World.block_lt_of_cell? w _ c1)).trans c1;have c2' : wa.cell? ⟨ba, 0, none⟩ = some (.int .i64 (j : Int)) := (b1.cell (p := ⟨ba, 0, none⟩) (World.block_lt_of_cell? w _ c2)).trans c2;have kz : wa.heap[w.heap.size]? = some (.cells #[.bool false, .int .i64 0, .string ⟨#[]⟩, .int .i64 0] 82 (0, 0)) := by rw [hwa]; exact heap_alloc_new w _
 obtain ⟨R, hR⟩ := zx (z2s S hv j e);rw [← hR] at HBs ⊢;have HWa := zh hwa; have HKz := zh kz; have HB1 := zh b1;clear h he h6 h67 hbl hll c1 c2 hwa kz b1 hR
 go_enter Tryz.func104, Tryz.ntmps104
 go_upto_region 1 with fail
 rw [← HWa.out]
 go_wp2_with fail
 refine HBs.out.mono ?_;rintro e w2 ⟨rfl, b2⟩;obtain ⟨mt, mk, md, mp⟩ := R;unfold mdV;simp only;have kz2 := (b2.block _ (lt_heap HKz.out)).trans HKz.out;obtain ⟨z0, z1, z2, z3⟩ := cells4 kz2;have g0 := z07 kz2 0; have g1 := z07 kz2 1; have g2 := z07 kz2 2; have g3 := z07 kz2 3;have HfF := zh (cells4 (set4 kz2 (.bool mt) (.int .i64 mk) (.string ⟨md.toArray⟩) (.int .i64 (mp : Int))));have HFB := zh (z4q (HB1.out.trans (b2.mono HB1.out.size)) (Nat.le_refl w.heap.size) (.bool mt) (.int .i64 mk) (.string ⟨md.toArray⟩) (.int .i64 (mp : Int)));clear kz2 b2 HBs c1' c2'
 go_wp2
 obtain ⟨f0, f1, f2, f3⟩ := HfF.out;exact bodyPost_ret (v := .agg #[.bool mt, .int .i64 mk, .string ⟨md.toArray⟩, .int .i64 (mp : Int)]) (by simp [results, Tryz.results104, go_sem, f0, f1, f2, f3]) rfl ⟨rfl, HFB.out⟩
theorem zn9 {S : List Md} {j : Nat} {m : Md} (hj : j < S.length) (h0 : (S.getD j noMd).th = false) (hm : m.th = true) (hp : putF (z1g S (idL m.kd m.dt)) j = some j) : updF (z2u S) (idL m.kd m.dt) (.int .i64 (j : Int)) = z2u (S.set j m) := by
 funext x;unfold updF z2u;rw [zdp hj h0 hm x];by_cases e : x = idL m.kd m.dt
 · rw [if_pos e, if_pos e, e, hp]; rfl
 · rw [if_neg e, if_neg e]
theorem ziy {S : List Md} {j : Nat} {m : Md} (hj : j < S.length) (h0 : (S.getD j noMd).th = false) (hm : m.th = true) (hp : putF (z1g S (idL m.kd m.dt)) j = z1g S (idL m.kd m.dt)) : z2u S = z2u (S.set j m) := by
 funext x;unfold z2u;rw [zdp hj h0 hm x];by_cases e : x = idL m.kd m.dt
 · rw [if_pos e, e, hp]
 · rw [if_neg e]
theorem nm_len (k : Int) (d : Bs) : (idL k d).length ≤ 64 := by
 unfold idL;split
 · unfold z3u;rw [z7q, z11];omega
 · simp
def KeepP (l : List Ent) (hv : List Hld) (B p M F H : Nat) (vl : Value) (S : List Md) (w : World) (e : Ending) (w' : World) : Prop := e = .returned (.tuple #[]) ∧ Wk l hv B p M F H vl S w' ∧ Dl.But (fun k => k = M ∨ k = F) w w'
theorem keep_any {l : List Ent} {hv : List Hld} {B p M F H : Nat} {vl : Value} {S : List Md} {w : World} (h : Wk l hv B p M F H vl S w) {j : Nat} (hj : j < l.length) {m : Md} (h0 : (S.getD j noMd).th = false) (hm : m.th = true) (hd : m.dt.length ≤ 80000) {w0 : World} (ho : Ob w0) (hB0 : w0.heap.size = B) (h00 : Below B w0 w) (hll : l.length ≤ 1000000) :
 Calls Tryz.prog 106 #[.pointer (some ⟨p, 0, none⟩), .int .i64 (j : Int), mdV m] w (KeepP l hv B p M F H vl (S.set j m) w) := by
 have hjS : j < S.length := by rw [h.len]; exact hj
 have hFu := zn9 hjS h0 hm;have hFs := ziy hjS h0 hm;have hlf := zh9 hjS h0 hm;have hnl := nm_len m.kd m.dt;obtain ⟨S', hS'⟩ := zx (S.set j m);rw [← hS'] at hFu hFs hlf ⊢;obtain ⟨s1, s2, s3, s4⟩ := h.sz;obtain ⟨wa, hwa⟩ := zx (w.alloc (mdO m));have b1 : Below w.heap.size w wa := by rw [hwa]; exact below_new w _
 have hA := h.below b1;obtain ⟨c0, c1, c2, c3, c4⟩ := hA.cells;obtain ⟨m0, m1, m2, m3⟩ := hA.m.cells j hjS;obtain ⟨cur, hcur, _⟩ := hA.m;have g0 := z07 hcur (j * 4); have g1 := z07 hcur (j * 4 + 1); have g2 := z07 hcur (j * 4 + 2); have g3 := z07 hcur (j * 4 + 3);have hset := hA.m.set hjS m;rw [← hS'] at hset;have hkb : wa.heap[w.heap.size]? = some (mdO m) := by rw [hwa]; exact heap_alloc_new w _
 obtain ⟨mt, mk, md, mp⟩ := m;simp only at hm hFu hFs hnl hset hd;subst hm;unfold mdO at hwa hkb;simp only at hwa hkb;obtain ⟨x0, x1, x2, x3⟩ := cells4 hkb;obtain ⟨wb, hwb⟩ := zx ((((wa.setCell ⟨M, j * 4, none⟩ (.bool true)).setCell ⟨M, j * 4 + 1, none⟩ (.int .i64 mk)).setCell ⟨M, j * 4 + 2, none⟩ (.string ⟨md.toArray⟩)).setCell ⟨M, j * 4 + 3, none⟩ (.int .i64 (mp : Int)));rw [← hwb] at hset
 have tb : Dl.But (fun k => k = M) wa wb := by
  rw [hwb];exact ((((Dl.But.refl (fun k => k = M) wa).setCell (p := ⟨M, j * 4, none⟩) rfl _).setCell (p := ⟨M, j * 4 + 1, none⟩) rfl _).setCell (p := ⟨M, j * 4 + 2, none⟩) rfl _).setCell (p := ⟨M, j * 4 + 3, none⟩) rfl _
 have hjI : (j : Int) < (l.length : Int) := by omega
 have hlen' : S'.length = l.length := by rw [hS', List.length_set]; exact h.len
 have hWk : ∀ W, Dl.But (fun k => k = F) wb W → (∀ n f, (z3m l = true → n + left S' ≤ l.length) → MapS W F n f → f = z2u S' → Wk l hv B p M F H vl S' W) ∧ (z3m l = false → Wk l hv B p M F H vl S' W) := fun W hW => by
  have T : Dl.But (fun k => k = M ∨ k = F) wa W := (tb.mono fun k _ h => .inl h).trans (hW.mono fun k _ h => .inr h);have k' := (T.block p (lt_heap hA.k) (by omega)).trans hA.k;have m' : MdM W M S' := hset.but hW (by omega);have e' : EntsR W vl l := zc0 hA.el T (fun h0 g hg => by have := hA.ow h0 g hg; omega)
  have h' : ∃ n hf, MapS W H n hf ∧ ∀ x, x ∈ z0x l → hf x = z7j hv x := by
   obtain ⟨n, hf, hm, hx⟩ := hA.h;exact ⟨n, hf, hm.but (But.ofD T) (by omega), hx⟩
  exact ⟨fun n f hn hf hfe => ⟨k', m', e', hlen', fun ha => ⟨n, hn ha, by rw [← hfe]; exact hf⟩, h', ⟨s1, s2, s3, s4⟩, hA.ow⟩, fun ha => ⟨k', m', e', hlen', (fun h => by rw [ha] at h; cases h), h', ⟨s1, s2, s3, s4⟩, hA.ow⟩⟩
 have hMp : ∀ W, Below wb.heap.size wb W → z3m l = true → ∃ n, n + left S ≤ l.length ∧ MapS W F n (z2u S) := fun W hW ha => by
  have T : Dl.But (fun k => k = M) wa W := tb.trans (Dl.But.of_new hW);obtain ⟨n, hn, hm⟩ := hA.f ha;exact ⟨n, hn, hm.but (But.ofD T) (by omega)⟩
 have hob : Ob wb := ho.below (by
  rw [hB0];exact (h00.trans (b1.mono (by have := h00.size; omega))).trans (tb.below (fun k _ h => by omega) (by have := h00.size; have := b1.size; omega)))
 have tw : Dl.But (fun k => k = M ∨ k = F) w wb := (Dl.But.of_new b1).trans (tb.mono fun k _ h => .inl h);have kb' := (tb.block _ (lt_heap hkb) (by have := lt_heap hA.k; have := b1.size; have := lt_heap h.k; omega)).trans hkb;have HWk := zh hWk; have HMpp := zh hMp; have HWa := zh hwa; have HWb := zh hwb; have HTw := zh tw; have HKb := zh kb';have HFu := zh hFu; have HFs := zh hFs; have Hlf := zh hlf; have Hnl := zh hnl; have Hll := zh hll;have hkp := (tb.block p (lt_heap hA.k) (by omega)).trans hA.k;have HKp := zh hkp;have HId := zh (fun (W : World) (hW : Below wb.heap.size wb W) => Id_any mk md hd W (hob.below hW).eb (hob.below hW).tb (hob.below hW).pr);clear hWk hMp hwa hwb tw kb' hFu hFs hlf hnl hA hset hcur hkb hkp b1 tb hob ho h00 h hS' hlen' h0 hd s1 s2 s3 s4;unfold mdV;simp only
 go_enter Tryz.func106, Tryz.ntmps106
 go_upto_region 1 with fail
 rw [← HWa.out]
 go_big_region
 rw [← HWb.out];clear HWa HWb c0 c1 c2 c3 c4 m0 m1 m2 m3 g0 g1 g2 g3 x0 x1 x2 x3;obtain ⟨wd, hwd⟩ := zx wb.drew;have bd : Below wb.heap.size wb wd := by rw [hwd]; exact (Below.refl _ _).drew
 rw [← hwd];have kp := (bd.block p (lt_heap HKp.out)).trans HKp.out;have kb := (bd.block _ (lt_heap HKb.out)).trans HKb.out;have c1 : wd.cell? ⟨p, 1, none⟩ = some (.slice (some ⟨M, 0, none⟩) l.length l.length) := (cell_of_row wd p 1 _ _ _ kp).trans rfl;have c2 : wd.cell? ⟨p, 2, none⟩ = some (.bool (z3m l)) := (cell_of_row wd p 2 _ _ _ kp).trans rfl;have c3 : wd.cell? ⟨p, 3, none⟩ = some (.map (some F)) := (cell_of_row wd p 3 _ _ _ kp).trans rfl;obtain ⟨x0, x1, x2, x3⟩ := cells4 kb;have hw := HWk.out wd (Dl.But.of_new bd);have tf := HTw.out.trans (Dl.But.of_new (S := fun k => k = M ∨ k = F) bd);have HBd := zh bd;clear hwd;cases hask : z3m l with
 | false =>
   have HF : Hid (KeepP l hv B p M F H vl S' w (.returned (.tuple #[])) wd) := zh ⟨rfl, hw.2 hask, tf⟩;rw [hask] at c2;clear hw tf kp kb bd hask
   go_wp2
   go_end0
   exact HF.out
 | true =>
   rw [hask] at c2;have HI := zh (HId.out wd bd);have Hask := zh hask;unfold ObjV at HI;clear hw tf kp kb bd hask HId
   go_wp2_with fail
   refine HI.out.mono ?_;rintro e w3 ⟨rfl, b3⟩;obtain ⟨nm, hnm⟩ := zx (idL mk md);have hnl := Hnl.out;have hFu := HFu.out;have hFs := HFs.out;rw [← hnm] at hFu hFs hnl;rw [← hnm];unfold SV;have hB3 : Below wb.heap.size wb w3 := HBd.out.trans (b3.mono HBd.out.size);have hw3 := HWk.out w3 (Dl.But.of_new hB3);obtain ⟨n, hn, hmp⟩ := HMpp.out w3 hB3 Hask.out;have hlt3 : w3.heap.size ≥ wd.heap.size := b3.size;have c13 : w3.cell? ⟨p, 3, none⟩ = some (.map (some F)) := cell_to c3 b3;have hlk := look_ok hmp Tryz.underlying121 (zhf _) (x := nm) (by unfold maxLen; omega);have t3 := HTw.out.trans (Dl.But.of_new (S := fun k => k = M ∨ k = F) hB3);have hff : z2u S nm = (z1g S nm).map fun (k : Nat) => Value.int .i64 (k : Int) := rfl;have Hn := zh hn; have HMp := zh hmp; have HB3 := zh hB3; have HT3 := zh t3
   have HFin : Hid (∀ w4, MapS w4 F (n + 1) (updF (z2u S) nm (.int .i64 (j : Int))) → w3.grownBy w4 (some F) → putF (z1g S nm) j = some j → KeepP l hv B p M F H vl S' w (.returned (.tuple #[])) w4) := zh fun w4 hm4 hg4 hp => by
    have t4 : Dl.But (fun k => k = F) w3 w4 := ⟨hg4.os, hg4.tape, hg4.output, hg4.size, fun k hk hn => hg4.block k hk (fun e => hn (Option.some.inj e))⟩
    exact ⟨rfl, (HWk.out w4 ((Dl.But.of_new hB3).trans t4)).1 (n + 1) _ (fun _ => by have := Hlf.out; omega) hm4 (hFu hp), t3.trans (t4.mono fun k _ h => .inr h)⟩
   have HStay : Hid (putF (z1g S nm) j = z1g S nm → KeepP l hv B p M F H vl S' w (.returned (.tuple #[])) w3) := zh fun hp => ⟨rfl, hw3.1 n (z2u S) (fun _ => by have := Hlf.out; omega) hmp (hFs hp), t3⟩
   have hnm64 : nm.length ≤ maxLen := by unfold maxLen; omega
   have HNm := zh hnm64;have Hnmx : Hid (n < maxLen) := zh (by have := Hll.out; unfold maxLen; omega);clear hw3 hn hmp hB3 t3 b3 hFu hFs hnl hlt3 HI c1 c2 c3 x0 x1 x2 x3 hnm64 hnm;cases hfi : z1g S nm with
   | none =>
     rw [hfi] at hff;rw [hff] at hlk;simp only [Option.map_none, Option.getD_none, Option.isSome_none] at hlk;have Hfi : Hid (putF (z1g S nm) j = some j) := zh (by rw [hfi]; rfl);clear hfi hff
     go_wp2_with (at_mapUpdate; refine z6a rfl _ _ _ 121 3 rfl Tryz.underlying121 F n _ nm (.int .i64 (j : Int)) rfl rfl rfl HMp.out Hnmx.out HNm.out ?_)
     intro w4 hm4 hg4;have HF := zh (HFin.out w4 hm4 hg4 Hfi.out);clear hm4 hg4 hlk c13
     go_wp2_with fail
     go_end0
     exact HF.out
   | some k =>
     rw [hfi] at hff;rw [hff] at hlk;simp only [Option.map_some, Option.getD_some, Option.isSome_some] at hlk;by_cases hjk : j < k
     · have hjkI : (j : Int) < (k : Int) := by omega
       have Hfi : Hid (putF (z1g S nm) j = some j) := zh (by rw [hfi]; unfold putF; simp only; rw [if_pos hjk]);clear hfi hff hjk
       go_wp2_with (at_mapUpdate; refine z6a rfl _ _ _ 121 3 rfl Tryz.underlying121 F n _ nm (.int .i64 (j : Int)) rfl rfl rfl HMp.out Hnmx.out HNm.out ?_)
       intro w4 hm4 hg4;have HF := zh (HFin.out w4 hm4 hg4 Hfi.out);clear hm4 hg4 hlk c13
       go_wp2_with fail
       go_end0
       exact HF.out
     · have hjkI : ¬ (j : Int) < (k : Int) := by omega
       have HF := zh (HStay.out (by rw [hfi]; unfold putF; simp only; rw [if_neg hjk]));clear hfi hff hjk
       go_wp2_with fail
       go_end0
       exact HF.out
def Sane (S : List Md) : Prop := ∀ j, (S.getD j noMd).dt.length ≤ 65536 ∧ (S.getD j noMd).dp ≤ 16
theorem zna {k : Int} {d : Bs} (h : (z0g k d).isSome = true) : d.length ≤ 65536 := by
 rcases Nat.lt_or_ge 65536 d.length with h2 | h2
 · unfold z0g at h;rw [if_pos h2] at h;cases h
 · exact h2
theorem sane_res {e : Ent} {b m : Md} (h : resE e b = .ok m) : m.dt.length ≤ 65536 ∧ m.dp ≤ 16 := by
 by_cases hm : m.th = true
 · have hs := zhb h hm;exact ⟨zna hs.1, hs.2.1⟩
 · unfold resE at h;split at h
   · split at h
     · cases h; exact ⟨by simp [noMd], by simp [noMd]⟩
     · split at h
       · cases h
       · split at h
         · split at h
           · cases h
           · cases h; exact absurd rfl hm
         · cases h
   · split at h
     · cases h; exact absurd rfl hm
     · cases h
theorem sane_set {S : List Md} (h : Sane S) {j : Nat} (hj : j < S.length) {m : Md} (hm : m.dt.length ≤ 65536 ∧ m.dp ≤ 16) : Sane (S.set j m) := fun i => by
 rw [z8h hj];split
 · exact hm
 · exact h i
theorem zdv (l : List Ent) : Sane (z1b l) := fun j => by
 have : (z1b l).getD j noMd = noMd := by
  unfold z1b;rw [zg, List.getElem?_replicate];split <;> rfl
 rw [this];exact ⟨by simp [noMd], by simp [noMd]⟩
theorem znb {S : List Md} {hv : List Hld} (h : Sane S) (hh : ∀ x ∈ hv, x.data.length ≤ 70000) (j : Nat) (e : Ent) : (z2s S hv j e).dt.length ≤ 70000 ∧ (z2s S hv j e).dp ≤ 1000 := by
 unfold z2s;split
 · have := h (j - e.back.toNat); omega
 · split
   · rename_i k _;have := h k; omega
   · split
     · rename_i x hx;exact ⟨hh x (z2r hx), by simp [zmi]⟩
     · simp [noMd]
def z9f (S : List Md) (j : Nat) (X : Except Int Md) : Except Int (List Md × Bool) :=
 if (S.getD j noMd).th = true then .ok (S, false) else
 match X with
 | .error n => .error n
 | .ok m => if m.th = true then .ok (S.set j m, true) else .ok (S, false)
def orR (b : Bool) : Except Int (List Md × Bool) → Except Int (List Md × Bool)
 | .error n => .error n
 | .ok (S, c) => .ok (S, b || c)
theorem ziz {l : List Ent} {hv : List Hld} {k : Nat} {S T : List Md} {b : Bool} (h : z0o l hv k S = .ok (T, b)) : z0o l hv (k + 1) S = orR b (z9f T k (resE (l.getD k z0p) (z2s T hv k (l.getD k z0p)))) := by
 have h2 : stepE l hv k T = z9f T k (resE (l.getD k z0p) (z2s T hv k (l.getD k z0p))) := rfl;rw [z0o, h, ← h2];show _ = orR b (stepE l hv k T);simp only;cases stepE l hv k T <;> rfl
theorem zfq {S : List Md} {j : Nat} {X : Except Int Md} {b : Bool} (h : (S.getD j noMd).th = true) : orR b (z9f S j X) = .ok (S, b) := by
 unfold z9f; rw [if_pos h]; simp [orR]
theorem zfr {S : List Md} {j : Nat} {n : Int} {b : Bool} (h : (S.getD j noMd).th = false) : orR b (z9f S j (.error n)) = .error n := by
 unfold z9f; rw [h]; rfl
theorem zj0 {S : List Md} {j : Nat} {m : Md} {b : Bool} (h : (S.getD j noMd).th = false) (hm : m.th = false) : orR b (z9f S j (.ok m)) = .ok (S, b) := by
 unfold z9f; rw [h, if_neg (by simp)]; simp only; rw [hm]; simp [orR]
theorem zj1 {S : List Md} {j : Nat} {m : Md} {b : Bool} (h : (S.getD j noMd).th = false) (hm : m.th = true) : orR b (z9f S j (.ok m)) = .ok (S.set j m, true) := by
 unfold z9f; rw [h, if_neg (by simp)]; simp only; rw [hm]; simp [orR]
structure Ctx (l : List Ent) (hv : List Hld) (w0 : World) (B : Nat) : Prop where
 right : rightL l = true
 data : ∀ e ∈ l, e.data.length ≤ 10000
 held : ∀ x ∈ hv, x.data.length ≤ 70000
 ob : Ob w0
 base : w0.heap.size = B
def RnP (l : List Ent) (hv : List Hld) (B p M F H : Nat) (vl : Value) (r : Except Int (List Md × Bool)) (w : World) (e : Ending) (w' : World) : Prop := Dl.But (fun k => k = M ∨ k = F) w w' ∧ match r with
 | .ok (S, b) => e = .returned (.tuple #[.bool b, .nilIface]) ∧ Wk l hv B p M F H vl S w' ∧ Sane S
 | .error n => ∃ ev, e = .returned (.tuple #[.bool false, ev]) ∧ FaultIn w' ev n
theorem znc {l : List Ent} {hv : List Hld} {B p M F H : Nat} {vl : Value} {S : List Md} {w w0 : World} (cx : Ctx l hv w0 B) (h00 : Below B w0 w) (h : Wk l hv B p M F H vl S w) (hs : Sane S) :
 Calls Tryz.prog 87 #[.pointer (some ⟨p, 0, none⟩)] w (RnP l hv B p M F H vl (z0o l hv l.length S) w) := by
 obtain ⟨R, hR⟩ := zx (z0o l hv l.length S);rw [← hR];obtain ⟨A, c, rfl⟩ := h.el.shape;obtain ⟨wa, hwa⟩ := zx (w.alloc (.cells #[.pointer (some ⟨p, 0, none⟩)] 117));have b1 : Below w.heap.size w wa := by rw [hwa]; exact below_new w _
 have hA := h.below b1;have kw : wa.heap[w.heap.size]? = some (.cells #[.pointer (some ⟨p, 0, none⟩)] 117 (0, 0)) := by rw [hwa]; exact heap_alloc_new w _
 obtain ⟨bw, hbw⟩ := zx w.heap.size;rw [← hbw] at kw;have hbp : p < bw := by rw [hbw]; exact lt_heap h.k
 have cw : wa.cell? ⟨bw, 0, none⟩ = some (.pointer (some ⟨p, 0, none⟩)) := (cell_of_row wa bw 0 _ _ _ kw).trans rfl;obtain ⟨c0, c1, c2, c3, c4⟩ := hA.cells;have hll : l.length ≤ 512 := (z0h.1 cx.right).1;have HWa := zh hwa; have HA := zh hA; have HKw := zh kw; have HB1 := zh b1; have HR := zh hR; have Hs := zh hs;have Hbw : Hid (w.heap.size = bw) := zh hbw.symm;have HC := zh cx; have H00 := zh h00; have Hbp := zh (And.intro hbp h.sz);clear hwa hA kw b1 hR hbw hbp h hs cx h00
 go_enter Tryz.func87, Tryz.ntmps87
 go_upto_region 1 with fail
 rw [← HWa.out, Hbw.out]
 go_upto_region 3 with fail
 clear c0 c1 c2 c3 c4 cw
 go_loopw [4, 14] (fun v i wr => ∃ (k : Nat) (T : List Md) (b : Bool), k ≤ l.length ∧ i = .int .i64 k ∧ v = .bool b ∧ Hid (Wk l hv B p M F H (.slice A l.length c) T wr) ∧ Hid (Sane T) ∧ Hid (z0o l hv k S = .ok (T, b)) ∧ Hid (Dl.But (fun k => k = M ∨ k = F) wa wr)) (fun _ i _ => l.length - (intOf i).toNat)
 case atStart => exact ⟨0, S, false, Nat.zero_le _, rfl, rfl, HA, Hs, zh rfl, zh (Dl.But.refl _ _)⟩
 case round =>
  obtain ⟨k, T, b, hk, rfl, rfl, hW, hS, hE, hT⟩ := hrel;by_cases hlt : k < l.length
  · obtain ⟨g, o, c', e, _, hg⟩ := hW.out.el.pos (by omega);cases e;have hkT : k < T.length := by rw [hW.out.len]; exact hlt
    obtain ⟨x, hx⟩ := zx (l.getD k z0p);obtain ⟨w1, hw1⟩ := zx (wr.alloc (.cells #[.int .i64 (k : Int)] 3));obtain ⟨w2, hw2⟩ := zx (w1.alloc (entO x));have b1 : Below wr.heap.size wr w1 := by rw [hw1]; exact below_new wr _
    have b2 : Below w1.heap.size w1 w2 := by rw [hw2]; exact below_new w1 _
    have b12 : Below wr.heap.size wr w2 := b1.trans (b2.mono b1.size);obtain ⟨p0, p1, p2, p3⟩ := EntsR.cells hW.out.el k hlt;rw [← hx] at p0 p1 p2 p3;obtain ⟨e0, e1, e2, e3⟩ := z3x hw2;have ka : w1.heap[wr.heap.size]? = some (.cells #[.int .i64 (k : Int)] 3 (0, 0)) := by rw [hw1]; exact heap_alloc_new wr _
    have kwr := (hT.out.block bw (lt_heap HKw.out) (by have := Hbp.out; omega)).trans HKw.out;have kw2 := (b12.block bw (lt_heap kwr)).trans kwr;have ka2 := (b2.block _ (lt_heap ka)).trans ka;have hW2 := hW.out.below b12;obtain ⟨c0, c1, c2, c3, c4⟩ := hW2.cells;obtain ⟨m0, m1, m2, m3⟩ := hW2.m.cells k hkT;have cw : w2.cell? ⟨bw, 0, none⟩ = some (.pointer (some ⟨p, 0, none⟩)) := (cell_of_row w2 bw 0 _ _ _ kw2).trans rfl;have ca : w2.cell? ⟨wr.heap.size, 0, none⟩ = some (.int .i64 (k : Int)) := (cell_of_row w2 _ 0 _ _ _ ka2).trans rfl;obtain ⟨Ba, hBa⟩ := zx wr.heap.size;rw [← hBa] at ca;have hs1 : w1.heap.size = Ba + 1 := by rw [hw1, hBa]; simp
    rw [hs1] at e0 e1 e2 e3;have hok := z87 ((z0h.1 HC.out.right).2 k hlt);rw [← hx] at hok;have hxl : x ∈ l := by rw [hx]; exact z1w l z0p k hlt
    have hxd := HC.out.data x hxl
    have hxb : x.base.length ≤ 64 := by
     rcases hok.2.1 with ⟨_, _, _, h⟩ | ⟨_, _, h⟩ | ⟨_, _, h⟩
     · rw [h]; simp
     · rw [h]; simp
     · rw [named_len h]; omega
    have h6 : x.kind = 6 → 1 ≤ x.back ∧ x.back ≤ (k : Int) := fun h => by
     rcases hok.2.1 with ⟨h1, h2, _, _⟩ | ⟨_, h2, _⟩ | ⟨h1, _, _⟩
     · omega
     · exact ⟨h2, hok.2.2⟩
     · omega
    have hob2 : Ob w2 := HC.out.ob.below (by
     have h1 := H00.out;have h2 := HB1.out;have h3 := hT.out;have hsz := Hbp.out.2;have hbase := HC.out.base;have hbb := Hbw.out;rw [hbase];have hq0 := h1.size;refine ((h1.trans (h2.mono (by omega))).trans (h3.below (fun q _ hq => by omega) (by have := h2.size; omega))).trans (b12.mono ?_);have := h2.size; have := h3.size; omega)
    have hbs := znb hS.out HC.out.held k x
    have HRv := zh (fun (W : World) (hW9 : Below w2.heap.size w2 W) => zdr (w := W) (e := x) (b := z2s T hv k x) (bw := bw) (ba := Ba) hxd hbs.1 hbs.2 (hob2.below hW9).eb (hob2.below hW9).tb
     (fun h67 W2 hW3 => zix ((hW2.below hW9).below hW3) hlt hx h6 h67 (by unfold maxLen; omega) (by omega) (cell_to (cell_to cw hW9) hW3) (cell_to (cell_to ca hW9) hW3)))
    obtain ⟨X, hX⟩ := zx (resE x (z2s T hv k x));rw [← hX] at HRv;have hstep := ziz (hv := hv) hE.out;rw [← hx, ← hX] at hstep;obtain ⟨mm, hmm⟩ := zx ((T.getD k noMd).th);rw [← hmm] at m0;have HX := zh hX; have HStep := zh hstep; have HW2' := zh hW2; have Hob2 := zh hob2;have Hw2 := zh hw2; have Hw1 := zh hw1; have Hmm := zh hmm;have HT2 : Hid (Dl.But (fun k => k = M ∨ k = F) wa w2) := zh (hT.out.trans (Dl.But.of_new b12));have HBa : Hid (wr.heap.size = Ba) := zh hBa.symm;have HBal : Hid (p < Ba) := zh (by rw [hBa]; exact lt_heap hW.out.k);have HKw2 := zh kw2;obtain ⟨xk, xb, xs, xd⟩ := x;unfold SV at p2 p3;unfold entO at hw2;simp only at p0 p1 p2 p3 e0 e1 e2 e3 hw2;have Hw2' := zh hw2;clear hs1 hX hstep hW2 hob2 hw2 hw1 hmm b1 b2 b12 ka kwr kw2 ka2 hBa hok hxl hxd hxb h6 hbs hx Hw2
    go_upto_region 5 with fail
    change Code.wp Tryz.prog _ _ _ ((wr.alloc (.cells #[.int .i64 (k : Int)] 3)).alloc (.cells #[.int .i64 xk, .int .i64 xb, .string ⟨xs.toArray⟩, .string ⟨xd.toArray⟩] 51));rw [← Hw1.out, ← Hw2'.out, HBa.out];clear p0 p1 p2 p3
    go_big_region
    obtain ⟨wd, hwd⟩ := zx w2.drew;have bd : Below w2.heap.size w2 wd := by rw [hwd]; exact (Below.refl _ _).drew
    rw [← hwd];have HTd : Hid (Dl.But (fun k => k = M ∨ k = F) wa wd) := zh (HT2.out.trans (Dl.But.of_new bd));have HWd := zh (HW2'.out.below bd);cases mm with
    | true =>
      have hE2 : z0o l hv (k + 1) S = .ok (T, b) := by rw [HStep.out]; exact zfq Hmm.out.symm
      have HE2 := zh hE2;clear hE2 HStep hwd bd HRv m0 m1 m2 m3 c0 c1 c2 c3 c4 cw ca e0 e1 e2 e3
      go_wp2_with fail
      go_roundw
      case rel => exact ⟨k + 1, T, b, hlt, by go_num, rfl, HWd, hS, HE2, HTd⟩
      case measure => simp [intOf]; omega
    | false =>
      have e0' := cell_to e0 bd; have e1' := cell_to e1 bd; have e2' := cell_to e2 bd; have e3' := cell_to e3 bd;have cw' := cell_to cw bd; have ca' := cell_to ca bd;have HRd := zh (HRv.out wd bd);have HCw := zh (And.intro cw' ca');have Hbd := zh bd;clear hwd bd HRv m0 m1 m2 m3 c0 c1 c2 c3 c4 cw ca e0 e1 e2 e3;unfold entV baseF at HRd
      go_wp2_with fail
      refine HRd.out.mono ?_;rintro e w3 ⟨rfl, b3⟩;have HT3 : Hid (Dl.But (fun k => k = M ∨ k = F) wa w3) := zh (HTd.out.trans (Dl.But.of_new b3));have HW3 := zh (HWd.out.below b3);have cw3 := cell_to HCw.out.1 b3; have ca3 := cell_to HCw.out.2 b3;clear b3 HRd HTd HWd e0' e1' e2' e3' cw' ca' HCw;cases X with
      | error n =>
        have hE2 : z0o l hv (k + 1) S = .error n := by rw [HStep.out]; exact zfr Hmm.out.symm
        have hE3 : R = .error n := by
         rw [HR.out, show l.length = (k + 1) + (l.length - (k + 1)) by omega];exact z9c _ hE2
        have HE3 := zh hE3;unfold ResV mdV noMd;simp only;obtain ⟨w4, hw4⟩ := zx (w3.alloc (.cells #[.bool false, .int .i64 0, .string ⟨#[]⟩, .int .i64 0] 82));have b4 : Below w3.heap.size w3 w4 := by rw [hw4]; exact below_new w3 _
        have ca4 := cell_to ca3 b4;have q2 : ∀ (v : Value) (W : World), (binOp .neq 64 (.iface 26 v) .nilIface).run Tryz.prog W = .ok (.bool true) W := fun v W => by go_simp
        have HF : Hid (∀ W, W = w4.drew.alloc (.cells #[.int .i64 (k : Int), .iface 26 (.int .i64 n)] 109) → RnP l hv B p M F H (.slice (some ⟨g, o, none⟩) l.length c) R w (.returned (.tuple #[.bool false, .iface 107 (.pointer (some ⟨w4.heap.size, 0, none⟩))])) W) := zh fun W hW => by
         rw [hE3];refine ⟨((Dl.But.of_new HB1.out).trans (HT3.out.trans (Dl.But.of_new b4))).trans (Dl.But.of_new (by rw [hW]; exact (Below.refl _ _).drew.alloc zl _)), _, rfl, w4.heap.size, (k : Int), rfl, by rw [hW]; exact heap_alloc_new w4.drew _⟩
        have HW4 := zh hw4;clear hE2 hE3 hw4 b4 HStep cw3 HT3 HW3
        go_upto_region 7 with fail
        rw [← HW4.out];clear HW4
        go_upto_region 8 with fail
        go_big_region
        have hf := HF.out _ rfl;have HF2 := zh hf;clear hf HF ca4 ca3
        go_wp2_with fail
        go_ret2
        exact HF2.out
      | ok m =>
        obtain ⟨mt, mk, md, mp⟩ := m;unfold ResV mdV;simp only;have hsm := sane_res HX.out.symm;simp only at hsm;obtain ⟨w4, hw4⟩ := zx (w3.alloc (.cells #[.bool mt, .int .i64 mk, .string ⟨md.toArray⟩, .int .i64 (mp : Int)] 82));have b4 : Below w3.heap.size w3 w4 := by rw [hw4]; exact below_new w3 _
        have km4 : w4.heap[w3.heap.size]? = some (.cells #[.bool mt, .int .i64 mk, .string ⟨md.toArray⟩, .int .i64 (mp : Int)] 82 (0, 0)) := by rw [hw4]; exact heap_alloc_new w3 _
        obtain ⟨x0, x1, x2, x3⟩ := cells4 km4;have cw4 := cell_to cw3 b4; have ca4 := cell_to ca3 b4;have hW4 := HW3.out.below b4;have HT4 : Hid (Dl.But (fun k => k = M ∨ k = F) wa w4) := zh (HT3.out.trans (Dl.But.of_new b4));have HW4' := zh hW4; have HW4 := zh hw4; have HSm := zh hsm;clear hw4 b4 km4 hW4 HW3 HT3 cw3 ca3 hsm;cases mt with
        | false =>
          have hE2 : z0o l hv (k + 1) S = .ok (T, b) := by rw [HStep.out]; exact zj0 Hmm.out.symm rfl
          have HE2 := zh hE2;clear hE2 HStep
          go_upto_region 7 with fail
          rw [← HW4.out];clear HW4
          go_wp2_with fail
          go_roundw
          case rel => exact ⟨k + 1, T, b, hlt, by go_num, rfl, HW4', hS, HE2, HT4⟩
          case measure => simp [intOf]; omega
        | true =>
          have hE2 : z0o l hv (k + 1) S = .ok (T.set k ⟨true, mk, md, mp⟩, true) := by rw [HStep.out]; exact zj1 Hmm.out.symm rfl
          have HE2 := zh hE2
          have hb04 : Below B w0 w4 := by
           have h1 := H00.out;have h2 := HB1.out;have h3 := HT4.out;have hsz := Hbp.out.2;have hq0 := h1.size;have hbase := HC.out.base;exact (h1.trans (h2.mono (by omega))).trans (h3.below (fun q _ hq => by omega) (by have := h2.size; omega))
          have HKp := zh (keep_any HW4'.out hlt (m := ⟨true, mk, md, mp⟩) Hmm.out.symm rfl (by have := HSm.out; simp only; omega) HC.out.ob HC.out.base hb04 (by omega));have hS2 : Hid (Sane (T.set k ⟨true, mk, md, mp⟩)) := zh (sane_set hS.out hkT HSm.out);unfold mdV at HKp;simp only at HKp;clear hE2 HStep hb04
          go_upto_region 7 with fail
          rw [← HW4.out];clear HW4
          go_wp2_with fail
          refine HKp.out.mono ?_;intro e w5 hh;obtain ⟨he5, hW5, t5⟩ := hh;rw [he5];have HW5 := zh hW5;have HT5 : Hid (Dl.But (fun k => k = M ∨ k = F) wa w5) := zh (HT4.out.trans t5);clear he5 hW5 t5 HKp HW4' HT4 x0 x1 x2 x3 cw4 ca4
          go_wp2_with fail
          go_roundw
          case rel => exact ⟨k + 1, _, true, hlt, by go_num, rfl, HW5, hS2, HE2, HT5⟩
          case measure => simp [intOf]; omega
  · obtain rfl : k = l.length := by omega
    have HF : Hid (RnP l hv B p M F H (.slice A l.length c) R w (.returned (.tuple #[.bool b, .nilIface])) wr) := zh (by
     refine ⟨(Dl.But.of_new HB1.out).trans hT.out, ?_⟩;rw [HR.out, hE.out];exact ⟨rfl, hW.out, hS.out⟩)
    clear hW hS hE hT hlt hk
    go_wp2_with fail
    go_ret2
    exact HF.out
end Go.Proofs.YtgjddkeogboojaaGreatDoor.Pk
namespace Go.Proofs.YtgjddkeogboojaaGreatDoor
open Go Go.RowKit
theorem z7y {b : Nat} {w w1 : World} (h : Below b w w1) (n : Nat) : Below b w (w1.drewN n) := ⟨h.os, h.tape, h.output, h.size, h.block⟩
end Go.Proofs.YtgjddkeogboojaaGreatDoor
namespace Go.Proofs.YtgjddkeogboojaaGreatDoor
open Go Go.RowKit Go.Maps
def limW : Nat := 140737488355328
def SmallH (l : List Hld) : Prop := l.length < 900 ∧ ∀ x ∈ l, x.id.length < 9000 ∧ x.data.length < 9000
def zdw (P : Prop) (w : World) (e : Ending) (w' : World) : Prop := ∃ g, e = .returned (.bool g) ∧ Below w.heap.size w w' ∧ (g = false → P)
def znd (x : Hld) : Nat := min x.id.length 9000 + min x.data.length 9000
def z2d (l : List Hld) : Nat := (l.map znd).sum
theorem zfs {l : List Hld} {k : Nat} (h : k < l.length) : z2d (l.take (k + 1)) = z2d (l.take k) + znd (l.getD k z05) := by
 rw [z0l l z05 k h]; simp [z2d]
theorem hcost_le {l : List Hld} {x : Hld} (h : x ∈ l) : znd x ≤ z2d l := by
 unfold z2d
 induction l with
 | nil => cases h
 | cons y r ih =>
   simp only [List.map_cons, List.sum_cons];rcases List.mem_cons.1 h with rfl | h
   · omega
   · have := ih h; omega
theorem zne {w : World} {v : Value} {l : List Hld} (h : HldsR w v l) (hl : l.length ≤ limW) : Calls Tryz.prog 24 #[v] w (zdw (SmallH l) w) := by
 obtain ⟨A, c, rfl⟩ := h.shape;have Hx := zh h; clear h;have hl' : l.length ≤ 140737488355328 := hl;clear hl
 go_enter Tryz.func24, Tryz.ntmps24
 go_wp2_with fail
 go_loopw [3, 4] (fun n i wr => Below w.heap.size w wr ∧ ∃ k : Nat, k ≤ l.length ∧ i = .int .i64 k ∧ n = .int .i64 ((10 * l.length + z2d (l.take k) : Nat) : Int) ∧ 10 * l.length + z2d (l.take k) ≤ 10000000000000000) (fun _ i _ => l.length - (intOf i).toNat)
 case atStart => exact ⟨Below.refl _ _, 0, Nat.zero_le _, rfl, by simp [z2d], by simp [z2d]; omega⟩
 case round =>
  obtain ⟨hB, k, hk, rfl, rfl, hN⟩ := hrel;by_cases hlt : k < l.length
  · by_cases hn : 10 * l.length + z2d (l.take k) < 9000
    · obtain ⟨g, o, c', e, _, hg⟩ := Hx.out.pos (by omega);cases e;obtain ⟨c0, c1, c2⟩ := HldsR.cells (Hx.out.below hB zl) k hlt;have hc := zfs hlt;obtain ⟨x, hx⟩ := zx (l.getD k z05);rw [← hx] at c0 c1 c2 hc;obtain ⟨nm, m, di⟩ := x;unfold SV at c0 c2;simp only at c0 c1 c2;unfold znd at hc;simp only at hc;have hrel' : 10 * l.length + z2d (l.take (k + 1)) ≤ 10000000000000000 := by rw [hc]; omega
      have m1 : (10 * (l.length : Int) + z2d (l.take k) + min (nm.length : Int) 9000 + min (di.length : Int) 9000) = ((10 * l.length + z2d (l.take (k + 1)) : Nat) : Int) := by
       rw [hc];omega
      have Hr := zh hrel'; have M1 := zh m1; have HB := zh hB; have Hc := zh hc;clear hc hrel' m1 hB hx c1
      go_wp2_with fail
      go_quiet (fail)
      go_wp2_with fail
      go_roundw
      case rel => exact ⟨z7y HB.out _, k + 1, hlt, by go_num, by rw [M1.out], Hr.out⟩
      case measure => simp [intOf]; omega
    · have hnI : ¬ (10 * (l.length : Int) + z2d (l.take k) < 9000) := by omega
      have hgI : (9000 : Int) ≤ 10 * (l.length : Int) + z2d (l.take k) := by omega
      have HB := zh hB; clear hB
      go_wp2_with fail
      go_ret
      exact ⟨true, by simp, HB.out, fun h => by cases h⟩
  · obtain rfl : k = l.length := by omega
    rw [List.take_length] at hN;have HB := zh hB; clear hB;rw [List.take_length];by_cases hn : 10 * l.length + z2d l < 9000
    · have hnI : ¬ ((9000 : Int) ≤ 10 * (l.length : Int) + z2d l) := by omega
      have hs : SmallH l := ⟨by omega, fun x hx => by
       have := hcost_le hx;unfold znd at this;omega⟩
      have Hs := zh hs; clear hs
      go_wp2_with fail
      go_ret
      exact ⟨_, rfl, HB.out, fun _ => Hs.out⟩
    · have hnI : (9000 : Int) ≤ 10 * (l.length : Int) + z2d l := by omega
      go_wp2_with fail
      go_ret
      exact ⟨true, by simp, HB.out, fun h => by cases h⟩
def objC (o : Option Hld) : Value := match o with | some h => .agg #[.int .i64 h.kind, .string ⟨h.data.toArray⟩] | none => .agg #[.int .i64 0, .string ⟨#[]⟩]
def zj2 (l : List Hld) (x : Bs) : Value := .tuple #[objC (z0t l x), .bool (thB l x)]
theorem zj3 {l : List Hld} {k : Nat} {x : Bs} (h : k < l.length) : z0t (l.take (k + 1)) x = (z0t (l.take k) x).or (if (l.getD k z05).id = x then some (l.getD k z05) else none) := by
 rw [z0l l z05 k h, z0r, z13]; rfl
theorem znf {l : List Hld} {k : Nat} {x : Bs} {h : Hld} (hf : z0t (l.take k) x = some h) : z0t l x = some h := by
 rw [← List.take_append_drop k l, z0r, hf, Option.some_or]
theorem zng {w : World} {v : Value} {l : List Hld} (h : HldsR w v l) (hl : l.length ≤ 1000000) (s : Bs) : Calls Tryz.prog 27 #[v, .string ⟨s.toArray⟩] w (z06 (zj2 l s) w) := by
 obtain ⟨A, c, rfl⟩ := h.shape;have Hx := zh h; clear h
 go_enter Tryz.func27, Tryz.ntmps27
 go_wp2_with fail
 obtain ⟨w0, hw0⟩ := zx (w.alloc (.cells #[.int .i64 0, .string ⟨#[]⟩] 37));have hb0 : Below w.heap.size w w0 := by rw [hw0]; exact below_new w _
 have hk0 : w0.heap[w.heap.size]? = some (.cells #[.int .i64 0, .string ⟨#[]⟩] 37 (0, 0)) := by rw [hw0]; exact heap_alloc_new w _
 rw [← hw0];have HX0 := zh (Hx.out.below hb0 zl); have HB0 := zh hb0;have z0 : w0.cell? ⟨w.heap.size, 0, none⟩ = some (.int .i64 0) := (cell_of_row w0 _ 0 _ _ _ hk0).trans rfl;have z1 : w0.cell? ⟨w.heap.size, 1, none⟩ = some (.string ⟨#[]⟩) := (cell_of_row w0 _ 1 _ _ _ hk0).trans rfl;have f0 := frozen_of (i := 0) hk0;have f1 := frozen_of (i := 1) hk0;clear hb0 hk0 hw0 Hx
 go_loop [6] (fun i => ∃ k : Nat, k ≤ l.length ∧ i = .int .i64 k ∧ Hid (z0t (l.take k) s = none)) (fun i => l.length - (intOf i).toNat)
 case atStart => exact ⟨0, Nat.zero_le _, rfl, zh rfl⟩
 case round =>
  obtain ⟨k, hk, rfl, hno⟩ := hrel;by_cases hlt : k < l.length
  · obtain ⟨g, o, c', e, _, hg⟩ := HX0.out.pos (by omega);cases e;obtain ⟨p0, p1, p2⟩ := HldsR.cells HX0.out k hlt;have hsn := zj3 (x := s) hlt;rw [hno.out] at hsn;obtain ⟨x, hx⟩ := zx (l.getD k z05);rw [← hx] at p0 p1 p2 hsn;obtain ⟨xi, xk, xd⟩ := x;unfold SV at p0 p2;simp only at p0 p1 p2 hsn;by_cases e : xi = s
    · have hf : z0t l s = some ⟨xi, xk, xd⟩ := znf (by rw [hsn, if_pos e]; rfl);have HV : Hid (zj2 l s = .tuple #[.agg #[.int .i64 xk, .string ⟨xd.toArray⟩], .bool true]) := zh (by unfold zj2 thB; rw [hf]; rfl);cases e;clear hsn hx hf hno
      go_wp2_with fail
      rw [HV.out];exact bodyPost_ret (v := .tuple #[.agg #[.int .i64 xk, .string ⟨xd.toArray⟩], .bool true]) (by simp [results, Tryz.results27, go_sem, z0, z1]) rfl ⟨rfl, (HB0.out.setCell (p := ⟨w.heap.size, 0, none⟩) zl _).setCell (p := ⟨w.heap.size, 1, none⟩) zl _⟩
    · have e2 : (xi == s) = false := by simpa using e
      have HS : Hid (z0t (l.take (k + 1)) s = none) := zh (by rw [hsn, if_neg e]; rfl);clear hsn hx e hno
      go_wp2_with fail
      go_round
      case rel => exact ⟨k + 1, hlt, by go_num, HS⟩
      case measure => simp [intOf]; omega
  · obtain rfl : k = l.length := by omega
    rw [List.take_length] at hno;have HV : Hid (zj2 l s = .tuple #[.agg #[.int .i64 0, .string ⟨#[]⟩], .bool false]) := zh (by unfold zj2 thB; rw [hno.out]; rfl);clear hno
    go_wp2_with fail
    rw [HV.out];exact bodyPost_ret (v := .tuple #[.agg #[.int .i64 0, .string ⟨#[]⟩], .bool false]) (by simp [results, Tryz.results27, go_sem, z0, z1]) rfl ⟨rfl, (HB0.out.setCell (p := ⟨w.heap.size, 0, none⟩) zl _).setCell (p := ⟨w.heap.size, 1, none⟩) zl _⟩
theorem znh (w : World) : (zeroValue 3).run Tryz.prog w = .ok (.int .i64 0) w := by kernel_rfl
def z9g (c : Bs → Nat) (x : Bs) : Option Value := if c x = 0 then none else some (.int .i64 (c x))
theorem zb0 (c : Bs → Nat) (x : Bs) : (z9g c x).getD (.int .i64 0) = .int .i64 (c x) := by
 unfold z9g;by_cases h : c x = 0
 · rw [if_pos h, h]; rfl
 · rw [if_neg h]; rfl
def incC (c : Bs → Nat) (x : Bs) : Bs → Nat := fun y => if y = x then c x + 1 else c y
theorem zj4 (c : Bs → Nat) (x : Bs) : updF (z9g c) x (.int .i64 ((c x : Int) + 1)) = z9g (incC c x) := by
 funext y;unfold updF z9g incC;by_cases e : y = x
 · rw [if_pos e, if_pos e, if_neg (by omega)]; rfl
 · rw [if_neg e, if_neg e]
end Go.Proofs.YtgjddkeogboojaaGreatDoor
