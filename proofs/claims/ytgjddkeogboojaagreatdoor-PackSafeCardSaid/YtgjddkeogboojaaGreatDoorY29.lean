/-
  workOf, with objects beside.
  What the law of an entry made a delta wants: parts of rows of entries, an entry laid, three rows one behind the other.
  TreeC WMergP WSwap WSwapW WRot WMergQ WMerK
-/
import Derived.Test.YtgjddkeogboojaaGreatDoorY28
import Derived.Test.YtgjddkeogboojaaGreatDoorY23
import Derived.Test.YtgjddkeogboojaaGreatDoorY21
import Derived.Test.YtgjddkeogboojaaGreatDoorY25
set_option maxHeartbeats 16000000
set_option maxRecDepth 100000
namespace Go.Proofs.YtgjddkeogboojaaGreatDoor.Pk
open Go.Proofs.YtgjddkeogboojaaGreatDoor
open Go Go.RowKit Go.Maps
section
variable {P : Program} {a : Go.Act} {o : Oper} {W : World}
theorem y_nil {x : Operand} {b : Addr} (ho : o.op = .nilCheck x) (hx : a.eval x = .pointer (some b)) : (execOp a.eval o).run P W = .ok (.value (.pointer (some b))) W := by
 simp only [execOp, ho, hx];go_simp
theorem y_bldM {t : TypeId} {parts : Array (Nat × Operand)} {ps : Array (Nat × Value)} {r : Value} (ho : o.op = .build t parts) (hp : (parts.map fun (i, x) => (i, a.eval x)) = ps) (h : (Instr.build t ps).run P W = .ok r W) : (execOp a.eval o).run P W = .ok (.value r) W := by
 subst hp;simp [execOp, ho, h, Result.andThen]
theorem y_put {W' : World} {t : TypeId} {m x v : Operand} {mv xv vv : Value} (ho : o.op = .mapUpdate t m x v) (hm : a.eval m = mv) (hx : a.eval x = xv) (hv : a.eval v = vv) (h : (Instr.mapUpdate t mv xv vv).run P W = .ok () W') : (execOp a.eval o).run P W = .ok .skip W' := by
 subst hm hx hv;simp [execOp, ho, h, Result.andThen]
end
theorem bld_md (W : World) (k : Int) (d : Bs) : (Instr.build 82 #[(0, .bool true), (1, .agg #[.int .i64 k, .string ⟨d.toArray⟩])]).run Tryz.prog W = .ok (.agg #[.bool true, .int .i64 k, .string ⟨d.toArray⟩, .int .i64 0]) W := by kernel_rfl
theorem load_ob {W : World} {q : Nat} {k : Int} {d : Bs} (h1 : W.cell? ⟨q, 1, none⟩ = some (.int .i64 k)) (h2 : W.cell? ⟨q, 2, none⟩ = some (.string ⟨d.toArray⟩)) : (Instr.loadAt 37 (.pointer (some ⟨q, 1, none⟩))).run Tryz.prog W = .ok (.agg #[.int .i64 k, .string ⟨d.toArray⟩]) W := by simp [go_sem, h1, h2]
theorem load_m {W : World} {p H : Nat} (h : W.cell? ⟨p, 4, none⟩ = some (.map (some H))) : (Instr.loadAt 122 (.pointer (some ⟨p, 4, none⟩))).run Tryz.prog W = .ok (.map (some H)) W := by simp [go_sem, h]
theorem load_s {W : World} {q : Nat} {s : Bs} (h : W.cell? ⟨q, 0, none⟩ = some (.string ⟨s.toArray⟩)) : (Instr.loadAt 9 (.pointer (some ⟨q, 0, none⟩))).run Tryz.prog W = .ok (.string ⟨s.toArray⟩) W := by simp [go_sem, h]
theorem fld_w4 (W : World) (p : Nat) : (Instr.fieldAt 124 (.pointer (some ⟨p, 0, none⟩)) 4).run Tryz.prog W = .ok (.pointer (some ⟨p, 4, none⟩)) W := by simp [go_sem]
theorem fld_h0 (W : World) (q : Nat) : (Instr.fieldAt 47 (.pointer (some ⟨q, 0, none⟩)) 0).run Tryz.prog W = .ok (.pointer (some ⟨q, 0, none⟩)) W := by simp [go_sem]
theorem fld_h1 (W : World) (q : Nat) : (Instr.fieldAt 47 (.pointer (some ⟨q, 0, none⟩)) 1).run Tryz.prog W = .ok (.pointer (some ⟨q, 1, none⟩)) W := by simp [go_sem]
theorem zjm {r : List Hld} (hr : r.Pairwise fun x y => x.id < y.id) {k : Nat} (hk : k < r.length) : z7j (r.take (k + 1)) = updF (z7j (r.take k)) (r.getD k z05).id (mdV (zmi (r.getD k z05))) := by
 funext x;unfold z7j updF;rw [zok hr hk];split <;> rfl
structure WoS (l : List Ent) (r : List Hld) (B0 p M F H : Nat) (vl : Value) (w7 : World) (v7 : Value) (k : Nat) (wr : World) : Prop where
 but : But (fun q => q = H) w7 wr
 map : MapS wr H k (z7j (r.take k))
theorem RdK.butH {α : Type} {k : Nat} {f : α → List Value} {w w' : World} {v : Value} {l : List α} {S : Nat → Prop} (h : RdK k f w v l) (hb : But S w w') (hn : 0 < l.length → ∀ g, v.ownBlock = some g → ¬ S g) : RdK k f w' v l := by
 rcases Nat.eq_zero_or_pos l.length with h0 | h0
 · obtain ⟨A, c, e⟩ := h.shape;exact .inl ⟨⟨A, c, by rw [e, h0]⟩, List.length_eq_zero_iff.1 h0⟩
 · exact h.but hb (hn h0)
theorem But.of_grw {w w' : World} {row : Option Nat} (h : w.grownBy w' row) : But (fun k => row = some k) w w' := ⟨h.os, h.tape, h.output, h.size, fun k hk hn => h.block k hk (fun e => hn e.symm)⟩
theorem zon {l : List Hld} {k : Nat} (hk : k < l.length) : l.getD k z05 ∈ l := by rw [getD_lt hk]; exact List.getElem_mem hk
theorem zg5 {w : World} {v vh : Value} {l : List Ent} {hv : List Hld} (h : EntsR w v l) (hh : HldsR w vh hv) (hl : l.length ≤ 512) (hhl : hv.length ≤ 100000) (hhi : ∀ x ∈ hv, x.id.length ≤ 1000000) (hbl : ∀ x ∈ z0x l, x.length ≤ 1000000)
 (hso : ∀ B v' w', NewH B w' v' (z5t hv (z0x l)) → z5b B (z5t hv (z0x l)) v' w') : Calls Tryz.prog 61 #[v, vh] w (WoH l hv v w) := by
 obtain ⟨Ah, ch, rfl⟩ := hh.shape;have Hh := zh hh; have Hhl := zh hhl; have Hhi := zh hhi; have Hso := zh hso;obtain ⟨nh, hnh⟩ := zx hv.length;rw [← hnh] at Hh ⊢;clear hh hhl hhi hso hnh;have HBa := zh (ze2 h (by omega));have Hx := zh h
 have Hown : Hid (0 < l.length → ∀ g, v.ownBlock = some g → g < w.heap.size) := zh fun h0 g hg => by
  obtain ⟨g', o, c, e, _, hg'⟩ := h.pos h0;rw [e] at hg;cases hg;exact hg'
 obtain ⟨A, c, rfl⟩ := h.shape;have Hbl := zh hbl;obtain ⟨n, hn⟩ := zx l.length;have Hn := zh hn;have Hl := zh hl;rw [← hn] at HBa Hx Hown ⊢;clear h hbl hn;have hmm := @run_makeMap Tryz.prog
 go_enter Tryz.func61, Tryz.ntmps61
 go_wp2_with fail
 refine HBa.out.mono ?_;rintro e w1 ⟨u, rfl, ru, b1⟩;obtain ⟨Au, cu, rfl⟩ : ∃ A c, u = .slice A (z0x l).length c := (OwK.rd z19 ru).shape;obtain ⟨N, hN⟩ := zx ((z0x l).length);rw [← hN] at ru ⊢;have hmk := mk_md w1 n (by have := Hn.out; have := Hl.out; omega);obtain ⟨w2, hw2⟩ := zx (w1.alloc (.cells (madeCells #[.bool false, .int .i64 0, .string ⟨#[]⟩, .int .i64 0] (n * 4)) 82));rw [← hw2] at hmk;obtain ⟨w3, hw3⟩ := zx (w2.alloc (.map #[] 0));obtain ⟨w4, hw4⟩ := zx (w3.alloc (.map #[] 0));obtain ⟨w5, hw5⟩ := zx (w4.alloc (.cells #[.slice A n c, .slice (some ⟨w1.heap.size, 0, none⟩) n n, .bool (decide (0 < N)), .map (some w2.heap.size), .map (some (w2.heap.size + 1))] 124));have b2 : Below w1.heap.size w1 w2 := by rw [hw2]; exact below_new w1 _
 have b3 : Below w2.heap.size w2 w3 := by rw [hw3]; exact below_new w2 _
 have b4 : Below w3.heap.size w3 w4 := by rw [hw4]; exact below_new w3 _
 have b5 : Below w4.heap.size w4 w5 := by rw [hw5]; exact below_new w4 _
 have s2 : w2.heap.size = w1.heap.size + 1 := by rw [hw2]; simp
 have s3 : w3.heap.size = w1.heap.size + 2 := by rw [hw3]; simp [s2]
 have s4 : w4.heap.size = w1.heap.size + 3 := by rw [hw4]; simp [s3]
 have hask : decide (0 < N) = z3m l := by unfold z3m; rw [hN]
 have s32 : w3.heap.size = w2.heap.size + 1 := by omega
 have s42 : w4.heap.size = w2.heap.size + 1 + 1 := by omega
 have b15 : Below w1.heap.size w1 w5 := ((b2.trans (b3.mono b2.size)).trans (b4.mono (by omega))).trans (b5.mono (by omega))
 have hWk : Wk l [] w.heap.size w4.heap.size w1.heap.size w2.heap.size w3.heap.size (.slice A n c) (z1b l) w5 := by
  have h1s := b1.size;refine ⟨?_, (znr Hn.out hw2).but (Dl.But.of_new (S := fun _ => False) ((b3.trans (b4.mono b3.size)).trans (b5.mono (by omega)))) id, (Hx.out.below b1 zl).below b15 zl, by simp [z1b], fun _ => ⟨0, by rw [z9a]; omega, ?_⟩, ⟨0, fun _ => none, ?_, fun x _ => by unfold z7j; rfl⟩, ⟨by omega, by omega, by omega, by omega⟩, fun h0 g hg => Hown.out (by have := Hn.out; omega) g hg⟩
  · rw [hw5, hask, ← Hn.out, ← s32]; exact heap_alloc_new w4 _
  · have hm := MapS.made w2;rw [← hw3] at hm;have : (fun _ => none) = z2u (z1b l) := by funext x; unfold z2u; rw [z9d]; rfl
    rw [← this];exact (hm.below b4 hm.lt).below b5 (by have := hm.lt; have := b4.size; omega)
  · have hm := MapS.made w3;rw [← hw4] at hm;exact hm.below b5 hm.lt
 have hM0 : MapS w5 w3.heap.size 0 (fun _ => none) := by
  have hm := MapS.made w3;rw [← hw4] at hm;exact hm.below b5 hm.lt
 have hPk := fun W (hW : Below w5.heap.size w5 W) => zhg (w := W) (v := .slice Ah nh ch) (vi := .slice Au N cu) (l := hv) (ids := z0x l) (((Hh.out.below b1 zl).below b15 zl).below hW zl) (((OwK.rd z19 ru).below b15 zl).below hW zl) Hhl.out (by have := z9n l; have := Hl.out; omega) Hhi.out Hbl.out;have HPk := zh hPk;obtain ⟨M, hM⟩ := zx w1.heap.size;obtain ⟨F, hF⟩ := zx w2.heap.size;rw [s42, s32, ← hF, ← hM] at hWk;rw [s32, ← hF] at hM0;have HM0 := zh hM0;have he5 : (((w2.alloc (.map #[] 0)).alloc (.map #[] 0)).alloc (.cells #[.slice A n c, .slice (some ⟨M, 0, none⟩) n n, .bool (decide (0 < N)), .map (some F), .map (some (F + 1))] 124)) = w5 := by rw [hw5, hw4, hw3, hF, hM]
 have HWk := zh hWk; have HE5 := zh he5; have HB15 := zh (b1.trans (b15.mono b1.size));have HM : Hid (w1.heap.size = M) := zh hM.symm;have HF : Hid (w2.heap.size = F) := zh hF.symm;clear hPk hWk hM0 hw2 hw3 hw4 hw5 b1 b2 b3 b4 b5 b15 s2 s3 s4 hask ru hN s32 s42 he5 hM hF
 go_upto_region 3 with fail
 clear hmk hmm;rw [HM.out, HF.out, HE5.out];obtain ⟨p, hp⟩ := zx (F + 1 + 1);rw [← hp] at HWk ⊢;clear hp HM HF HE5
 go_wp2_with fail
 refine (HPk.out w5 (Below.refl _ _)).mono ?_;rintro e w6 ⟨v6, rfl, r6, b6⟩;have r6' : NewH w5.heap.size w6 v6 (z5t hv (z0x l)) := r6;obtain ⟨pk, hpk⟩ := zx (z5t hv (z0x l));have Hpk := zh hpk;rw [← hpk] at r6';have hpl : pk.length ≤ 100000 := by rw [hpk]; have := z9h hv (z0x l); have := Hhl.out; omega
 obtain ⟨A6, c6, rfl⟩ := r6'.rd.shape
 have HJ := zh (zhj (w := w6) (va := .slice none 0 0) (vb := .slice A6 pk.length c6) (a := []) (b := pk) (.inl ⟨⟨_, _, rfl⟩, rfl⟩) r6'.rd (by simp) hpl (fun B v' w' hh => by
  rw [List.nil_append, hpk] at hh ⊢;exact Hso.out B v' w' hh))
 have HB6 := zh (HB15.out.trans (b6.mono HB15.out.size)); have HW6 := zh (HWk.out.below b6);have HM6 := zh (HM0.out.below b6 HM0.out.lt);have HPl := zh hpl;obtain ⟨n6, hn6⟩ := zx pk.length;rw [← hn6] at HJ ⊢;clear r6 r6' b6 HPk HWk HM0 hpk hpl hn6
 go_wp2_with fail
 refine HJ.out.mono ?_;rintro e w7 ⟨v7, r, rfl, hset, hlen, r7, b7⟩;rw [List.nil_append] at hset hlen;obtain ⟨A7, c7, rfl⟩ := r7.rd.shape;have HB7 := zh (HB6.out.trans (b7.mono HB6.out.size)); have HW7 := zh (HW6.out.below b7);have HM7 := zh (HM6.out.below b7 HM6.out.lt);have HR7 : Hid (HldsR w7 (.slice A7 r.length c7) r) := zh r7.rd
 have Hown7 : Hid (0 < r.length → ∀ g, (Value.slice A7 r.length c7).ownBlock = some g → F + 1 < g) := zh fun _ g hg => by
  have h1 := (r7.lt g hg).1;have h2 := HM6.out.lt;omega
 have Hset := zh hset;have Hrise := zh hset.rise
 have Hrid : Hid (∀ x ∈ r, x.id.length ≤ 1000000) := zh fun x hx => by
  have h1 := z2r ((hset.mem x).1 hx);rw [Hpk.out] at h1;exact Hhi.out x (List.mem_filter.1 h1).1
 obtain ⟨nr, hnr⟩ := zx r.length;have Hnr := zh hnr;have HnrL : Hid (nr ≤ 100000) := zh (by rw [hnr]; have := HPl.out; omega);rw [← hnr] at HR7 Hown7 ⊢;obtain ⟨H, hH⟩ := zx (F + 1);rw [← hH] at HW7 HM7 Hown7
 have HS0 : Hid (WoS l r 0 p M F H (.slice A n c) w7 (.slice A7 nr c7) 0 w7) := zh ⟨But.refl _ _, by
  have e : z7j (r.take 0) = fun _ => none := by funext x; rfl
  rw [e]; exact HM7.out⟩
 have Hpz : Hid (H < p ∧ p < w7.heap.size) := zh ⟨HW7.out.sz.2.2.2, lt_heap HW7.out.k⟩;have HZb : Hid (w.heap.size ≤ H) := zh (by have := HW7.out.sz; omega);clear hset hlen r7 b7 HJ HW6 HM6 hnr hH
 go_wp2_with fail
 go_loopw [27] (fun iv wr => ∃ k : Nat, k ≤ nr ∧ iv = .int .i64 k ∧ Hid (WoS l r 0 p M F H (.slice A n c) w7 (.slice A7 nr c7) k wr)) (fun iv _ => nr - (intOf iv).toNat)
 case atStart => exact ⟨0, Nat.zero_le _, rfl, HS0⟩
 case round =>
  obtain ⟨k, hk, rfl, hS⟩ := hrel;by_cases hlt : k < nr
  · obtain ⟨g, o, c', e, _, hg⟩ := HR7.out.pos (by have := Hnr.out; omega);obtain rfl : A7 = some ⟨g, o, none⟩ := by rw [← Hnr.out] at e; cases e; rfl
    clear e;have hkr : k < r.length := by have := Hnr.out; omega
    have hRr : HldsR wr (.slice (some ⟨g, o, none⟩) nr c7) r := RdK.butH HR7.out hS.out.but (fun h0 q hq => by have := Hown7.out (by have := Hnr.out; omega) q hq; omega);obtain ⟨p0, p1, p2⟩ := HldsR.cells hRr k hkr;have hid := Hrid.out _ (zon hkr);have hsn := zjm Hrise.out hkr;obtain ⟨x, hx⟩ := zx (r.getD k z05);rw [← hx] at p0 p1 p2 hid hsn;obtain ⟨xi, xk, xd⟩ := x;unfold SV at p0 p2;simp only at p0 p1 p2 hid hsn;obtain ⟨q, hq⟩ := zx wr.heap.size;obtain ⟨w8, hw8⟩ := zx (wr.alloc (.cells #[.string ⟨xi.toArray⟩, .int .i64 xk, .string ⟨xd.toArray⟩] 47));have b8 : Below wr.heap.size wr w8 := by rw [hw8]; exact below_new wr _
    have k8 : w8.heap[q]? = some (.cells #[.string ⟨xi.toArray⟩, .int .i64 xk, .string ⟨xd.toArray⟩] 47 (0, 0)) := by rw [hw8, hq]; exact heap_alloc_new wr _
    have hM8 := hS.out.map.below b8 hS.out.map.lt;have hB8 : But (fun q => q = H) w7 w8 := hS.out.but.trans (But.of_new b8);have hcp : w8.cell? ⟨p, 4, none⟩ = some (.map (some H)) := (hB8.cell (p := ⟨p, 4, none⟩) Hpz.out.2 (by show ¬ p = H; have := Hpz.out.1; omega)).trans HW7.out.cells.2.2.2.2;have hqH : H < q := by rw [hq]; exact hS.out.map.lt
    have hcq : w8.cell? ⟨q, 0, none⟩ = some (.string ⟨xi.toArray⟩) ∧ w8.cell? ⟨q, 1, none⟩ = some (.int .i64 xk) ∧ w8.cell? ⟨q, 2, none⟩ = some (.string ⟨xd.toArray⟩) := ⟨(cell_of_row w8 q 0 _ _ _ k8).trans rfl, (cell_of_row w8 q 1 _ _ _ k8).trans rfl, (cell_of_row w8 q 2 _ _ _ k8).trans rfl⟩
    obtain ⟨w9, hrun, hM9, hg9⟩ := (MapS.below hM8 (Below.refl _ w8).drew hM8.lt).put Tryz.underlying122 (by unfold maxLen; have := HnrL.out; omega) (x := xi) (by unfold maxLen; omega) (.agg #[.bool true, .int .i64 xk, .string ⟨xd.toArray⟩, .int .i64 0]);have hB9 : But (fun q => q = H) w7 w9 := (hB8.drew).trans ((But.of_grw hg9).mono (fun k _ h => by cases h; rfl));have hc9 : ∀ (z i : Nat) (v : Value), z ≠ H → z < w8.heap.size → w8.cell? ⟨z, i, none⟩ = some v → w9.cell? ⟨z, i, none⟩ = some v := fun z i v hz hl hc => ((But.of_grw hg9).cell (p := ⟨z, i, none⟩) hl (fun e => hz (by cases e; rfl))).trans hc;have CS : Hid (w8.cell? ⟨p, 4, none⟩ = some (.map (some H)) ∧ w8.cell? ⟨q, 0, none⟩ = some (.string ⟨xi.toArray⟩) ∧ w8.cell? ⟨q, 1, none⟩ = some (.int .i64 xk) ∧ w8.cell? ⟨q, 2, none⟩ = some (.string ⟨xd.toArray⟩)) := zh ⟨hcp, hcq⟩;have hpl8 : p < w8.heap.size := by have := Hpz.out.2; have := hB8.size; omega
    have CS9 : Hid (w9.cell? ⟨p, 4, none⟩ = some (.map (some H)) ∧ w9.cell? ⟨q, 0, none⟩ = some (.string ⟨xi.toArray⟩) ∧ w9.cell? ⟨q, 1, none⟩ = some (.int .i64 xk) ∧ w9.cell? ⟨q, 2, none⟩ = some (.string ⟨xd.toArray⟩)) := Lib.hid
     ⟨hc9 p 4 _ (by have := Hpz.out.1; omega) hpl8 hcp, hc9 q 0 _ (by omega) (lt_heap k8) hcq.1, hc9 q 1 _ (by omega) (lt_heap k8) hcq.2.1, hc9 q 2 _ (by omega) (lt_heap k8) hcq.2.2⟩
    have HS9 : Hid (WoS l r 0 p M F H (.slice A n c) w7 (.slice (some ⟨g, o, none⟩) nr c7) (k + 1) w9) := zh ⟨hB9, by rw [hsn]; exact hM9⟩;have HRun := zh hrun; have HW8 := zh hw8; have Hqq := zh hq;have hltI : (k : Int) < (nr : Int) := by omega
    have hkb : k < 100000 := by have := HnrL.out; omega
    clear hRr hid hsn hx hw8 b8 k8 hM8 hB8 hcp hqH hcq hrun hM9 hg9 hB9 hc9 hpl8 hq hS hkr hg
    go_upto_region 6 with fail
    rw [← Hqq.out, ← HW8.out];clear p0 p1 p2 HW8 Hqq;refine held_start (fun W => W.cell? ⟨p, 4, none⟩ = some (.map (some H)) ∧ W.cell? ⟨q, 0, none⟩ = some (.string ⟨xi.toArray⟩) ∧ W.cell? ⟨q, 1, none⟩ = some (.int .i64 xk) ∧ W.cell? ⟨q, 2, none⟩ = some (.string ⟨xd.toArray⟩)) (by kernel_rfl) ?_;refine z08 0 (.pointer (some ⟨p, 0, none⟩)) rfl (fun W hW => zme rfl (by kernel_rfl)) CS.out ?_;refine z08 1 (.pointer (some ⟨p, 0, none⟩)) rfl (fun W hW => y_nil (b := ⟨p, 0, none⟩) rfl (by kernel_rfl)) CS.out ?_;refine z08 2 (.pointer (some ⟨p, 4, none⟩)) rfl (fun W hW => z1i rfl (by kernel_rfl) (fld_w4 W p)) CS.out ?_;refine z08 3 (.map (some H)) rfl (fun W hW => z0f rfl (by kernel_rfl) (load_m hW.1)) CS.out ?_;refine z08 4 (.pointer (some ⟨q, 0, none⟩)) rfl (fun W hW => z1i rfl (by kernel_rfl) (fld_h0 W q)) CS.out ?_;refine z08 5 (.string ⟨xi.toArray⟩) rfl (fun W hW => z0f rfl (by kernel_rfl) (load_s hW.2.1)) CS.out ?_;refine z08 6 (.pointer (some ⟨q, 1, none⟩)) rfl (fun W hW => z1i rfl (by kernel_rfl) (fld_h1 W q)) CS.out ?_;refine z08 7 (.agg #[.int .i64 xk, .string ⟨xd.toArray⟩]) rfl (fun W hW => z0f rfl (by kernel_rfl) (load_ob hW.2.2.1 hW.2.2.2)) CS.out ?_;refine z08 8 (.agg #[.bool true, .int .i64 xk, .string ⟨xd.toArray⟩, .int .i64 0]) rfl (fun W hW => y_bldM (ps := #[(0, .bool true), (1, .agg #[.int .i64 xk, .string ⟨xd.toArray⟩])]) rfl (by kernel_rfl) (bld_md W xk xd)) CS.out ?_;refine held_one (i := 9) (by kernel_rfl) (z5j w9 rfl (by kernel_rfl) (y_put (mv := .map (some H)) (xv := .string ⟨xi.toArray⟩) (vv := .agg #[.bool true, .int .i64 xk, .string ⟨xd.toArray⟩, .int .i64 0]) rfl (by kernel_rfl) (by kernel_rfl) (by kernel_rfl) HRun.out) CS9.out ?_);refine wpAnyH_done (by kernel_rfl) ?_ _;clear HRun CS CS9
    go_wp2_with fail
    go_roundw
    case rel => exact ⟨k + 1, hlt, by go_num, HS9⟩
    case measure => simp [intOf]; omega
  · obtain rfl : k = nr := by omega
    have hltI : ¬ (k : Int) < (k : Int) := by omega
    have hW9 : Wk l hv w.heap.size p M F H (.slice A n c) (z1b l) wr := by
     have hs := HW7.out.sz;have h1 := HW7.out;have hb := hS.out.but;have hbD : Dl.But (fun q => q = H) w7 wr := ⟨hb.os, hb.tape, hb.output, hb.size, hb.block⟩
     refine ⟨(hb.block p (lt_heap h1.k) (by show ¬ p = H; omega)).trans h1.k, h1.m.but hbD (by show ¬ M = H; omega), zc0 h1.el hbD (fun h0 q hq => by have := h1.ow h0 q hq; show ¬ q = H; omega), h1.len, fun ha => ?_, ⟨k, z7j r, ?_, fun x hx => ?_⟩, h1.sz, h1.ow⟩
     · obtain ⟨n2, hn2, hm⟩ := h1.f ha;exact ⟨n2, hn2, hm.but hb (by show ¬ F = H; omega)⟩
     · have := hS.out.map
       rwa [Hnr.out, List.take_length, ← Hnr.out] at this
     · have hp := Hset.out;rw [Hpk.out] at hp;unfold z7j;rw [zom hp hx]
    have hBf : Below w.heap.size w wr := HB7.out.trans (hS.out.but.below (fun q _ e => by rw [e]; exact HZb.out) HB7.out.size);have HF : Hid (WoH l hv (.slice A n c) w (.returned (.pointer (some ⟨p, 0, none⟩))) wr) := zh ⟨p, M, F, H, rfl, hW9, hBf⟩;clear hW9 hBf hS
    go_wp2_with fail
    go_ret
    exact HF.out
theorem eql_iI (W : World) (x y : Int) (b : Bool) (h : (x == y) = b) : (binOp .eql 3 (.int .i64 x) (.int .i64 y)).run Tryz.prog W = .ok (.bool b) W := by
 subst h;by_cases e : x = y
 · subst e; simp [go_sem]
 · simp [go_sem]
end Go.Proofs.YtgjddkeogboojaaGreatDoor.Pk
namespace Go.Proofs.YtgjddkeogboojaaGreatDoor
open Go.Sort
theorem SameF.append {a b c d : List Hld} (h : SameF a b) (k : SameF c d) : SameF (a ++ c) (b ++ d) := fun s => by rw [z0r, z0r, h s, k s]
theorem Stab.trans' {a b c : List Hld} (hp : b.Perm a) (hs : SameF a b) (k : Stab b c) : Stab a c := ⟨k.perm.trans hp, hs.trans k.same, k.sort⟩
theorem Stab.append {a b m n : List Hld} (h : Stab a m) (k : Stab b n) (hx : ∀ x ∈ a, ∀ y ∈ b, ¬ y.id < x.id) : Stab (a ++ b) (m ++ n) :=
 ⟨h.perm.append k.perm, h.same.append k.same, List.pairwise_append.2 ⟨h.sort, k.sort, fun x hx' y hy => hx x (h.perm.mem_iff.1 hx') y (k.perm.mem_iff.1 hy)⟩⟩
theorem z6b {u1 u2 v1 v2 m n : List Hld} (h1 : Stab (u1 ++ v1) m) (h2 : Stab (u2 ++ v2) n) (hA : SortedH (u1 ++ u2)) (hB : SortedH (v1 ++ v2))
 (hi : ∀ x ∈ u2, ∀ y ∈ v1, y.id < x.id) (hj : ∀ x ∈ u1, ∀ y ∈ v2, ¬ y.id < x.id) : Stab ((u1 ++ u2) ++ (v1 ++ v2)) (m ++ n) := by
 have hsw : SameF ((u1 ++ u2) ++ (v1 ++ v2)) ((u1 ++ v1) ++ (u2 ++ v2)) := by
  have := z5a (p := u1) (u := u2) (v := v1) (q := v2) fun x hx y hy e => by have := hi x hx y hy; rw [e] at this; exact z4v _ this
  simpa [List.append_assoc] using this
 have hpm : ((u1 ++ v1) ++ (u2 ++ v2)).Perm ((u1 ++ u2) ++ (v1 ++ v2)) := by
  rw [List.append_assoc, List.append_assoc];refine List.Perm.append_left u1 ?_;rw [← List.append_assoc, ← List.append_assoc];exact List.Perm.append_right v2 List.perm_append_comm
 refine Stab.trans' hpm hsw (h1.append h2 fun x hx y hy => ?_);have a1 := (List.pairwise_append.1 hA).2.2;have b1 := (List.pairwise_append.1 hB).2.2;rcases List.mem_append.1 hx with hx | hx <;> rcases List.mem_append.1 hy with hy | hy
 · exact a1 x hx y hy
 · exact hj x hx y hy
 · exact fun h => z4v _ (z76 (hi y hy x hx) h)
 · exact b1 x hx y hy
structure Found (A B : List Hld) (s : Nat) : Prop where
 le : s ≤ A.length
 lo : (A.length + B.length) / 2 ≤ s + B.length
 mid : s ≤ (A.length + B.length) / 2
 no : s = 0 ∨ s + B.length = (A.length + B.length) / 2 ∨ ltH ((A ++ B).getD ((A.length + B.length) / 2 + A.length - s) z05) ((A ++ B).getD (s - 1) z05) = false
 yes : s = A.length ∨ s = (A.length + B.length) / 2 ∨ ltH ((A ++ B).getD ((A.length + B.length) / 2 + A.length - 1 - s) z05) ((A ++ B).getD s z05) = true
theorem z2v {l : List Hld} (h : SortedH l) {i j : Nat} (hij : i ≤ j) (hj : j < l.length) : ¬ (l.getD j z05).id < (l.getD i z05).id := by
 rw [zg, zg, zj hj, zj (by omega)];rcases Nat.lt_or_ge i j with h1 | h1
 · exact List.pairwise_iff_getElem.1 h i j (by omega) hj h1
 · obtain rfl : i = j := by omega
   exact z4v _
theorem z4k {l : List Hld} {s : Nat} {x : Hld} (h : x ∈ l.take s) : ∃ i, i < s ∧ i < l.length ∧ x = l.getD i z05 := by
 obtain ⟨i, hi, rfl⟩ := List.mem_iff_getElem.1 h;rw [List.length_take] at hi;exact ⟨i, by omega, by omega, by rw [List.getElem_take, zg, zj (by omega)]; rfl⟩
theorem z4l {l : List Hld} {s : Nat} {x : Hld} (h : x ∈ l.drop s) : ∃ i, s ≤ i ∧ i < l.length ∧ x = l.getD i z05 := by
 obtain ⟨i, hi, rfl⟩ := List.mem_iff_getElem.1 h;rw [List.length_drop] at hi;exact ⟨s + i, by omega, by omega, by rw [List.getElem_drop, zg, zj (by omega)]; rfl⟩
theorem z5d {A B : List Hld} {i : Nat} (h : i < A.length) : (A ++ B).getD i z05 = A.getD i z05 := by
 rw [zg, zg, List.getElem?_append_left h]
theorem z2l {A B : List Hld} {i : Nat} (h : A.length ≤ i) : (A ++ B).getD i z05 = B.getD (i - A.length) z05 := by
 rw [zg, zg, List.getElem?_append_right h]
theorem zhw {a b c : Bs} (h : ¬ b < a) (k : ¬ c < b) : ¬ c < a := fun hc => by
 rcases z33 b c with h1 | h1 | h1
 · exact h (z76 h1 hc)
 · rw [← h1] at hc; exact h hc
 · exact k h1
theorem Found.parts {A B : List Hld} {s : Nat} (h : Found A B s) (hA : SortedH A) (hB : SortedH B) :
 (∀ x ∈ A.drop s, ∀ y ∈ B.take ((A.length + B.length) / 2 - s), y.id < x.id) ∧ (∀ x ∈ A.take s, ∀ y ∈ B.drop ((A.length + B.length) / 2 - s), ¬ y.id < x.id) := by
 have h1 := h.le; have h2 := h.lo; have h3 := h.mid;generalize hmid : (A.length + B.length) / 2 = mid at *;constructor
 · intro x hx y hy;obtain ⟨i, hi1, hi2, rfl⟩ := z4l hx;obtain ⟨j, hj1, hj2, rfl⟩ := z4k hy;have hyes := h.yes;rw [hmid] at hyes;rcases hyes with e | e | e
   · omega
   · omega
   · rw [z2l (i := mid + A.length - 1 - s) (by omega), z5d (i := s) (by omega), show mid + A.length - 1 - s - A.length = mid - 1 - s by omega] at e;have e := of_decide_eq_true (show decide (_ < _) = true from e);have a1 := z2v hA hi1 hi2;have b1 := z2v hB (show j ≤ mid - 1 - s by omega) (by omega)
     have c1 : (B.getD j z05).id < (A.getD s z05).id := by
      rcases z33 (B.getD j z05).id (B.getD (mid - 1 - s) z05).id with q | q | q
      · exact z76 q e
      · rw [q]; exact e
      · exact absurd q b1
     rcases z33 (A.getD s z05).id (A.getD i z05).id with q | q | q
     · exact z76 c1 q
     · rw [← q]; exact c1
     · exact absurd q a1
 · intro x hx y hy;obtain ⟨i, hi1, hi2, rfl⟩ := z4k hx;obtain ⟨j, hj1, hj2, rfl⟩ := z4l hy;have hno := h.no;rw [hmid] at hno;rcases hno with e | e | e
   · omega
   · omega
   · rw [z2l (i := mid + A.length - s) (by omega), z5d (i := s - 1) (by omega), show mid + A.length - s - A.length = mid - s by omega] at e;have e := of_decide_eq_false (show decide (_ < _) = false from e);have a1 := z2v hA (show i ≤ s - 1 by omega) (by omega);have b1 := z2v hB hj1 hj2;exact zhw (zhw a1 e) b1
end Go.Proofs.YtgjddkeogboojaaGreatDoor
namespace Go.Proofs.YtgjddkeogboojaaGreatDoor
open Go Go.RowKit Go.Maps Go.Sort
theorem z7o {W : World} {B g n c i : Nat} {m : List Hld} (h : NewH B W (.slice (some ⟨g, 0, none⟩) n c) m) (hi : i < m.length) (x : Hld) : NewH B (W.setCells g (i * 3) (z0b x)) (.slice (some ⟨g, 0, none⟩) n c) (m.set i x) := by
 obtain ⟨cur, hn, hB, hg, r1, r2, r3, hc⟩ := z0m h;subst hn;have := z3n (l := m.set i x) (cap := c) hB (z3o (z0b x) _ (i * 3) cur hg) (by rw [List.length_set]; exact r1) r2 (by rw [size_setMany]; exact r3) (fun t ht q hq => ?_)
 · rw [List.length_set] at this; exact this
 · rw [List.length_set] at ht;have hct := hc t ht q hq;have hs : setMany cur (i * 3) (z0b x) = ((cur.setIfInBounds (i * 3) (SV x.id)).setIfInBounds (i * 3 + 1) (.int .i64 x.kind)).setIfInBounds (i * 3 + 2) (SV x.data) := rfl;have hsz : i * 3 + 2 < cur.size := by omega
   rw [hs];by_cases h2 : t = i
   · subst h2;have e3 : (m.set t x).getD t z05 = x := by rw [zg, List.getElem?_set_self hi]; rfl
     rw [e3]
     match q, hq with
     | 0, _ =>
       rw [Array.getElem?_setIfInBounds_ne (by omega), Array.getElem?_setIfInBounds_ne (by omega)];show (cur.setIfInBounds (t * 3) (SV x.id))[t * 3]? = _;rw [Array.getElem?_setIfInBounds_self_of_lt (by omega)]; rfl
     | 1, _ => rw [Array.getElem?_setIfInBounds_ne (by omega), Array.getElem?_setIfInBounds_self_of_lt (by simp; omega)]; rfl
     | 2, _ => rw [Array.getElem?_setIfInBounds_self_of_lt (by simp; omega)]; rfl
   · rw [Array.getElem?_setIfInBounds_ne (by omega), Array.getElem?_setIfInBounds_ne (by omega), Array.getElem?_setIfInBounds_ne (by omega), hct]
     congr 2
     rw [zg, zg, List.getElem?_set_ne (fun e => h2 e.symm)]
def z5e (p x q y r : List Hld) (k : Nat) : List Hld := p ++ ((y.take k ++ x.drop k) ++ (q ++ ((x.take k ++ y.drop k) ++ r)))
theorem zjn (p x q y r : List Hld) : z5e p x q y r 0 = p ++ (x ++ (q ++ (y ++ r))) := by simp [z5e]
theorem zoo {p x q y r : List Hld} (h : x.length = y.length) : z5e p x q y r x.length = p ++ (y ++ (q ++ (x ++ r))) := by
 unfold z5e;rw [List.take_length, List.drop_length, List.take_of_length_le (by omega), List.drop_of_length_le (by omega)]; simp
theorem zop {p x q y r : List Hld} (h : x.length = y.length) {k : Nat} (hk : k ≤ x.length) : (z5e p x q y r k).length = p.length + x.length + q.length + y.length + r.length := by
 unfold z5e; simp; omega
theorem zjo {p x q y r : List Hld} (h : x.length = y.length) {k : Nat} (hk : k < x.length) : (z5e p x q y r k).getD (p.length + k) z05 = x.getD k z05 := by
 unfold z5e;rw [zg, List.getElem?_append_right (by omega), show p.length + k - p.length = k by omega, List.getElem?_append_left (by simp; omega), List.getElem?_append_right (by simp; omega), List.getElem?_drop, zg]
 congr 2
 simp; omega
theorem zg6 {p x q y r : List Hld} (h : x.length = y.length) {k : Nat} (hk : k < x.length) : (z5e p x q y r k).getD (p.length + x.length + q.length + k) z05 = y.getD k z05 := by
 unfold z5e;rw [zg, List.getElem?_append_right (by omega), List.getElem?_append_right (by simp; omega), List.getElem?_append_right (by simp; omega), List.getElem?_append_left (by simp; omega), List.getElem?_append_right (by simp; omega), List.getElem?_drop, zg]
 congr 2
 simp; omega
theorem zoq {α : Type} (l1 l2 : List α) (a b : α) (i : Nat) (h : i = l1.length) : (l1 ++ a :: l2).set i b = l1 ++ b :: l2 := by
 subst h;rw [List.set_append_right _ _ zl, Nat.sub_self]; rfl
theorem zjp {p x q y r : List Hld} (h : x.length = y.length) {k : Nat} (hk : k < x.length) :
 ((z5e p x q y r k).set (p.length + k) (y.getD k z05)).set (p.length + x.length + q.length + k) (x.getD k z05) = z5e p x q y r (k + 1) := by
 have hky : k < y.length := by omega
 have e1 : z5e p x q y r k = (p ++ y.take k) ++ x[k] :: (x.drop (k + 1) ++ (q ++ ((x.take k ++ y.drop k) ++ r))) := by
  unfold z5e; rw [List.drop_eq_getElem_cons hk]; simp only [List.append_assoc, List.cons_append]
 have hy : y.getD k z05 = y[k] := by rw [zg, zj hky]; rfl
 have hx : x.getD k z05 = x[k] := by rw [zg, zj hk]; rfl
 rw [e1, hx, hy, zoq _ _ _ _ _ (by simp; omega)]
 have e2 : (p ++ y.take k) ++ y[k] :: (x.drop (k + 1) ++ (q ++ ((x.take k ++ y.drop k) ++ r))) = (p ++ (y.take k ++ (y[k] :: (x.drop (k + 1) ++ (q ++ x.take k))))) ++ y[k] :: (y.drop (k + 1) ++ r) := by
  rw [List.drop_eq_getElem_cons hky]; simp only [List.append_assoc, List.cons_append]
 rw [e2, zoq _ _ _ _ _ (by simp; omega)];unfold z5e;rw [List.take_add_one, List.take_add_one, zj hk, zj hky];simp only [List.append_assoc, List.cons_append, List.nil_append, Option.toList]
def z5r (B g c n : Nat) (m : List Hld) (w : World) (e : Ending) (w' : World) : Prop := e = .returned (.tuple #[]) ∧ NewH B w' (.slice (some ⟨g, 0, none⟩) n c) m ∧ But (fun q => q = g) w w'
theorem z4m {w : World} {B g c n a b : Nat} {p x q y r : List Hld} (h : NewH B w (.slice (some ⟨g, 0, none⟩) n c) (p ++ (x ++ (q ++ (y ++ r))))) (hxy : x.length = y.length) (hn : n ≤ 1000000) (ha : a = p.length) (hb : b = p.length + x.length + q.length) :
 Calls Tryz.prog 160 #[.slice (some ⟨g, 0, none⟩) n c, .int .i64 (a : Int), .int .i64 (b : Int), .int .i64 (x.length : Int), .func (.func 113) #[] #[]] w (z5r B g c n (p ++ (y ++ (q ++ (x ++ r)))) w) := by
 have hnl : n = (p ++ (x ++ (q ++ (y ++ r)))).length := by obtain ⟨cur, hnl, _⟩ := z0m h; exact hnl
 have hlen : n = p.length + x.length + q.length + y.length + r.length := by rw [hnl]; simp; omega
 rw [← zjn] at h;have H := zh h; have HXY := zh hxy; have HLen := zh hlen; have HAe := zh ha; have HBe := zh hb;have hab : a + x.length ≤ b := by omega
 have hbn : b + x.length ≤ n := by omega
 clear h hxy hlen ha hb hnl
 go_enter Tryz.func160, Tryz.ntmps160
 go_wp2_with fail
 go_loopw [10] (fun vi wr => ∃ k : Nat, k ≤ x.length ∧ vi = .int .i64 k ∧ Hid (NewH B wr (.slice (some ⟨g, 0, none⟩) n c) (z5e p x q y r k)) ∧ Hid (But (fun q => q = g) w wr)) (fun vi _ => x.length - (intOf vi).toNat)
 case atStart => exact ⟨0, Nat.zero_le _, rfl, H, zh (But.refl _ _)⟩
 case round =>
  obtain ⟨k, hk, rfl, hN, hBt⟩ := hrel;by_cases hlt : k < x.length
  · have hll := zop (p := p) (q := q) (r := r) HXY.out hk;have c1 := HldsR.cells hN.out.rd (a + k) (by rw [hll]; have := HLen.out; omega);have c2 := HldsR.cells hN.out.rd (b + k) (by rw [hll]; have := HLen.out; omega);rw [show a + k = p.length + k by rw [HAe.out], zjo HXY.out hlt, ← HAe.out, Nat.zero_add] at c1;rw [show b + k = p.length + x.length + q.length + k by rw [HBe.out], zg6 HXY.out hlt, ← HBe.out, Nat.zero_add] at c2;obtain ⟨c10, c11, c12⟩ := c1;obtain ⟨c20, c21, c22⟩ := c2;have hst := zjp (p := p) (q := q) (r := r) HXY.out hlt;rw [← HBe.out, ← HAe.out] at hst
    have hw2 : NewH B ((wr.setCells g ((a + k) * 3) (z0b (y.getD k z05))).setCells g ((b + k) * 3) (z0b (x.getD k z05))) (.slice (some ⟨g, 0, none⟩) n c) (z5e p x q y r (k + 1)) := by
     rw [← hst];exact z7o (z7o hN.out (by rw [hll]; have := HLen.out; omega) _) (by rw [List.length_set, hll]; have := HLen.out; omega) _
    have hb2 : But (fun q => q = g) w ((wr.setCells g ((a + k) * 3) (z0b (y.getD k z05))).setCells g ((b + k) * 3) (z0b (x.getD k z05))) := (hBt.out.trans (z15 (S := fun q => q = g) rfl _ _ _)).trans (z15 (S := fun q => q = g) rfl _ _ _);obtain ⟨cur, hn9, hB9, hg, hr9⟩ := z0m hN.out;clear hn9 hB9 hr9;obtain ⟨u, hu⟩ := zx (x.getD k z05);obtain ⟨v, hv⟩ := zx (y.getD k z05);rw [← hu] at c10 c11 c12 hw2 hb2;rw [← hv] at c20 c21 c22 hw2 hb2;have f := fun i => frozen_of (i := i) hg;have f10 := f ((a + k) * 3); have f11 := f ((a + k) * 3 + 1); have f12 := f ((a + k) * 3 + 2);have f20 := f ((b + k) * 3); have f21 := f ((b + k) * 3 + 1); have f22 := f ((b + k) * 3 + 2);obtain ⟨ui, uk, ud⟩ := u;obtain ⟨vi, vk, vd⟩ := v;unfold SV at c10 c12 c20 c22;simp only at c10 c11 c12 c20 c21 c22
    have hch : (wr.setCells g ((a + k) * 3) (z0b ⟨vi, vk, vd⟩)).setCells g ((b + k) * 3) (z0b ⟨ui, uk, ud⟩) =
     (((((wr.setCell ⟨g, (a + k) * 3, none⟩ (.string ⟨vi.toArray⟩)).setCell ⟨g, (a + k) * 3 + 1, none⟩ (.int .i64 vk)).setCell ⟨g, (a + k) * 3 + 2, none⟩ (.string ⟨vd.toArray⟩)).setCell ⟨g, (b + k) * 3, none⟩ (.string ⟨ui.toArray⟩)).setCell ⟨g, (b + k) * 3 + 1, none⟩ (.int .i64 uk)).setCell ⟨g, (b + k) * 3 + 2, none⟩ (.string ⟨ud.toArray⟩) := rfl
    rw [hch] at hw2 hb2;have HW2 := zh hw2; have HB2 := zh hb2;clear hch;have w1 : IntKind.i64.wrap ((a : Int) + (k : Int)) = ((a + k : Nat) : Int) := by rw [show ((a : Int) + (k : Int)) = ((a + k : Nat) : Int) by omega]; exact IntWalk.i64_in _ (by omega)
    have w2 : IntKind.i64.wrap ((b : Int) + (k : Int)) = ((b + k : Nat) : Int) := by rw [show ((b : Int) + (k : Int)) = ((b + k : Nat) : Int) by omega]; exact IntWalk.i64_in _ (by omega)
    have i1 : ((a + k : Nat) : Int) < (n : Int) := by omega
    have i2 : ((b + k : Nat) : Int) < (n : Int) := by omega
    have hkI : (k : Int) < (x.length : Int) := by omega
    clear hw2 hb2 hst hu hv hll f hg
    go_upto_region 3 with fail
    go_big_region
    clear c10 c11 c12 c20 c21 c22 f10 f11 f12 f20 f21 f22 w1 w2 i1 i2
    go_wp2_with fail
    have HW3 := zh (HW2.out.below (Below.refl _ _).drew zl);have HB3 := zh HB2.out.drew;exact ⟨⟨k + 1, hlt, by go_num, HW3, HB3⟩, by simp [intOf]; omega⟩
  · obtain rfl : k = x.length := by omega
    have HE := zh (zoo (p := p) (q := q) (r := r) HXY.out);have hf := hN.out;rw [HE.out] at hf;have HF := zh hf;clear hf
    go_wp2_with fail
    go_end0
    exact ⟨rfl, HF.out, hBt.out⟩
theorem zjq {w : World} {B g c n a m b : Nat} {p u v r : List Hld} (h : NewH B w (.slice (some ⟨g, 0, none⟩) n c) (p ++ (u ++ (v ++ r)))) (hu : 0 < u.length) (hv : 0 < v.length) (hn : n ≤ 1000000) (ha : a = p.length) (hm : m = p.length + u.length) (hb : b = p.length + u.length + v.length) :
 Calls Tryz.prog 147 #[.slice (some ⟨g, 0, none⟩) n c, .int .i64 (a : Int), .int .i64 (m : Int), .int .i64 (b : Int), .func (.func 113) #[] #[]] w (z5r B g c n (p ++ (v ++ (u ++ r))) w) := by
 have hnl : n = (p ++ (u ++ (v ++ r))).length := by obtain ⟨cur, hnl, _⟩ := z0m h; exact hnl
 have hlen : n = p.length + u.length + v.length + r.length := by rw [hnl]; simp; omega
 obtain ⟨F, hF⟩ := zx (p ++ (v ++ (u ++ r)));rw [← hF];obtain ⟨i0, hi0⟩ := zx u.length;obtain ⟨j0, hj0⟩ := zx v.length;have e1 : (m : Int) - (a : Int) = (i0 : Int) := by omega
 have e2 : (b : Int) - (m : Int) = (j0 : Int) := by omega
 have hmn : m + j0 ≤ n := by omega
 have hi1 : 0 < i0 := by omega
 have hj1 : 0 < j0 := by omega
 have him : i0 ≤ m := by omega
 have H := zh h; have HF := zh hF; have HI := zh hi0; have HJ := zh hj0; have HM : Hid (m = p.length + i0) := zh (by omega);clear h hF hi0 hj0 hu hv hlen hnl ha hm hb
 go_enter Tryz.func147, Tryz.ntmps147
 go_wp2
 clear e1 e2
 go_loopw [10, 11] (fun vi vj wr => ∃ (i j : Nat) (l1 u1 v1 r1 : List Hld), vi = .int .i64 i ∧ vj = .int .i64 j ∧ 0 < i ∧ 0 < j ∧ i ≤ m ∧ m + j ≤ n ∧ Hid (i = u1.length) ∧ Hid (j = v1.length) ∧ Hid (m = l1.length + i) ∧ Hid (F = l1 ++ (v1 ++ (u1 ++ r1))) ∧ Hid (NewH B wr (.slice (some ⟨g, 0, none⟩) n c) (l1 ++ (u1 ++ (v1 ++ r1)))) ∧ Hid (But (fun q => q = g) w wr)) (fun vi vj _ => (intOf vi).toNat + (intOf vj).toNat)
 case atStart => exact ⟨i0, j0, p, u, v, r, rfl, rfl, hi1, hj1, him, hmn, HI, HJ, HM, HF, H, zh (But.refl _ _)⟩
 case round =>
  clear H HF HI HJ HM hi1 hj1 him hmn;obtain ⟨i, j, l1, u1, v1, r1, rfl, rfl, hi1, hj1, him, hmn, HI, HJ, HM, HF, HN, HB⟩ := hrel;rcases Nat.lt_trichotomy i j with hij | hij | hij
  · obtain ⟨y, z, hyz, hz⟩ : ∃ y z, v1 = y ++ z ∧ z.length = i := ⟨v1.take (j - i), v1.drop (j - i), (List.take_append_drop _ _).symm, by rw [List.length_drop, ← HJ.out]; omega⟩
    have hy : y.length = j - i := by have := HJ.out; rw [hyz, List.length_append] at this; omega
    have HC : Hid (Calls Tryz.prog 160 #[.slice (some ⟨g, 0, none⟩) n c, .int .i64 ((m : Int) - (i : Int)), .int .i64 ((m : Int) + (j : Int) - (i : Int)), .int .i64 (i : Int), .func (.func 113) #[] #[]] wr (z5r B g c n (l1 ++ (z ++ (y ++ (u1 ++ r1)))) wr)) := zh (by
     have h := HN.out;rw [hyz, List.append_assoc] at h;have := z4m (a := m - i) (b := m + j - i) h (by rw [hz]; exact HI.out.symm) hn (by have := HM.out; omega) (by have := HM.out; have := HI.out; omega);rw [← HI.out, show ((m - i : Nat) : Int) = (m : Int) - (i : Int) by omega, show ((m + j - i : Nat) : Int) = (m : Int) + (j : Int) - (i : Int) by omega] at this;exact this)
    have HF2 : Hid (F = l1 ++ (y ++ (z ++ (u1 ++ r1)))) := zh (by rw [HF.out, hyz]; simp);have Hz := zh hz.symm; have Hy := zh hy.symm;have b1 : ((i : Int) != (j : Int)) = true := by simp only [bne_iff_ne, ne_eq]; omega
    have b2 : ¬ (j : Int) < (i : Int) := by omega
    clear hyz hz hy HN HF HJ
    go_wp2_with fail
    refine HC.out.mono ?_;rintro e w2 ⟨rfl, n2, t2⟩;have HN2 := zh n2; have HB2 := zh (HB.out.trans t2);clear n2 t2 HB HC b1 b2
    go_wp2
    go_roundw
    case rel => exact ⟨i, j - i, l1, z, y, u1 ++ r1, rfl, congrArg (Value.int .i64) (by omega), hi1, by omega, him, by omega, Hz, Hy, HM, HF2, HN2, HB2⟩
    case measure => simp [intOf]; omega
  · subst hij
    have HC : Hid (Calls Tryz.prog 160 #[.slice (some ⟨g, 0, none⟩) n c, .int .i64 ((m : Int) - (i : Int)), .int .i64 (m : Int), .int .i64 (i : Int), .func (.func 113) #[] #[]] wr (z5r B g c n F wr)) := zh (by
     have := z4m (a := m - i) (b := m) (p := l1) (x := u1) (q := []) (y := v1) (r := r1) (by rw [List.nil_append]; exact HN.out) (by rw [← HI.out, ← HJ.out]) hn (by have := HM.out; omega) (by have := HM.out; have := HI.out; simp; omega);rw [← HI.out, show ((m - i : Nat) : Int) = (m : Int) - (i : Int) by omega, List.nil_append, ← HF.out] at this;exact this)
    have b1 : ((i : Int) != (i : Int)) = false := by simp
    clear HN HF HJ HI HM
    go_wp2_with fail
    refine HC.out.mono ?_;rintro e w2 ⟨rfl, n2, t2⟩;have HN2 := zh n2; have HB2 := zh (HB.out.trans t2);clear n2 t2 HB HC
    go_wp2_with fail
    go_end0
    exact ⟨rfl, HN2.out, HB2.out⟩
  · obtain ⟨x, q, hxq, hx⟩ : ∃ x q, u1 = x ++ q ∧ x.length = j := ⟨u1.take j, u1.drop j, (List.take_append_drop _ _).symm, by rw [List.length_take, ← HI.out]; omega⟩
    have hq : q.length = i - j := by have := HI.out; rw [hxq, List.length_append] at this; omega
    have HC : Hid (Calls Tryz.prog 160 #[.slice (some ⟨g, 0, none⟩) n c, .int .i64 ((m : Int) - (i : Int)), .int .i64 (m : Int), .int .i64 (j : Int), .func (.func 113) #[] #[]] wr (z5r B g c n (l1 ++ (v1 ++ (q ++ (x ++ r1)))) wr)) := zh (by
     have h := HN.out;rw [hxq, List.append_assoc] at h;have := z4m (a := m - i) (b := m) h (by rw [hx]; exact HJ.out) hn (by have := HM.out; omega) (by have := HM.out; omega);rw [hx, show ((m - i : Nat) : Int) = (m : Int) - (i : Int) by omega] at this;exact this)
    have HF2 : Hid (F = (l1 ++ v1) ++ (x ++ (q ++ r1))) := zh (by rw [HF.out, hxq]; simp);have Hx := zh hx.symm; have Hq := zh hq.symm;have HM2 : Hid (m = (l1 ++ v1).length + (i - j)) := zh (by have := HM.out; have := HJ.out; rw [List.length_append]; omega);have b1 : ((i : Int) != (j : Int)) = true := by simp only [bne_iff_ne, ne_eq]; omega
    have b2 : (j : Int) < (i : Int) := by omega
    clear hxq hx hq HN HF HJ HI HM
    go_wp2_with fail
    refine HC.out.mono ?_;rintro e w2 ⟨rfl, n2, t2⟩;have HN2 : Hid (NewH B w2 (.slice (some ⟨g, 0, none⟩) n c) ((l1 ++ v1) ++ (q ++ (x ++ r1)))) := zh (by rw [List.append_assoc]; exact n2);have HB2 := zh (HB.out.trans t2);clear n2 t2 HB HC b1 b2
    go_wp2
    go_roundw
    case rel => exact ⟨i - j, j, l1 ++ v1, q, x, r1, congrArg (Value.int .i64) (by omega), rfl, by omega, hj1, by omega, hmn, Hq, Hx, HM2, HF2, HN2, HB2⟩
    case measure => simp [intOf]; omega
end Go.Proofs.YtgjddkeogboojaaGreatDoor
namespace Go.Proofs.YtgjddkeogboojaaGreatDoor
open Go.Sort
theorem SortedH.left {a b : List Hld} (h : SortedH (a ++ b)) : SortedH a := (List.pairwise_append.1 h).1
theorem SortedH.right {a b : List Hld} (h : SortedH (a ++ b)) : SortedH b := (List.pairwise_append.1 h).2.1
theorem zca {x : Hld} {b1 b2 : List Hld} (hB : SortedH (b1 ++ b2)) (h1 : ∀ y ∈ b1, y.id < x.id) (h2 : ∀ y ∈ b2, ¬ y.id < x.id) : Stab ([x] ++ (b1 ++ b2)) (b1 ++ ([x] ++ b2)) := by
 have hs : SortedH ([x] ++ b2) := List.pairwise_append.2 ⟨SortedH.one x, hB.right, fun a ha y hy => by rw [List.mem_singleton.1 ha]; exact h2 y hy⟩
 have := z6b (u1 := []) (u2 := [x]) (v1 := b1) (v2 := b2) (m := b1) (n := [x] ++ b2) (by rw [List.nil_append]; exact Stab.refl hB.left) (Stab.refl hs) (by rw [List.nil_append]; exact SortedH.one x) hB
  (fun a ha y hy => by rw [List.mem_singleton.1 ha]; exact h1 y hy) (fun a ha => by cases ha)
 rwa [List.nil_append] at this
theorem zah {y : Hld} {a1 a2 : List Hld} (hA : SortedH (a1 ++ a2)) (h1 : ∀ x ∈ a1, ¬ y.id < x.id) (h2 : ∀ x ∈ a2, y.id < x.id) : Stab ((a1 ++ a2) ++ [y]) (a1 ++ ([y] ++ a2)) := by
 have hs : SortedH (a1 ++ [y]) := List.pairwise_append.2 ⟨hA.left, SortedH.one y, fun a ha z hz => by rw [List.mem_singleton.1 hz]; exact h1 a ha⟩
 have := z6b (u1 := a1) (u2 := a2) (v1 := [y]) (v2 := []) (m := a1 ++ [y]) (n := a2) (Stab.refl hs) (by rw [List.append_nil]; exact Stab.refl hA.right) hA (by rw [List.append_nil]; exact SortedH.one y)
  (fun x hx z hz => by rw [List.mem_singleton.1 hz]; exact h2 x hx) (fun a _ z hz => by cases hz)
 simpa [List.append_assoc] using this
theorem zg7 {B : List Hld} {x : Hld} (hB : SortedH B) {i : Nat} (h : i = 0 ∨ (i ≤ B.length ∧ (B.getD (i - 1) z05).id < x.id)) : ∀ y ∈ B.take i, y.id < x.id := by
 intro y hy;obtain ⟨j, hj1, hj2, rfl⟩ := z4k hy;rcases h with rfl | ⟨hle, h⟩
 · omega
 · have b1 := z2v hB (show j ≤ i - 1 by omega) (by omega);rcases z33 (B.getD j z05).id (B.getD (i - 1) z05).id with q | q | q
   · exact z76 q h
   · rw [q]; exact h
   · exact absurd q b1
theorem zg8 {B : List Hld} {x : Hld} (hB : SortedH B) {j : Nat} (h : B.length ≤ j ∨ ¬ (B.getD j z05).id < x.id) : ∀ y ∈ B.drop j, ¬ y.id < x.id := by
 intro y hy;obtain ⟨i, hi1, hi2, rfl⟩ := z4l hy;rcases h with h | h
 · omega
 · exact zhw h (z2v hB hi1 hi2)
theorem zjr {A : List Hld} {y : Hld} (hA : SortedH A) {i : Nat} (h : i = 0 ∨ (i ≤ A.length ∧ ¬ y.id < (A.getD (i - 1) z05).id)) : ∀ x ∈ A.take i, ¬ y.id < x.id := by
 intro x hx;obtain ⟨j, hj1, hj2, rfl⟩ := z4k hx;rcases h with rfl | ⟨hle, h⟩
 · omega
 · exact zhw (z2v hA (show j ≤ i - 1 by omega) (by omega)) h
theorem zor {A : List Hld} {y : Hld} (hA : SortedH A) {j : Nat} (h : A.length ≤ j ∨ y.id < (A.getD j z05).id) : ∀ x ∈ A.drop j, y.id < x.id := by
 intro x hx;obtain ⟨i, hi1, hi2, rfl⟩ := z4l hx;rcases h with h | h
 · omega
 · have := z2v hA hi1 hi2;rcases z33 (A.getD j z05).id (A.getD i z05).id with q | q | q
   · exact z76 h q
   · rw [← q]; exact h
   · exact absurd q this
def z2c (p : List Hld) (x : Hld) (b r : List Hld) (t : Nat) : List Hld := p ++ (b.take t ++ (x :: (b.drop t ++ r)))
theorem zbe (p : List Hld) (x : Hld) (b r : List Hld) : z2c p x b r 0 = p ++ ([x] ++ (b ++ r)) := by simp [z2c]
theorem zek (p : List Hld) (x : Hld) (b r : List Hld) : z2c p x b r b.length = p ++ (b ++ ([x] ++ r)) := by simp [z2c]
theorem zos {p : List Hld} {x : Hld} {b r : List Hld} {t : Nat} (_h : t ≤ b.length) : (z2c p x b r t).length = p.length + b.length + 1 + r.length := by
 unfold z2c; simp; omega
theorem zbf {p : List Hld} {x : Hld} {b r : List Hld} {t : Nat} (h : t ≤ b.length) : (z2c p x b r t).getD (p.length + t) z05 = x := by
 unfold z2c;rw [zg, List.getElem?_append_right (by omega), show p.length + t - p.length = t by omega, List.getElem?_append_right (by simp; omega), List.length_take, Nat.min_eq_left h, Nat.sub_self]; rfl
theorem zjs {p : List Hld} {x : Hld} {b r : List Hld} {t : Nat} (h : t < b.length) : (z2c p x b r t).getD (p.length + t + 1) z05 = b.getD t z05 := by
 unfold z2c;rw [zg, List.getElem?_append_right (by omega), show p.length + t + 1 - p.length = t + 1 by omega, List.getElem?_append_right (by simp; omega), List.length_take, Nat.min_eq_left (by omega), show t + 1 - t = 1 by omega, List.getElem?_cons_succ, List.getElem?_append_left (by simp; omega), List.getElem?_drop, zg]; rfl
theorem zjt {p : List Hld} {x : Hld} {b r : List Hld} {t : Nat} (h0 : 0 < t) (h : t ≤ b.length) : (z2c p x b r t).getD (p.length + t - 1) z05 = b.getD (t - 1) z05 := by
 unfold z2c;rw [zg, List.getElem?_append_right (by omega), show p.length + t - 1 - p.length = t - 1 by omega, List.getElem?_append_left (by simp; omega), List.getElem?_take, if_pos (by omega), zg]
theorem zcb (l1 l2 : List Hld) (a b c d : Hld) (i : Nat) (h : i = l1.length) : ((l1 ++ a :: b :: l2).set i c).set (i + 1) d = l1 ++ c :: d :: l2 := by
 subst h;rw [List.set_append_right _ _ zl, Nat.sub_self, List.set_append_right _ _ (Nat.le_succ _), show l1.length + 1 - l1.length = 1 by omega]; rfl
theorem zju {p : List Hld} {x : Hld} {b r : List Hld} {t : Nat} (h : t < b.length) : ((z2c p x b r t).set (p.length + t) (b.getD t z05)).set (p.length + t + 1) x = z2c p x b r (t + 1) := by
 have e1 : z2c p x b r t = (p ++ b.take t) ++ x :: b[t] :: (b.drop (t + 1) ++ r) := by
  unfold z2c; rw [List.drop_eq_getElem_cons h]; simp only [List.append_assoc, List.cons_append]
 have hb : b.getD t z05 = b[t] := by rw [zg, zj h]; rfl
 rw [e1, hb, zcb _ _ _ _ _ _ _ (by simp; omega)];unfold z2c;rw [List.take_add_one, zj h];simp only [List.append_assoc, List.cons_append, List.nil_append, Option.toList]
theorem zjv {p : List Hld} {x : Hld} {b r : List Hld} {t : Nat} (h : t < b.length) : ((z2c p x b r (t + 1)).set (p.length + t + 1) (b.getD t z05)).set (p.length + t) x = z2c p x b r t := by
 have e1 : z2c p x b r (t + 1) = (p ++ b.take t) ++ b[t] :: x :: (b.drop (t + 1) ++ r) := by
  unfold z2c; rw [List.take_add_one, zj h]; simp only [List.append_assoc, List.cons_append, List.nil_append, Option.toList]
 have hb : b.getD t z05 = b[t] := by rw [zg, zj h]; rfl
 rw [e1, hb, List.set_comm _ _ (by omega), zcb _ _ _ _ _ _ _ (by simp; omega)];unfold z2c;rw [List.drop_eq_getElem_cons h]; simp only [List.append_assoc, List.cons_append]
theorem swp_blk (p r x : List Hld) (d : Array Hld) (j : Nat) (hd : d.toList = p ++ (x ++ r)) (h1 : p.length ≤ j) (h2 : j + 1 < p.length + x.length) (hlt : ltH d[j + 1]! d[j]! = true) : ∃ y, (swp d (j + 1) j).toList = p ++ (y ++ r) ∧ SameF x y ∧ y.length = x.length := by
 have hsz : d.size = p.length + x.length + r.length := by have := congrArg List.length hd; simp at this; omega
 obtain ⟨t, rfl⟩ : ∃ t, j = p.length + t := ⟨j - p.length, by omega⟩
 have ht : t + 1 < x.length := by omega
 have ha : d[p.length + t]! = x[t] := by
  rw [getElem!_pos d _ (by omega)];have : d.toList[p.length + t]? = some x[t] := by rw [hd, List.getElem?_append_right (by omega), show p.length + t - p.length = t by omega, List.getElem?_append_left (by omega), zj (by omega)]
  rw [Array.getElem?_toList, Array.getElem?_eq_getElem (by omega)] at this;exact Option.some.inj this
 have hb : d[p.length + t + 1]! = x[t + 1] := by
  rw [getElem!_pos d _ (by omega)];have : d.toList[p.length + t + 1]? = some x[t + 1] := by rw [hd, List.getElem?_append_right (by omega), show p.length + t + 1 - p.length = t + 1 by omega, List.getElem?_append_left (by omega), zj (by omega)]
  rw [Array.getElem?_toList, Array.getElem?_eq_getElem (by omega)] at this;exact Option.some.inj this
 have hx : x = x.take t ++ ([x[t]] ++ [x[t + 1]]) ++ x.drop (t + 2) := by
  have h3 : x.drop t = x[t] :: x.drop (t + 1) := List.drop_eq_getElem_cons (by omega);have h4 : x.drop (t + 1) = x[t + 1] :: x.drop (t + 2) := List.drop_eq_getElem_cons ht;rw [List.append_assoc];show x = x.take t ++ (x[t] :: x[t + 1] :: x.drop (t + 2))
  rw [← h4, ← h3, List.take_append_drop]
 refine ⟨x.take t ++ ([x[t + 1]] ++ [x[t]]) ++ x.drop (t + 2), ?_, ?_, ?_⟩
 · have hs : (swp d (p.length + t + 1) (p.length + t)).toList = (d.toList.set (p.length + t) (d[p.length + t + 1]!)).set (p.length + t + 1) (d[p.length + t]!) := by
    unfold swp;rw [Array.toList_setIfInBounds, Array.toList_setIfInBounds, List.set_comm _ _ (by omega)]
   rw [hs, ha, hb, hd]
   have e : p ++ (x ++ r) = (p ++ x.take t) ++ x[t] :: x[t + 1] :: (x.drop (t + 2) ++ r) := by
    conv => lhs; rw [hx]
    simp only [List.append_assoc, List.cons_append, List.nil_append]
   rw [e, zcb _ _ _ _ _ _ _ (by simp; omega)];simp only [List.append_assoc, List.cons_append, List.nil_append]
 · conv => lhs; rw [hx]
   rw [ha, hb] at hlt;refine z5a fun a ha' b hb' e => ?_;rw [List.mem_singleton.1 ha', List.mem_singleton.1 hb'] at e;have := of_decide_eq_true (show decide (_ < _) = true from hlt);rw [e] at this; exact z4v _ this
 · simp; omega
theorem z7z (p r : List Hld) : ∀ (j : Nat) (x : List Hld) (d : Array Hld), d.toList = p ++ (x ++ r) → j < p.length + x.length → ∃ y, (insInner ltH p.length j d).toList = p ++ (y ++ r) ∧ SameF x y ∧ y.length = x.length
 | 0, x, d, hd, _ => by unfold insInner; exact ⟨x, hd, SameF.refl _, rfl⟩
 | j + 1, x, d, hd, hj => by
   unfold insInner;split
   · rename_i hc;rw [Bool.and_eq_true, decide_eq_true_eq] at hc;obtain ⟨y, h1, h2, h3⟩ := swp_blk p r x d j hd (by omega) hj hc.2;obtain ⟨z, k1, k2, k3⟩ := z7z p r j y _ h1 (by omega);exact ⟨z, k1, h2.trans k2, k3.trans h3⟩
   · exact ⟨x, hd, SameF.refl _, rfl⟩
theorem z80 (p r : List Hld) (b : Nat) : ∀ (n i : Nat) (x : List Hld) (d : Array Hld), b - i = n → b = p.length + x.length → d.toList = p ++ (x ++ r) → ∃ y, (insOuter ltH p.length b i d).toList = p ++ (y ++ r) ∧ SameF x y ∧ y.length = x.length
 | 0, i, x, d, h, hb, hd => by rw [insOuter, if_neg (by omega)]; exact ⟨x, hd, SameF.refl _, rfl⟩
 | n + 1, i, x, d, h, hb, hd => by
   rw [insOuter, if_pos (by omega)];obtain ⟨y, h1, h2, h3⟩ := z7z p r i x d hd (by omega);obtain ⟨z, k1, k2, k3⟩ := z80 p r b n (i + 1) y _ (by omega) (by rw [h3]; exact hb) h1;exact ⟨z, k1, h2.trans k2, k3.trans h3⟩
theorem zcc (p x r : List Hld) : ∃ y, (insertionSort ltH (p ++ (x ++ r)).toArray p.length (p.length + x.length)).toList = p ++ (y ++ r) ∧ Stab x y := by
 obtain ⟨y, h1, h2, h3⟩ := z80 p r (p.length + x.length) _ (p.length + 1) x (p ++ (x ++ r)).toArray rfl rfl (by simp);have hs := insertionSort_holds zni (p ++ (x ++ r)).toArray p.length (p.length + x.length) (by omega) (by simp);have h1' : (insertionSort ltH (p ++ (x ++ r)).toArray p.length (p.length + x.length)).toList = p ++ (y ++ r) := h1;generalize insertionSort ltH (p ++ (x ++ r)).toArray p.length (p.length + x.length) = d at hs h1';obtain ⟨⟨g1, g2, g3⟩, g4⟩ := hs;refine ⟨y, h1', ⟨?_, h2, ?_⟩⟩
 · have e1 : (d.extract p.length (p.length + x.length)).toList = y := by
    rw [Array.toList_extract, h1', List.extract_eq_take_drop, List.drop_append, List.drop_of_length_le zl, Nat.sub_self, List.drop_zero, List.nil_append, Nat.add_sub_cancel_left, ← h3, List.take_left]
   have e2 : ((p ++ (x ++ r)).toArray.extract p.length (p.length + x.length)).toList = x := by
    rw [Array.toList_extract, List.extract_eq_take_drop, List.drop_append, List.drop_of_length_le zl, Nat.sub_self, List.drop_zero, List.nil_append, Nat.add_sub_cancel_left, List.take_left]
   rw [e1, e2] at g3;exact g3
 · rw [List.pairwise_iff_getElem];intro i j hi hj hij;have := g4 (p.length + i) (p.length + j) (by omega) (by omega) (by omega)
   have hat : ∀ k (hk : k < y.length), d[p.length + k]! = y[k] := fun k hk => by
    have hsz : d.size = p.length + (y.length + r.length) := by have := congrArg List.length h1'; simpa using this
    rw [getElem!_pos d _ (by omega)];have : d.toList[p.length + k]? = some y[k] := by rw [h1', List.getElem?_append_right (by omega), show p.length + k - p.length = k by omega, List.getElem?_append_left hk, zj hk]
    rw [Array.getElem?_toList, Array.getElem?_eq_getElem (by omega)] at this;exact Option.some.inj this
   rw [hat i hi, hat j hj] at this;exact of_decide_eq_false (show decide (_ < _) = false from this)
def z16 (s i : Nat) (l : List Hld) : List Hld := (l.drop (i * s)).take s
theorem z5x {p x r : List Hld} {j : Nat} (h : p.length + x.length ≤ j) : (p ++ (x ++ r)).drop j = r.drop (j - (p.length + x.length)) := by
 rw [← List.append_assoc, List.drop_append, List.drop_of_length_le (by simp; omega), List.nil_append, List.length_append]
theorem z9y {p x y r : List Hld} (hxy : y.length = x.length) {s i : Nat} (h : p.length + x.length ≤ i * s) : z16 s i (p ++ (y ++ r)) = z16 s i (p ++ (x ++ r)) := by
 unfold z16; rw [z5x h, z5x (by rw [hxy]; exact h), hxy]
theorem zbg {p x y r : List Hld} {s i : Nat} (h : i * s + s ≤ p.length) : z16 s i (p ++ (y ++ r)) = z16 s i (p ++ (x ++ r)) := by
 unfold z16;rw [List.drop_append_of_le_length (by omega), List.drop_append_of_le_length (by omega), List.take_append_of_le_length (by rw [List.length_drop]; omega), List.take_append_of_le_length (by rw [List.length_drop]; omega)]
theorem z6x {p y r : List Hld} {s i : Nat} (hp : p.length = i * s) (hy : y.length = s ∨ (r = [] ∧ y.length ≤ s)) : z16 s i (p ++ (y ++ r)) = y := by
 unfold z16;rw [← hp, List.drop_left];rcases hy with h | ⟨rfl, h⟩
 · rw [← h, List.take_left]
 · rw [List.append_nil, List.take_of_length_le h]
theorem z9z (s k : Nat) (l : List Hld) : z16 (2 * s) k l = z16 s (2 * k) l ++ z16 s (2 * k + 1) l := by
 unfold z16;rw [show k * (2 * s) = 2 * k * s by rw [← Nat.mul_assoc, Nat.mul_comm k 2], show (2 * k + 1) * s = 2 * k * s + s by rw [Nat.add_mul, Nat.one_mul], Nat.two_mul s, List.take_add, List.drop_drop]
theorem z21 {s i : Nat} {l : List Hld} (h : l.length ≤ i * s) : z16 s i l = [] := by unfold z16; rw [List.drop_of_length_le h, List.take_nil]
theorem zel {s : Nat} {l : List Hld} (h : l.length ≤ s) : z16 s 0 l = l := by unfold z16; rw [Nat.zero_mul, List.drop_zero, List.take_of_length_le h]
structure Ini (s k : Nat) (l m : List Hld) : Prop where
 len : m.length = l.length
 done : ∀ i, i < k → Stab (z16 s i l) (z16 s i m)
 left : ∀ i, k ≤ i → z16 s i m = z16 s i l
structure Parts (s : Nat) (l m : List Hld) : Prop where
 len : m.length = l.length
 done : ∀ i, Stab (z16 s i l) (z16 s i m)
structure Mix (s k : Nat) (l m : List Hld) : Prop where
 len : m.length = l.length
 done : ∀ i, i < k → Stab (z16 (2 * s) i l) (z16 (2 * s) i m)
 left : ∀ i, 2 * k ≤ i → Stab (z16 s i l) (z16 s i m)
theorem Ini.start (s : Nat) (l : List Hld) : Ini s 0 l l := ⟨rfl, fun i h => absurd h (Nat.not_lt_zero i), fun _ _ => rfl⟩
theorem Ini.step {s k : Nat} {l p x r y : List Hld} (h : Ini s k l (p ++ (x ++ r))) (hp : p.length = k * s) (hx : x.length = s ∨ (r = [] ∧ x.length ≤ s)) (hy : Stab x y) : Ini s (k + 1) l (p ++ (y ++ r)) := by
 have hyl : y.length = x.length := hy.perm.length_eq;refine ⟨?_, fun i hi => ?_, fun i hi => ?_⟩
 · rw [← h.len]; simp [hyl]
 · by_cases e : i = k
   · subst e;rw [z6x hp (by rw [hyl]; exact hx), ← h.left i zl, z6x hp hx];exact hy
   · rw [zbg (x := x) (by rw [hp]; have : (i + 1) * s ≤ k * s := Nat.mul_le_mul_right s (by omega); rw [Nat.add_mul] at this; omega)];exact h.done i (by omega)
 · rcases hx with hx | ⟨rfl, hx⟩
   · rw [z9y hyl (by rw [hp, hx]; have : (k + 1) * s ≤ i * s := Nat.mul_le_mul_right s hi; rw [Nat.add_mul] at this; omega)];exact h.left i (by omega)
   · have hle : (k + 1) * s ≤ i * s := Nat.mul_le_mul_right s hi;rw [Nat.add_mul] at hle;rw [← h.left i (by omega), z21 (by simp; omega), z21 (by simp; omega)]
theorem Ini.parts {s k : Nat} {l m : List Hld} (h : Ini s k l m) (hk : l.length ≤ k * s) : Parts s l m := ⟨h.len, fun i => by
 by_cases hi : i < k
 · exact h.done i hi
 · have : k * s ≤ i * s := Nat.mul_le_mul_right s (by omega);rw [z21 (by omega), z21 (by rw [h.len]; omega)]; exact Stab.nil⟩
theorem Parts.mix {s : Nat} {l m : List Hld} (h : Parts s l m) : Mix s 0 l m := ⟨h.len, fun i hi => absurd hi (Nat.not_lt_zero i), fun i _ => h.done i⟩
theorem Parts.all {s : Nat} {l m : List Hld} (h : Parts s l m) (hs : l.length ≤ s) : Stab l m := by
 have := h.done 0;rw [zel hs, zel (by rw [h.len]; exact hs)] at this;exact this
theorem Stab.two {a b x y z : List Hld} (h : Stab a x) (k : Stab b y) (hz : Stab (x ++ y) z) : Stab (a ++ b) z := Stab.trans' (h.perm.append k.perm) (h.same.append k.same) hz
theorem Mix.step {s k : Nat} {l p A B r M : List Hld} (h : Mix s k l (p ++ ((A ++ B) ++ r))) (hp : p.length = k * (2 * s)) (hA : A.length = s) (hB : B.length = s ∨ (r = [] ∧ B.length ≤ s)) (hM : Stab (A ++ B) M) : Mix s (k + 1) l (p ++ (M ++ r)) := by
 have hml : M.length = (A ++ B).length := hM.perm.length_eq
 have hab : (A ++ B).length = 2 * s ∨ (r = [] ∧ (A ++ B).length ≤ 2 * s) := by
  rw [List.length_append, hA];rcases hB with h | ⟨h1, h2⟩
  · left; omega
  · exact .inr ⟨h1, by omega⟩
 refine ⟨?_, fun i hi => ?_, fun i hi => ?_⟩
 · rw [← h.len]; simp [hml]; omega
 · by_cases e : i = k
   · subst e;rw [z6x hp (by rw [hml]; exact hab)];have hmid := z6x (y := A ++ B) (r := r) hp hab;rw [z9z] at hmid ⊢;have c1 := h.left (2 * i) zl;have c2 := h.left (2 * i + 1) (by omega);exact Stab.two c1 c2 (by rw [hmid]; exact hM)
   · rw [zbg (x := A ++ B) (by rw [hp]; have : (i + 1) * (2 * s) ≤ k * (2 * s) := Nat.mul_le_mul_right _ (by omega); rw [Nat.add_mul] at this; omega)];exact h.done i (by omega)
 · have hle : 2 * (k + 1) * s ≤ i * s := Nat.mul_le_mul_right s hi;have e2 : 2 * (k + 1) * s = k * (2 * s) + 2 * s := by rw [Nat.mul_add, Nat.add_mul, Nat.mul_one, Nat.mul_comm 2 k, Nat.mul_assoc]
   rw [e2] at hle;rcases hab with hx | ⟨rfl, hx⟩
   · rw [z9y (x := A ++ B) hml (by rw [hp, hx]; exact hle)];exact h.left i (by omega)
   · have hn := h.len;rw [List.append_nil, List.length_append] at hn;rw [z21 (by omega), z21 (by rw [List.append_nil, List.length_append, hml]; omega)]; exact Stab.nil
theorem Mix.parts {s k : Nat} {l m : List Hld} (h : Mix s k l m) (hk : l.length ≤ k * (2 * s) + s) : Parts (2 * s) l m := ⟨h.len, fun i => by
 by_cases hi : i < k
 · exact h.done i hi
 · have : k * (2 * s) ≤ i * (2 * s) := Nat.mul_le_mul_right _ (by omega);have e2 : (2 * i + 1) * s = i * (2 * s) + s := by rw [Nat.add_mul, Nat.one_mul, Nat.mul_comm 2 i, Nat.mul_assoc]
   rw [z9z, z9z, z21 (i := 2 * i + 1) (by omega), z21 (i := 2 * i + 1) (l := m) (by rw [h.len]; omega), List.append_nil, List.append_nil];exact h.left (2 * i) (by omega)⟩
theorem Mix.sorted {s k : Nat} {l m : List Hld} (h : Mix s k l m) : SortedH (z16 s (2 * k) m) ∧ SortedH (z16 s (2 * k + 1) m) := ⟨(h.left _ zl).sort, (h.left _ (by omega)).sort⟩
theorem cut_four (m : List Hld) (a s : Nat) : m = m.take a ++ (((m.drop a).take s ++ (m.drop (a + s)).take s) ++ m.drop (a + s + s)) := by
 have e1 : m.drop (a + s) = (m.drop (a + s)).take s ++ m.drop (a + s + s) := by rw [← List.drop_drop (i := s) (j := a + s)]; exact (List.take_append_drop _ _).symm
 have e2 : m.drop a = (m.drop a).take s ++ m.drop (a + s) := by rw [← List.drop_drop (i := s) (j := a)]; exact (List.take_append_drop _ _).symm
 rw [List.append_assoc, ← e1, ← e2, List.take_append_drop]
end Go.Proofs.YtgjddkeogboojaaGreatDoor
namespace Go.Proofs.YtgjddkeogboojaaGreatDoor
open Go Go.RowKit Go.Maps Go.Sort
theorem zbh {w W : World} {B g n c i : Nat} {L : List Hld} (h : NewH B w (.slice (some ⟨g, 0, none⟩) n c) L) (hi : i < L.length) (hW : Below w.heap.size w W) : (Instr.loadAt 47 (.pointer (some ⟨g, 0 + i * 3, none⟩))).run Tryz.prog W = .ok (.agg (z0b (L.getD i z05)).toArray) W := by
 obtain ⟨h0, h1, h2⟩ := HldsR.cells h.rd i hi;exact z6v W g (0 + i * 3) _ (cell_to h0 hW) (cell_to h1 hW) (cell_to h2 hW)
theorem below_grow (W : World) (q : Nat) (os : Array Obj) : Below W.heap.size W (grow (W.drewN q) os) := by
 refine ⟨rfl, rfl, rfl, ?_, fun k hk => ?_⟩
 · simp
 · rw [heap_grow_old _ _ (by simpa using hk)]; rfl
theorem cmp_b (x y : Hld) (W : World) (z : Int) (hz : cmpH x y = z) : Calls Tryz.prog 113 #[.agg (z0b x).toArray, .agg (z0b y).toArray] W fun e w' => e = .returned (.int .i64 z) ∧ Below W.heap.size W w' := by
 refine (znk x y W).mono ?_;rintro e w' ⟨rfl, q, os, rfl⟩;exact ⟨by rw [hz], below_grow W q os⟩
theorem cmp_z (x y : Hld) : ∃ z, cmpH x y = z ∧ (decide (z < 0) = ltH x y) := ⟨_, rfl, by rw [← lt_cmp]; rfl⟩
theorem lss0 (W : World) (z : Int) (b : Bool) (h : decide (z < 0) = b) : (binOp .lss 3 (.int .i64 z) (.int .i64 0)).run Tryz.prog W = .ok (.bool b) W := by
 cases b with
 | true =>
   have h1 := of_decide_eq_true h;simp [go_sem, h1]
 | false =>
   have h1 := of_decide_eq_false h;simp [go_sem]; omega
def z2w (B g c n : Nat) (p A Bl r : List Hld) (w : World) (e : Ending) (w' : World) : Prop := e = .returned (.tuple #[]) ∧ ∃ M, Stab (A ++ Bl) M ∧ NewH B w' (.slice (some ⟨g, 0, none⟩) n c) (p ++ (M ++ r)) ∧ But (fun q => q = g) w w'
def LessTo (Bl : List Hld) (x : Hld) (t : Nat) : Prop := t = 0 ∨ (t ≤ Bl.length ∧ (Bl.getD (t - 1) z05).id < x.id)
def zhx (Bl : List Hld) (x : Hld) (u : Nat) : Prop := Bl.length ≤ u ∨ ¬ (Bl.getD u z05).id < x.id
def LeqTo (A : List Hld) (y : Hld) (t : Nat) : Prop := t = 0 ∨ (t ≤ A.length ∧ ¬ y.id < (A.getD (t - 1) z05).id)
def GtFrom (A : List Hld) (y : Hld) (u : Nat) : Prop := A.length ≤ u ∨ y.id < (A.getD u z05).id
theorem ltH_t {x y : Hld} (h : ltH x y = true) : x.id < y.id := of_decide_eq_true (show decide (_ < _) = true from h)
theorem ltH_f {x y : Hld} (h : ltH x y = false) : ¬ x.id < y.id := of_decide_eq_false (show decide (_ < _) = false from h)
theorem z1q {w : World} {B g n c : Nat} {L : List Hld} (h : NewH B w (.slice (some ⟨g, 0, none⟩) n c) L) : n = L.length := by obtain ⟨cur, hn, _⟩ := z0m h; exact hn
theorem mid_l {p Bl r : List Hld} {x : Hld} {a m b h : Nat} (hm : m ≤ h) (ha : a = p.length) (hm2 : m = a + 1) (hb : b = m + Bl.length) (hj : h < b) : (p ++ ([x] ++ (Bl ++ r))).getD h z05 = Bl.getD (h - m) z05 := by
 obtain ⟨q, rfl⟩ : ∃ q, h = m + q := ⟨h - m, by omega⟩
 subst hm2 ha;rw [Nat.add_sub_cancel_left, z2l (by omega), show p.length + 1 + q - p.length = q + 1 by omega, List.singleton_append, List.getD_cons_succ, z5d (by omega)]
theorem mid_r1 {p A r : List Hld} {y : Hld} {a m : Nat} (ha : a = p.length) (hm : m = a + A.length) : (p ++ (A ++ ([y] ++ r))).getD m z05 = y := by
 subst hm ha;rw [z2l (by omega), show p.length + A.length - p.length = A.length by omega, z2l zl, Nat.sub_self]; rfl
theorem mid_r2 {p A r : List Hld} {y : Hld} {a m h : Nat} (ha : a = p.length) (hm : m = a + A.length) (h1 : a ≤ h) (h2 : h < m) : (p ++ (A ++ ([y] ++ r))).getD h z05 = A.getD (h - a) z05 := by
 subst ha;rw [z2l h1, z5d (by omega)]
theorem own_fz {w : World} {B g n c : Nat} {L : List Hld} (h : NewH B w (.slice (some ⟨g, 0, none⟩) n c) L) (i : Nat) : w.frozen? ⟨g, i, none⟩ = false := by
 obtain ⟨cur, _, _, hg, _⟩ := z0m h;exact frozen_of hg
end Go.Proofs.YtgjddkeogboojaaGreatDoor
