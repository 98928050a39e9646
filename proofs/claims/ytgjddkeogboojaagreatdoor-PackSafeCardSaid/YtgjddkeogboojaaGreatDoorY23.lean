/-
  Join. bases, workOf (with nothing beside). all. each, Resolve, Deep.
-/
import Derived.Test.YtgjddkeogboojaaGreatDoorY22
import Derived.Laws.MakeOwn
import Derived.Test.YtgjddkeogboojaaGreatDoorY20
import Derived.Test.YtgjddkeogboojaaGreatDoorY21
set_option maxHeartbeats 16000000
set_option maxRecDepth 100000
namespace Go.Proofs.YtgjddkeogboojaaGreatDoor
open Go Go.RowKit Go.Maps Go.Sort
theorem Grow_nil (n : Nat) (hn : n ≤ 1000000) (w : World) : Calls Tryz.prog 117 #[.slice none 0 0, .int .i64 (n : Int)] w fun e w' => ∃ v, e = .returned v ∧ NewH w.heap.size w' v [] ∧ Below w.heap.size w w' := by
 rcases Nat.eq_zero_or_pos n with rfl | h0
 · go_enter Tryz.func117, Tryz.ntmps117
   go_wp2_with fail
   go_ret
   exact ⟨_, rfl, OwK.nil _ _ _ _ _, Below.refl _ _⟩
 · obtain ⟨z, hz, hzs⟩ := heldK.info;obtain ⟨i0, hi, hz0, hz1, hz2⟩ := info_parts hz;obtain ⟨ii, hii⟩ : ∃ i, Tryz.prog.info? 3 = some i := Option.isSome_iff_exists.1 (by kernel_rfl)
   have hrun := fun ty => Lib.run_append_grow_zeros w 38 3 ty 47 i0 z .i64 .i64 Tryz.underlying38 Tryz.underlying3 hi hz0 none 0 0 [] (run_firstCells_none w.drew i0.size 0 0 0) n h0 (by omega) (by omega) (by omega)
    (by rw [hz2]; omega) (by rw [Nat.zero_add]; exact growslice_fits h0 (by rw [hz2]; omega))
   rw [Nat.zero_add] at hrun;obtain ⟨G, hG⟩ := zx (grownCap w n 0 47);have hge := grownCap_ge w n 0 47;have hcm := grownCap_le_maxLen w n 0 47 (by unfold maxLen; omega);rw [← hG] at hrun hge hcm;obtain ⟨w1, hw1⟩ := zx (w.drew.alloc (.cells (([] : List Value).toArray ++ Builtin.zeroCells z.cells n ++ Builtin.zeroCells z.cells (G - n)) 47));rw [← hw1] at hrun;have hb1 : Below w.heap.size w w1 := by rw [hw1]; exact (show Below w.heap.size w w.drew from ⟨rfl, rfl, rfl, Nat.le_refl _, fun _ _ => rfl⟩).alloc zl _
   have hN : NewH w.heap.size w1 (.slice (some ⟨w.heap.size, 0, none⟩) 0 G) [] := by
    refine ⟨rfl, .inr ⟨w.heap.size, G, _, rfl, Nat.le_refl _, by rw [hw1]; exact heap_alloc_new w.drew _, Nat.zero_le _, hcm, ?_, by simp⟩⟩;simp only [Array.size_append, size_zeroCells, hzs, List.size_toArray, List.length_nil];omega
   have hsh := zh (fun W => znq W w.heap.size 0 n G 0 (Nat.zero_le _));have hG63 : G ≤ 9223372036854775807 := by unfold maxLen at hcm; omega
   have HR := zh hrun; have HB1 := zh hb1; have HN := zh hN;have h1 : ¬ ((n : Int) < 0) := by omega
   have h4 : (0 : Int) < (n : Int) := by omega
   clear hz hzs hi hz0 hz1 hz2 hii hrun hG hge hcm hw1 hb1 hN
   go_enter Tryz.func117, Tryz.ntmps117
   go_wp2_with (first | (at_builtin; refine Lib.wpList_append_run _ rfl _ _ _ _ rfl _ _ rfl rfl _ _ (HR.out _) ?_) | (refine z3p rfl _ _ _ _ rfl _ _ _ _ rfl rfl rfl (hsh.out _) ?_))
   go_ret
   exact ⟨_, rfl, HN.out, HB1.out⟩
theorem zj9 {w : World} {va vb : Value} {a b : List Hld} {g : Nat} (ha : HldsR w va a) (hb : HldsR w vb b) (hg : w.heap[g]? = some (.cells #[va, vb] 38 (0, 0))) (hla : a.length ≤ 100000) (hlb : b.length ≤ 100000) :
 Calls Tryz.prog 102 #[.slice (some ⟨g, 0, none⟩) 2 2] w fun e w' => ∃ v, e = .returned v ∧ NewH w.heap.size w' v (a ++ b) ∧ Below w.heap.size w w' := by
 obtain ⟨A, ca, rfl⟩ := ha.shape;obtain ⟨B, cb, rfl⟩ := hb.shape;have c0 : w.cell? ⟨g, 0, none⟩ = some (.slice A a.length ca) := (cell_of_row w g 0 _ _ _ hg).trans rfl;have c1 : w.cell? ⟨g, 1, none⟩ = some (.slice B b.length cb) := (cell_of_row w g 1 _ _ _ hg).trans rfl;have HC := zh (And.intro c0 c1);have Ha := zh ha; have Hb := zh hb;have hgr := Grow_nil (a.length + b.length) (by omega) w;rw [Int.natCast_add] at hgr;have HG := zh hgr;clear ha hb hg hgr
 go_enter Tryz.func102, Tryz.ntmps102
 go_wp2_with fail
 refine wp_loop_rounds 3 ?_;rw [rounds_succ]
 go_wp2_with fail
 rw [rounds_succ]
 go_wp2_with fail
 rw [rounds_succ]
 go_wp2_with fail
 refine HG.out.mono ?_;rintro e w2 ⟨v, rfl, hN, hb2⟩;have c0 := cell_to HC.out.1 hb2;have c1 := cell_to HC.out.2 hb2;have HN := zh hN; have HB2 := zh hb2;clear hN hb2
 go_wp2_with fail
 refine wp_loop_rounds 3 ?_;rw [rounds_succ]
 go_wp2_with (at_builtin; refine zb3 heldK rfl _ _ rfl w.heap.size v (.slice A a.length ca) [] a rfl rfl HN.out (Ha.out.below HB2.out zl) (by simp; omega) (by decide) HB2.out.size ?_)
 intro v3 w3 hN3 hb3;have c0 := (hb3.cell (p := ⟨g, 0, none⟩) (World.block_lt_of_cell? w _ HC.out.1)).trans c0;have c1 := (hb3.cell (p := ⟨g, 1, none⟩) (World.block_lt_of_cell? w _ HC.out.2)).trans c1;have HN3 := zh hN3; have HB3 := zh (HB2.out.trans hb3);clear hN3 hb3
 go_wp2_with fail
 rw [rounds_succ]
 go_wp2_with (at_builtin; refine zb3 heldK rfl _ _ rfl w.heap.size v3 (.slice B b.length cb) ([] ++ a) b rfl rfl HN3.out (Hb.out.below HB3.out zl) (by simp; omega) (by decide) HB3.out.size ?_)
 intro v4 w4 hN4 hb4;have HN4 := zh hN4; have HB4 := zh (HB3.out.trans hb4);have c0 := (hb4.cell (p := ⟨g, 0, none⟩) (World.block_lt_of_cell? w _ HC.out.1)).trans c0;have c1 := (hb4.cell (p := ⟨g, 1, none⟩) (World.block_lt_of_cell? w _ HC.out.2)).trans c1;clear hN4 hb4
 go_wp2_with fail
 rw [rounds_succ]
 go_wp2_with fail
 go_ret
 exact ⟨_, rfl, HN4.out, HB4.out⟩
theorem zhj {w : World} {va vb : Value} {a b : List Hld} (ha : HldsR w va a) (hb : HldsR w vb b) (hla : a.length ≤ 100000) (hlb : b.length ≤ 100000) (hs : ∀ B v' w', NewH B w' v' (a ++ b) → z5b B (a ++ b) v' w') :
 Calls Tryz.prog 85 #[va, vb] w (SetPost (a ++ b) w) := by
 obtain ⟨w1, hw1⟩ := zx (w.alloc (.cells #[va, vb] 38));have hb1 : Below w.heap.size w w1 := by rw [hw1]; exact below_new w _
 have hk1 : w1.heap[w.heap.size]? = some (.cells #[va, vb] 38 (0, 0)) := by rw [hw1]; exact heap_alloc_new w _
 have hC := zj9 (ha.below hb1 zl) (hb.below hb1 zl) hk1 hla hlb;obtain ⟨A, ca, rfl⟩ := ha.shape;obtain ⟨B, cb, rfl⟩ := hb.shape;have HC := zh hC; have HW1 := zh hw1; have HB1 := zh hb1; have HS := zh hs;clear ha hb hC hw1 hb1 hk1 hs
 go_enter Tryz.func85, Tryz.ntmps85
 go_wp2_with fail
 rw [← HW1.out];refine HC.out.mono ?_;rintro e w2 ⟨v, rfl, hN, hb2⟩;have hR := zj8 hN (by simp; omega) (HS.out _ _ _ hN);have h4 := fun w3 (h4 : But (fun k => v.ownBlock = some k) w2 w3) => (HB1.out.trans (hb2.mono HB1.out.size)).trans (h4.below (fun k _ hk => Nat.le_trans HB1.out.size (zn5 hN hk).1) (Nat.le_trans HB1.out.size hb2.size));obtain ⟨As, cs, rfl⟩ := z6s hN;have hla2 : (a ++ b).length = a.length + b.length := List.length_append;rw [hla2] at hR h4;have HR := zh hR; have H4 := zh h4;clear hR hN hb2 h4 hla2
 go_wp2_with fail
 refine HR.out.mono ?_;rintro e w3 ⟨u, r, rfl, h1, h2, h3, h5⟩;have H1 := zh h1; have H2 := zh h2; have H3 := zh (OwK.mono h3 HB1.out.size); have H5 := zh (H4.out w3 h5);clear h1 h2 h3 h5
 go_wp2_with fail
 go_ret
 exact ⟨_, r, rfl, H1.out, H2.out, H3.out, H5.out⟩
end Go.Proofs.YtgjddkeogboojaaGreatDoor
namespace Go.Proofs.YtgjddkeogboojaaGreatDoor.Pk
open Go.Proofs.YtgjddkeogboojaaGreatDoor
open Go Go.RowKit Go.Maps
def NewS (B : Nat) (w : World) (v : Value) (l : List Bs) : Prop := OwK 9 1 strC w B v l
theorem names_snoc {l : List Ent} {k : Nat} (h : k < l.length) : z0x (l.take (k + 1)) = if (l.getD k z0p).kind = 7 then z0x (l.take k) ++ [(l.getD k z0p).base] else z0x (l.take k) := by
 unfold z0x;rw [z0l l z0p k h, List.filter_append, List.map_append];by_cases e : (l.getD k z0p).kind = 7
 · rw [if_pos e, List.filter_cons_of_pos (by simpa using e)]; rfl
 · rw [if_neg e, List.filter_cons_of_neg (by simpa using e)]; simp
theorem z9n (l : List Ent) : (z0x l).length ≤ l.length := by unfold z0x; rw [List.length_map]; exact List.length_filter_le _ _
theorem ze2 {w : World} {v : Value} {l : List Ent} (h : EntsR w v l) (hl : l.length ≤ 100000) : Calls Tryz.prog 84 #[v] w fun e w' => ∃ u, e = .returned u ∧ NewS w.heap.size w' u (z0x l) ∧ Below w.heap.size w w' := by
 obtain ⟨A, c, rfl⟩ := h.shape;have Hx := zh h; clear h
 go_enter Tryz.func84, Tryz.ntmps84
 go_wp2_with fail
 have HN0 : Hid (NewS w.heap.size w (.slice none 0 0) (z0x (l.take 0))) := zh (OwK.nil _ _ _ _ _)
 go_loopw [3, 8] (fun z i wr => Hid (Below w.heap.size w wr) ∧ ∃ k : Nat, k ≤ l.length ∧ i = .int .i64 k ∧ Hid (NewS w.heap.size wr z (z0x (l.take k)))) (fun _ i _ => l.length - (intOf i).toNat)
 case atStart => exact ⟨zh (Below.refl _ _), 0, Nat.zero_le _, rfl, HN0⟩
 case round =>
  obtain ⟨hB, k, hk, rfl, hN⟩ := hrel;by_cases hlt : k < l.length
  · obtain ⟨g, o, c', e, _, hg⟩ := Hx.out.pos (by omega);cases e;obtain ⟨p0, p1, p2, p3⟩ := EntsR.cells (Hx.out.below hB.out zl) k hlt;have hsn := names_snoc hlt;have hnl := z9n (l.take k);have hnl2 := List.length_take_le k l;obtain ⟨x, hx⟩ := zx (l.getD k z0p);rw [← hx] at p0 p1 p2 p3 hsn;obtain ⟨w1, hw1⟩ := zx (wr.alloc (entO x));have hb1 : Below wr.heap.size wr w1 := by rw [hw1]; exact below_new wr _
    obtain ⟨q0, q1, q2, q3⟩ := z3x hw1;obtain ⟨xk, xb, xs, xd⟩ := x;unfold SV at p2 p3;unfold entO at hw1;simp only at p0 p1 p2 p3 q0 q1 q2 q3 hw1 hsn;have HW1 := zh hw1; have HB1 := zh (hB.out.trans (hb1.mono hB.out.size)); have HN1 := zh (OwK.below hN.out hb1 zl); have HSn := zh hsn;have HPL : Hid ((z0x (l.take k)).length + 1 ≤ 1000000) := zh (by omega);clear hw1 hb1 hsn hnl hnl2 hx hB hN
    go_upto_region 5 with fail
    rw [← HW1.out];clear p0 p1 p2 p3;by_cases h7 : xk = 7
    · have b7 : (xk == 7) = true := by rw [h7]; rfl
      have HS := zh (HSn.out.trans (if_pos h7));clear h7 HSn
      go_wp2_with (at_builtin; refine z0z strK rfl _ _ rfl w.heap.size u3 (z0x (l.take k)) xs _ rfl rfl rfl HN1.out ?c1 (by decide) ?c2 ?_)
      case c1 => exact HPL.out
      case c2 => exact HB1.out.size
      intro z' w2 hN2 hb2;have HN2 := zh hN2;have HB2 := zh (HB1.out.trans hb2);clear hN2 hb2 q0 q1 q2 q3
      go_wp2_with fail
      go_roundw
      case rel => exact ⟨HB2, k + 1, hlt, by go_num, zh (by rw [HS.out]; exact HN2.out)⟩
      case measure => simp [intOf]; omega
    · have b7 : (xk == 7) = false := by simpa using h7
      have HS := zh (HSn.out.trans (if_neg h7));clear h7 HSn
      go_wp2_with fail
      go_roundw
      case rel => exact ⟨HB1, k + 1, hlt, by go_num, zh (by rw [HS.out]; exact HN1.out)⟩
      case measure => simp [intOf]; omega
  · obtain rfl : k = l.length := by omega
    rw [List.take_length] at hN
    go_wp2_with fail
    go_ret
    exact ⟨_, rfl, hN.out, hB.out⟩
theorem ins_nil (w : World) : Calls Tryz.prog 134 #[.slice none 0 0, .int .i64 0, .int .i64 0, cmpV] w fun e w' => e = .returned (.tuple #[]) ∧ w = w' := by
 go_enter Tryz.func134, Tryz.ntmps134
 go_wp2_with fail
 refine wp_loop_rounds 1 ?_;rw [rounds_succ]
 go_wp2_with fail
 go_end0
 exact ⟨rfl, rfl⟩
theorem sort_nil {w : World} {B : Nat} (h : NewH B w (.slice none 0 0) []) : z5b B [] (.slice none 0 0) w := by
 have HI := zh (ins_nil w);have H := zh h;unfold z5b;clear h
 go_enter Tryz.func123, Tryz.ntmps123
 go_wp2_with fail
 refine wp_loop_rounds 1 ?_;rw [rounds_succ]
 go_wp2_with fail
 refine HI.out.mono ?_;rintro e w2 ⟨rfl, rfl⟩
 go_wp2_with fail
 refine wp_loop_rounds 1 ?_;rw [rounds_succ]
 go_wp2_with fail
 go_end0
 have hs := z3t [];have e : («Sort».insertionSort ltH ([] : List Hld).toArray 0 ([] : List Hld).length).toList = [] := List.length_eq_zero_iff.1 (by have := hs.perm.length_eq; simpa using this);rw [e] at hs;exact ⟨rfl, [], hs, H.out, But.refl _ _⟩
theorem zja (B : Nat) (v : Value) (w : World) (h : NewH B w v []) : z5b B [] v w := by
 rcases h.2 with ⟨rfl, _⟩ | ⟨g, cap, cur, rfl, _⟩
 · exact sort_nil h
 · exact zb4 h (by simp)
theorem infoMd : (Tryz.prog.info? 82).map (fun i => (i.zero, i.size, i.bytes)) = some (some (.agg #[.bool false, .int .i64 0, .string ⟨#[]⟩, .int .i64 0]), 4, 40) := by kernel_rfl
theorem mk_md (W : World) (n : Nat) (hn : n ≤ 1000000) : (Instr.makeSlice 120 (.int .i64 (n : Int)) (.int .i64 (n : Int))).run Tryz.prog W = .ok (.slice (some ⟨W.heap.size, 0, none⟩) n n) (W.alloc (.cells (madeCells #[.bool false, .int .i64 0, .string ⟨#[]⟩, .int .i64 0] (n * 4)) 82)) := by
 obtain ⟨i, hi⟩ : ∃ i, Tryz.prog.info? 82 = some i := Option.isSome_iff_exists.1 (by kernel_rfl);have h0 := infoMd;rw [hi] at h0;simp only [Option.map_some, Option.some.injEq, Prod.mk.injEq] at h0;have hr := run_make (P := Tryz.prog) W 120 82 i _ Tryz.underlying120 hi h0.1 .i64 .i64 n n (by omega) (by omega) (by rw [h0.2.2]; omega) (by omega);rw [Int.toNat_natCast, h0.2.1] at hr;exact hr
theorem znr {w w1 : World} {n : Nat} {l : List Ent} (hn : n = l.length) (h : w1 = w.alloc (.cells (madeCells #[.bool false, .int .i64 0, .string ⟨#[]⟩, .int .i64 0] (n * 4)) 82)) : MdM w1 w.heap.size (z1b l) := by
 refine ⟨_, by rw [h]; exact heap_alloc_new w _, by rw [size_madeCells, hn]; simp [z1b], fun j hj i hi => ?_⟩;have hj2 : j < n := by rw [hn]; simpa [z1b] using hj
 have e : (z1b l).getD j noMd = noMd := by
  unfold z1b;rw [zg, List.getElem?_replicate];split <;> rfl
 rw [e];unfold madeCells;have hlt : j * 4 + i < n * 4 := by omega
 rw [Array.getElem?_map, Array.getElem?_range, if_pos hlt];simp only [Option.map_some];rw [show (j * 4 + i) % (#[Value.bool false, .int .i64 0, .string ⟨#[]⟩, .int .i64 0] : Array Value).size = i by show (j * 4 + i) % 4 = i; omega]
 match i, hi with
 | 0, _ => rfl
 | 1, _ => rfl
 | 2, _ => rfl
 | 3, _ => rfl
def WoP (l : List Ent) (vl : Value) (w : World) (e : Ending) (w' : World) : Prop := ∃ p M F H, e = .returned (.pointer (some ⟨p, 0, none⟩)) ∧ Wk l [] w.heap.size p M F H vl (z1b l) w' ∧ Below w.heap.size w w'
theorem zb5 {w : World} {v : Value} {l : List Ent} (h : EntsR w v l) (hl : l.length ≤ 512) (hbl : ∀ x ∈ z0x l, x.length ≤ 1000000) : Calls Tryz.prog 61 #[v, .slice none 0 0] w (WoP l v w) := by
 have HBa := zh (ze2 h (by omega));have Hx := zh h
 have Hown : Hid (0 < l.length → ∀ g, v.ownBlock = some g → g < w.heap.size) := zh fun h0 g hg => by
  obtain ⟨g', o, c, e, _, hg'⟩ := h.pos h0;rw [e] at hg;cases hg;exact hg'
 obtain ⟨A, c, rfl⟩ := h.shape;have Hbl := zh hbl;obtain ⟨n, hn⟩ := zx l.length;have Hn := zh hn;have Hl := zh hl;rw [← hn] at HBa Hx Hown ⊢;clear h hbl hn;have hmm := @run_makeMap Tryz.prog
 go_enter Tryz.func61, Tryz.ntmps61
 go_wp2_with fail
 refine HBa.out.mono ?_;rintro e w1 ⟨u, rfl, ru, b1⟩;obtain ⟨Au, cu, rfl⟩ : ∃ A c, u = .slice A (z0x l).length c := (OwK.rd z19 ru).shape;obtain ⟨N, hN⟩ := zx ((z0x l).length);rw [← hN] at ru ⊢;have hmk := mk_md w1 n (by have := Hn.out; have := Hl.out; omega);obtain ⟨w2, hw2⟩ := zx (w1.alloc (.cells (madeCells #[.bool false, .int .i64 0, .string ⟨#[]⟩, .int .i64 0] (n * 4)) 82));rw [← hw2] at hmk;obtain ⟨w3, hw3⟩ := zx (w2.alloc (.map #[] 0));obtain ⟨w4, hw4⟩ := zx (w3.alloc (.map #[] 0));obtain ⟨w5, hw5⟩ := zx (w4.alloc (.cells #[.slice A n c, .slice (some ⟨w1.heap.size, 0, none⟩) n n, .bool (decide (0 < N)), .map (some w2.heap.size), .map (some (w2.heap.size + 1))] 124));have b2 : Below w1.heap.size w1 w2 := by rw [hw2]; exact below_new w1 _
 have b3 : Below w2.heap.size w2 w3 := by rw [hw3]; exact below_new w2 _
 have b4 : Below w3.heap.size w3 w4 := by rw [hw4]; exact below_new w3 _
 have b5 : Below w4.heap.size w4 w5 := by rw [hw5]; exact below_new w4 _
 have s2 : w2.heap.size = w1.heap.size + 1 := by rw [hw2]; simp
 have s3 : w3.heap.size = w1.heap.size + 2 := by rw [hw3]; simp [s2]
 have s4 : w4.heap.size = w1.heap.size + 3 := by rw [hw4]; simp [s3]
 have hask : decide (0 < N) = z3m l := by unfold z3m; rw [hN]
 have s32 : w3.heap.size = w2.heap.size + 1 := by omega
 have s42 : w4.heap.size = w2.heap.size + 1 + 1 := by omega
 have b15 : Below w1.heap.size w1 w5 := ((b2.trans (b3.mono b2.size)).trans (b4.mono (by omega))).trans (b5.mono (by omega))
 have hWk : Wk l [] w.heap.size w4.heap.size w1.heap.size w2.heap.size w3.heap.size (.slice A n c) (z1b l) w5 := by
  have h1s := b1.size;refine ⟨?_, (znr Hn.out hw2).but (Dl.But.of_new (S := fun _ => False) ((b3.trans (b4.mono b3.size)).trans (b5.mono (by omega)))) id, (Hx.out.below b1 zl).below b15 zl, by simp [z1b], fun _ => ⟨0, by rw [z9a]; omega, ?_⟩, ⟨0, fun _ => none, ?_, fun x _ => by unfold z7j; rfl⟩, ⟨by omega, by omega, by omega, by omega⟩, fun h0 g hg => Hown.out (by have := Hn.out; omega) g hg⟩
  · rw [hw5, hask, ← Hn.out, ← s32]; exact heap_alloc_new w4 _
  · have hm := MapS.made w2;rw [← hw3] at hm;have : (fun _ => none) = z2u (z1b l) := by funext x; unfold z2u; rw [z9d]; rfl
    rw [← this];exact (hm.below b4 hm.lt).below b5 (by have := hm.lt; have := b4.size; omega)
  · have hm := MapS.made w3;rw [← hw4] at hm;exact hm.below b5 hm.lt
 have hPk := fun W (hW : Below w5.heap.size w5 W) => zhg (w := W) (v := .slice none 0 0) (vi := .slice Au N cu) (l := []) (ids := z0x l) (.inl ⟨⟨_, _, rfl⟩, rfl⟩) (((OwK.rd z19 ru).below b15 zl).below hW zl) (by simp) (by have := z9n l; have := Hl.out; omega) (by simp) Hbl.out;have HPk := zh hPk;obtain ⟨M, hM⟩ := zx w1.heap.size;obtain ⟨F, hF⟩ := zx w2.heap.size;rw [s42, s32, ← hF, ← hM] at hWk;have he5 : (((w2.alloc (.map #[] 0)).alloc (.map #[] 0)).alloc (.cells #[.slice A n c, .slice (some ⟨M, 0, none⟩) n n, .bool (decide (0 < N)), .map (some F), .map (some (F + 1))] 124)) = w5 := by rw [hw5, hw4, hw3, hF, hM]
 have HWk := zh hWk; have HE5 := zh he5; have HB15 := zh (b1.trans (b15.mono b1.size));have HM : Hid (w1.heap.size = M) := zh hM.symm;have HF : Hid (w2.heap.size = F) := zh hF.symm;clear hPk hWk hw2 hw3 hw4 hw5 b1 b2 b3 b4 b5 b15 s2 s3 s4 hask ru hN s32 s42 he5 hM hF
 go_upto_region 3 with fail
 clear hmk hmm;rw [HM.out, HF.out, HE5.out];obtain ⟨p, hp⟩ := zx (F + 1 + 1);rw [← hp] at HWk ⊢;clear hp HM HF HE5
 go_wp2_with fail
 refine (HPk.out w5 (Below.refl _ _)).mono ?_;rintro e w6 ⟨v6, rfl, r6, b6⟩;have r6' : NewH w5.heap.size w6 v6 [] := r6;obtain ⟨A6, c6, rfl⟩ := r6'.rd.shape;have HJ := zh (zhj (w := w6) (va := .slice none 0 0) (vb := .slice A6 ([] : List Hld).length c6) (a := []) (b := []) (.inl ⟨⟨_, _, rfl⟩, rfl⟩) r6'.rd (by simp) (by simp) (fun B v' w' hh => zja B v' w' hh));have HB6 := zh (HB15.out.trans (b6.mono HB15.out.size)); have HW6 := zh (HWk.out.below b6);clear r6 r6' b6 HPk HWk
 go_wp2_with fail
 refine HJ.out.mono ?_;rintro e w7 ⟨v7, r, rfl, hset, hlen, r7, b7⟩;obtain rfl : r = [] := List.length_eq_zero_iff.1 (by simpa using hlen);obtain ⟨A7, c7, rfl⟩ := r7.rd.shape;have HB7 := zh (HB6.out.trans (b7.mono HB6.out.size)); have HW7 := zh (HW6.out.below b7);clear hset hlen r7 b7 HJ HW6;rw [show ([] : List Hld).length = 0 from rfl]
 go_wp2_with fail
 refine wp_loop_rounds 1 ?_;rw [rounds_succ]
 go_wp2_with fail
 go_ret
 exact ⟨p, M, F, F + 1, rfl, HW7.out, HB7.out⟩
def zns (w : World) (M n : Nat) : Nat := (List.range n).countP fun k => match w.cell? ⟨M, k * 4, none⟩ with
 | some (.bool b) => !b
 | _ => false
theorem z9o (q : Md → Bool) : ∀ (S : List Md), S.countP q = (List.range S.length).countP fun k => q (S.getD k noMd)
 | [] => rfl
 | m :: S => by
   rw [List.countP_cons, List.length_cons, List.range_succ_eq_map, List.countP_cons, List.countP_map, z9o q S];rfl
theorem zhk {w : World} {M : Nat} {S : List Md} (h : MdM w M S) : zns w M S.length = left S := by
 unfold left zns;rw [z9o];refine List.countP_congr fun k hk => ?_;rw [(h.cells k (List.mem_range.1 hk)).1]
theorem ze3 {S : List Md} : zfm S = true ↔ ∀ k, k < S.length → (S.getD k noMd).th = true := by
 unfold zfm;rw [List.all_eq_true];constructor
 · intro h k hk;rw [zg, zj hk];exact h _ (List.getElem_mem hk)
 · intro h m hm;obtain ⟨k, hk, rfl⟩ := List.getElem_of_mem hm;have := h k hk
   rwa [zg, zj hk] at this
def bitV : Value → Bool
 | .bool b => b
 | _ => false
def AlP (l : List Ent) (hv : List Hld) (B p M F H : Nat) (vl : Value) (r : Except Int (List Md)) (w : World) (e : Ending) (w' : World) : Prop := Dl.But (fun k => k = M ∨ k = F) w w' ∧ match r with
 | .ok T => e = .returned .nilIface ∧ Wk l hv B p M F H vl T w' ∧ Sane T
 | .error n => ∃ ev, e = .returned ev ∧ FaultIn w' ev n
theorem znt {l : List Ent} {hv : List Hld} {B p M F H : Nat} {vl : Value} {S : List Md} {w w0 : World} (cx : Ctx l hv w0 B) (h00 : Below B w0 w) (h : Wk l hv B p M F H vl S w) (hs : Sane S) :
 Calls Tryz.prog 62 #[.pointer (some ⟨p, 0, none⟩)] w (AlP l hv B p M F H vl (goE l hv S) w) := by
 obtain ⟨R, hR⟩ := zx (goE l hv S);rw [← hR];have HH := zh h; have HR := zh hR; have Hs := zh hs;have HC := zh cx; have H00 := zh h00;have hll : l.length ≤ 512 := (z0h.1 cx.right).1;clear h hR hs cx h00
 go_enter Tryz.func62, Tryz.ntmps62
 go_wp2_with fail
 go_loopw [3] (fun v wr => ∃ (T : List Md) (b : Bool), v = .bool b ∧ Hid (Wk l hv B p M F H vl T wr) ∧ Hid (Sane T) ∧ Hid (Dl.But (fun k => k = M ∨ k = F) w wr) ∧ Hid (R = if b = true then goE l hv T else endE T)) (fun v wr => bif bitV v then zns wr M l.length + 1 else 0)
 case atStart => exact ⟨S, true, rfl, HH, Hs, zh (Dl.But.refl _ _), zh HR.out⟩
 case round =>
  obtain ⟨T, b, rfl, hW, hS, hT, hE⟩ := hrel;cases b with
  | true =>
    have hb0 : Below B w0 wr := by
     obtain ⟨s1, s2, s3, s4⟩ := HH.out.sz;have hk := lt_heap HH.out.k;exact H00.out.trans (hT.out.below (fun q hq hh => by omega) (by omega))
    have HRn := zh (znc HC.out hb0 hW.out hS.out);have hE1 : R = goE l hv T := hE.out.trans (if_pos rfl);have hstep := hE1.trans (go_step hW.out.len);obtain ⟨X, hX⟩ := zx (z0o l hv l.length T);rw [← hX] at HRn hstep;have HX := zh hX; have HSt := zh hstep;have HM0 := zh (zhk hW.out.m);clear hb0 hE1 hstep hX hE
    go_wp2_with fail
    refine HRn.out.mono ?_;intro e w1 hh;obtain ⟨t1, hh⟩ := hh;have HT1 : Hid (Dl.But (fun k => k = M ∨ k = F) w w1) := zh (hT.out.trans t1);clear t1 HRn hT;cases X with
    | error n =>
      obtain ⟨ev, he, hf⟩ := hh;have HFin := zh hf;have hf2 := hf;obtain ⟨a, x, e1, hfa⟩ := hf2;have hR2 : R = .error n := HSt.out
      have HF : Hid (AlP l hv B p M F H vl R w (.returned ev) w1) := zh (by
       rw [hR2];exact ⟨HT1.out, ev, rfl, hf⟩)
      rw [he];rw [e1] at HF ⊢;have q2 : ∀ (v : Value) (W : World), (binOp .neq 64 (.iface 107 v) .nilIface).run Tryz.prog W = .ok (.bool true) W := fun v W => by go_simp
      clear he hf HFin e1 hfa hR2 HSt hW hS
      go_wp2_with fail
      go_ret
      exact HF.out
    | ok Tb =>
      obtain ⟨T2, c⟩ := Tb;obtain ⟨he, hW2, hS2⟩ := hh;rw [he];have hlen := z9b (by rw [hW.out.len]; exact Nat.le_refl _) HX.out.symm
      have hE2 : R = if c = true then goE l hv T2 else endE T2 := by
       rw [HSt.out];cases c <;> rfl
      have HW2 := zh hW2; have HS2 := zh hS2; have HE2 := zh hE2;have q2 : ∀ (W : World), (binOp .neq 64 .nilIface .nilIface).run Tryz.prog W = .ok (.bool false) W := fun W => by go_simp
      have HMs : Hid (c = true → zns w1 M l.length < zns wr M l.length) := zh fun hc => by
       have h1 := zhk hW2.m;have h2 := HM0.out;rw [hW2.len] at h1;rw [hW.out.len] at h2;rw [h1, h2];exact hlen.2.2.1 hc
      clear he hW2 hS2 hE2 hlen HSt hW hS HX HM0
      go_wp2_with fail
      go_roundw
      case rel => exact ⟨T2, c, rfl, HW2, HS2, HT1, HE2⟩
      case measure =>
       cases c with
       | true => have := HMs.out rfl; simp [bitV]; omega
       | false => simp [bitV]
  | false =>
    obtain ⟨wq, hwq⟩ := zx wr;subst hwq;have hE1 : R = endE T := hE.out.trans (if_neg (by decide));have HE := zh hE1;obtain ⟨c0, c1, c2, c3, c4⟩ := hW.out.cells;clear hE hE1
    go_wp2_with fail
    go_loopw [23] (fun i wr => ∃ k : Nat, k ≤ l.length ∧ i = .int .i64 k ∧ Hid (Below wq.heap.size wq wr) ∧ Hid (∀ j, j < k → (T.getD j noMd).th = true)) (fun i _ => l.length - (intOf i).toNat)
    case atStart => exact ⟨0, Nat.zero_le _, rfl, zh (Below.refl _ _), zh (fun j hj => absurd hj (Nat.not_lt_zero _))⟩
    case round =>
     obtain ⟨k, hk, rfl, hB, hA⟩ := hrel;by_cases hlt : k < l.length
     · have hkT : k < T.length := by rw [hW.out.len]; exact hlt
       have hW2 := hW.out.below hB.out;obtain ⟨m0, m1, m2, m3⟩ := hW2.m.cells k hkT;obtain ⟨x, hx⟩ := zx (T.getD k noMd);rw [← hx] at m0 m1 m2 m3;obtain ⟨mt, mk, md, mp⟩ := x;simp only at m0 m1 m2 m3;obtain ⟨w4, hw4⟩ := zx (wr.alloc (.cells #[.bool mt, .int .i64 mk, .string ⟨md.toArray⟩, .int .i64 (mp : Int)] 82));have b4 : Below wr.heap.size wr w4 := by rw [hw4]; exact below_new wr _
       have km4 : w4.heap[wr.heap.size]? = some (.cells #[.bool mt, .int .i64 mk, .string ⟨md.toArray⟩, .int .i64 (mp : Int)] 82 (0, 0)) := by rw [hw4]; exact heap_alloc_new wr _
       obtain ⟨x0, x1, x2, x3⟩ := cells4 km4;have HB4 : Hid (Below wq.heap.size wq w4) := zh (hB.out.trans (b4.mono hB.out.size));have HW4 := zh hw4; have Hx := zh hx; have HkT := zh hkT;clear hw4 b4 km4 hW2 hx c0 c1 c2 c3 c4 hB hkT;cases mt with
       | true =>
         have hA2 : ∀ j, j < k + 1 → (T.getD j noMd).th = true := fun j hj => by
          rcases Nat.lt_or_ge j k with h | h
          · exact hA.out j h
          · obtain rfl : j = k := by omega
            rw [← Hx.out]
         have HA2 := zh hA2;clear hA hA2
         go_upto_region 10 with fail
         rw [← HW4.out];clear HW4
         go_wp2_with fail
         go_roundw
         case rel => exact ⟨k + 1, hlt, by go_num, HB4, HA2⟩
         case measure => simp [intOf]; omega
       | false =>
         have hR2 : R = .error 51 := by
          rw [HE.out];unfold endE;rw [if_neg];intro hh;have := ze3.1 hh k HkT.out;rw [← Hx.out] at this;cases this
         have HF : Hid (∀ W, W = w4.alloc (.cells #[.int .i64 (k : Int), .iface 26 (.int .i64 51)] 109) → AlP l hv B p M F H vl R w (.returned (.iface 107 (.pointer (some ⟨w4.heap.size, 0, none⟩)))) W) := zh fun W hW => by
          rw [hR2];exact ⟨(hT.out.trans (Dl.But.of_new HB4.out)).trans (Dl.But.of_new (by rw [hW]; exact below_new w4 _)), _, rfl, w4.heap.size, (k : Int), rfl, by rw [hW]; exact heap_alloc_new w4 _⟩
         clear hR2 hA hT HE
         go_upto_region 10 with fail
         rw [← HW4.out];clear HW4
         go_wp2_with fail
         go_ret
         exact HF.out _ rfl
     · obtain rfl : k = l.length := by omega
       have HF : Hid (AlP l hv B p M F H vl R w (.returned .nilIface) wr) := zh (by
        have : R = .ok T := by
         rw [HE.out];unfold endE;rw [if_pos (ze3.2 (by rw [hW.out.len]; exact hA.out))]
        rw [this];exact ⟨hT.out.trans (Dl.But.of_new hB.out), rfl, hW.out.below hB.out, hS.out⟩)
       clear hW hS hT hA HE hB
       go_wp2_with fail
       go_ret
       exact HF.out
def intC (x : Int) : List Value := [.int .i64 x]
theorem obK : ElK 35 37 2 24 obC := ⟨Tryz.underlying35, ⟨.agg #[.int .i64 0, .string ⟨#[]⟩], by kernel_rfl, by kernel_rfl⟩, by decide, fun _ => rfl, fun x u hu => by
 simp only [obC, List.mem_cons, List.not_mem_nil, or_false] at hu; rcases hu with rfl | rfl <;> rfl⟩
theorem intK : ElK 43 3 1 8 intC := ⟨Tryz.underlying43, ⟨.int .i64 0, by kernel_rfl, by kernel_rfl⟩, by decide, fun _ => rfl, fun x u hu => by
 simp only [intC, List.mem_cons, List.not_mem_nil, or_false] at hu; rcases hu with rfl; rfl⟩
def NewO (B : Nat) (w : World) (v : Value) (l : List (Int × Bs)) : Prop := OwK 37 2 obC w B v l
def NewI (B : Nat) (w : World) (v : Value) (l : List Int) : Prop := OwK 3 1 intC w B v l
def obM (m : Md) : Int × Bs := (m.kd, m.dt)
def dpM (m : Md) : Int := (m.dp : Int)
def WoH (l : List Ent) (hv : List Hld) (vl : Value) (w : World) (e : Ending) (w' : World) : Prop := ∃ p M F H, e = .returned (.pointer (some ⟨p, 0, none⟩)) ∧ Wk l hv w.heap.size p M F H vl (z1b l) w' ∧ Below w.heap.size w w'
theorem zb6 {l : List Ent} {hv : List Hld} (h : rightL l = true) : z0n l hv = goE l hv (z1b l) := by
 unfold z0n; rw [if_pos h, zby]
theorem ze4 {l : List Ent} {hv : List Hld} {B p M F H : Nat} {vl : Value} {S : List Md} {w w' : World} (h : Wk l hv B p M F H vl S w) (hb : Dl.But (fun k => k = M ∨ k = F) w w') : Below B w w' := by
 obtain ⟨s1, s2, s3, s4⟩ := h.sz;exact hb.below (fun q hq hh => by omega) (by have := lt_heap h.k; omega)
theorem z1e {w : World} {ev : Value} {n : Int} (h : FaultIn w ev n) : ∃ a, ev = .iface 107 (.pointer (some ⟨a, 0, none⟩)) := by
 obtain ⟨a, x, e, _⟩ := h; exact ⟨a, e⟩
theorem cloO_any (m : Md) (w : World) : Calls Tryz.prog 41 #[mdV m] w (z06 (.agg #[.int .i64 m.kd, .string ⟨m.dt.toArray⟩]) w) := by
 obtain ⟨mt, mk, md, mp⟩ := m;obtain ⟨w4, hw4⟩ := zx (w.alloc (.cells #[.bool mt, .int .i64 mk, .string ⟨md.toArray⟩, .int .i64 (mp : Int)] 82));have b4 : Below w.heap.size w w4 := by rw [hw4]; exact below_new w _
 have km4 : w4.heap[w.heap.size]? = some (.cells #[.bool mt, .int .i64 mk, .string ⟨md.toArray⟩, .int .i64 (mp : Int)] 82 (0, 0)) := by rw [hw4]; exact heap_alloc_new w _
 obtain ⟨x0, x1, x2, x3⟩ := cells4 km4;have HW4 := zh hw4; have HB := zh b4;clear hw4 b4 km4;unfold mdV;simp only
 go_enter Tryz.func41, Tryz.ntmps41
 obtain ⟨w5, hw5⟩ := zx (w4.alloc (.cells #[.int .i64 0, .string ⟨#[]⟩] 37));have b5 : Below w4.heap.size w4 w5 := by rw [hw5]; exact below_new w4 _
 have km5 : w5.heap[w4.heap.size]? = some (.cells #[.int .i64 0, .string ⟨#[]⟩] 37 (0, 0)) := by rw [hw5]; exact heap_alloc_new w4 _
 have s4 : w4.heap.size = w.heap.size + 1 := by rw [HW4.out]; simp
 rw [s4] at km5;have x1 := cell_to x1 b5; have x2 := cell_to x2 b5;have y0 : w5.cell? ⟨w.heap.size + 1, 0, none⟩ = some (.int .i64 0) := (cell_of_row w5 _ 0 _ _ _ km5).trans rfl;have y1 : w5.cell? ⟨w.heap.size + 1, 1, none⟩ = some (.string ⟨#[]⟩) := (cell_of_row w5 _ 1 _ _ _ km5).trans rfl;have z0 := z07 km5 0;have z1 := z07 km5 1;have hk := blk_setCell (blk_setCell km5 (i := 0) (.int .i64 mk)) (i := 1) (.string ⟨md.toArray⟩);have f0 := (cell_of_row _ _ 0 _ _ _ hk).trans rfl;have f1 := (cell_of_row _ _ 1 _ _ _ hk).trans rfl;have HFB : Hid (Below w.heap.size w ((w5.setCell ⟨w.heap.size + 1, 0, none⟩ (.int .i64 mk)).setCell ⟨w.heap.size + 1, 1, none⟩ (.string ⟨md.toArray⟩))) := zh (((HB.out.trans (b5.mono HB.out.size)).setCell (p := ⟨w.heap.size + 1, 0, none⟩) (by simp) _).setCell (p := ⟨w.heap.size + 1, 1, none⟩) (by simp) _);have HW5 := zh hw5; have Hs4 := zh s4;clear hw5 b5 km5 s4 hk x0 x3
 go_upto_region 1 with fail
 rw [← HW4.out, ← HW5.out];clear HW4 HW5
 go_wp2_with fail
 refine bodyPost_ret (v := .agg #[.int .i64 mk, .string ⟨md.toArray⟩]) (by simp [results, Tryz.results41, go_sem, f0, f1]) rfl ⟨rfl, HFB.out⟩
def EaOP (l : List Ent) (hv : List Hld) (w : World) (e : Ending) (w' : World) : Prop := Below w.heap.size w w' ∧ match z0n l hv with
 | .ok T => ∃ v, e = .returned (.tuple #[v, .nilIface]) ∧ NewO w.heap.size w' v (T.map obM)
 | .error n => ∃ ev, e = .returned (.tuple #[.slice none 0 0, ev]) ∧ FaultIn w' ev n
theorem zzzk : ∀ (v : Value) (W : World), (binOp .neq 64 (.iface 107 v) .nilIface).run Tryz.prog W = .ok (.bool true) W := fun v W => by go_simp
theorem znu {w : World} {v vh : Value} {l : List Ent} {hv : List Hld} (h : EntsR w v l) (hs : Smal l) (hd : ∀ e ∈ l, e.data.length ≤ 10000) (hh : ∀ x ∈ hv, x.data.length ≤ 70000) (ho : Ob w)
 (hwo : rightL l = true → ∀ w1, Below w.heap.size w w1 → Calls Tryz.prog 61 #[v, vh] w1 (WoH l hv v w1)) :
 Calls Tryz.prog 40 #[v, vh, .func (.func 41) #[] #[]] w (EaOP l hv w) := by
 obtain ⟨R, hR⟩ := zx (z0n l hv);have HCk := zh (z54 h hs 1);obtain ⟨A, c, rfl⟩ := h.shape;have HR := zh hR; have Hd := zh hd; have Hh := zh hh; have Ho := zh ho; have HWo := zh hwo;clear h hs hR hd hh ho hwo;unfold EaOP;rw [← HR.out]
 go_enter Tryz.func40, Tryz.ntmps40
 go_wp2_with fail
 refine HCk.out.mono ?_;rintro e w1 ⟨b1, ⟨hr, rfl⟩ | ⟨hr, ev, rfl, hf⟩⟩
 · have q2 : ∀ (W : World), (binOp .neq 64 .nilIface .nilIface).run Tryz.prog W = .ok (.bool false) W := fun W => by go_simp
   have HWo1 := zh (HWo.out hr w1 b1);have hll : l.length ≤ 512 := (z0h.1 hr).1;have HB1 := zh b1; have Hr := zh hr;clear b1 hr HCk HWo
   go_wp2_with fail
   refine HWo1.out.mono ?_;rintro e w2 ⟨p, M, F, H, rfl, hW, b2⟩;have cx : Ctx l hv w1 w1.heap.size := ⟨Hr.out, Hd.out, Hh.out, Ho.out.below HB1.out, rfl⟩
   have HAl := zh (znt cx b2 hW (zdv l));have HW := zh hW; have HB2 := zh (HB1.out.trans (b2.mono HB1.out.size));have HRg := zh (HR.out.trans (zb6 Hr.out));rw [← HRg.out] at HAl;have HB1s := zh HB1.out.size;clear hW b2 cx HWo1
   go_wp2_with fail
   refine HAl.out.mono ?_;intro e w3 hh;obtain ⟨t3, hh⟩ := hh;have b3 : Below w.heap.size w w3 := HB2.out.trans ((ze4 HW.out t3).mono HB1s.out);have HB3 := zh b3;clear t3 b3 HAl;cases R with
   | error n =>
     obtain ⟨ev, he, hf⟩ := hh;obtain ⟨a, e1⟩ := z1e hf;rw [e1] at he hf;rw [he];have Hf := zh hf;have q3 := zzzk;clear hf he e1 hll HW
     go_wp2_with fail
     go_ret2
     exact ⟨HB3.out, _, rfl, Hf.out⟩
   | ok T =>
     obtain ⟨he, hW3, hS3⟩ := hh;rw [he];have HW3 := zh hW3;obtain ⟨c0, c1, c2, c3, c4⟩ := hW3.cells;clear he hW3 hS3 HW
     go_wp2_with fail
     have HO0 : Hid (NewO w3.heap.size w3 (.slice none 0 0) ((T.take 0).map obM)) := zh (OwK.nil _ _ _ _ _)
     go_loopw [11, 32] (fun z i wr => Hid (Below w3.heap.size w3 wr) ∧ ∃ k : Nat, k ≤ l.length ∧ i = .int .i64 k ∧ Hid (NewO w3.heap.size wr z ((T.take k).map obM))) (fun _ i _ => l.length - (intOf i).toNat)
     case atStart => exact ⟨zh (Below.refl _ _), 0, Nat.zero_le _, rfl, HO0⟩
     case round =>
      obtain ⟨hB, k, hk, rfl, hN⟩ := hrel;by_cases hlt : k < l.length
      · have hkT : k < T.length := by rw [HW3.out.len]; exact hlt
        have hW2 := HW3.out.below hB.out;obtain ⟨m0, m1, m2, m3⟩ := hW2.m.cells k hkT;have htk : T.take (k + 1) = T.take k ++ [T.getD k noMd] := z0l T noMd k hkT;have hkl : (T.take k).length ≤ 512 := by rw [List.length_take]; omega
        obtain ⟨x, hx⟩ := zx (T.getD k noMd);rw [← hx] at m0 m1 m2 m3 htk;have Hclo := zh (fun W => cloO_any x W);obtain ⟨mt, mk, md, mp⟩ := x;unfold mdV at Hclo;simp only at m0 m1 m2 m3 Hclo;obtain ⟨w4, hw4⟩ := zx (wr.alloc (.cells #[.bool mt, .int .i64 mk, .string ⟨md.toArray⟩, .int .i64 (mp : Int)] 82));have b4 : Below wr.heap.size wr w4 := by rw [hw4]; exact below_new wr _
        have km4 : w4.heap[wr.heap.size]? = some (.cells #[.bool mt, .int .i64 mk, .string ⟨md.toArray⟩, .int .i64 (mp : Int)] 82 (0, 0)) := by rw [hw4]; exact heap_alloc_new wr _
        obtain ⟨x0, x1, x2, x3⟩ := cells4 km4;obtain ⟨zs, hzs⟩ := zx ((T.take k).map obM);have hN4 : NewO w3.heap.size w4 u11 ((T.take k).map obM) := OwK.below hN.out b4 zl;have hzl : zs.length ≤ 512 := by rw [hzs, List.length_map]; exact hkl
        have hz2 : (T.take (k + 1)).map obM = zs ++ [(mk, md)] := by rw [htk, hzs, List.map_append]; rfl
        rw [← hzs] at hN4;have HB4 : Hid (Below w3.heap.size w3 w4) := zh (hB.out.trans (b4.mono hB.out.size));have HW4 := zh hw4; have HN4 := zh hN4; have HZ := zh hz2; have HZl := zh hzl;clear hw4 b4 km4 hW2 hx c0 c1 c2 c3 c4 hB hkT htk hkl hzs hN4 hN hz2 hzl
        go_upto_region 12 with fail
        rw [← HW4.out];clear HW4
        go_wp2_with fail
        refine (Hclo.out _).mono ?_;rintro e w5 ⟨rfl, b5⟩;have HN5 := zh (OwK.below HN4.out b5 zl); have HB5 := zh (HB4.out.trans (b5.mono HB4.out.size));clear b5 HN4 HB4 x0 x1 x2 x3 m0 m1 m2 m3
        go_wp2_with (at_builtin; refine z0z obK rfl _ _ rfl w3.heap.size u11 zs (mk, md) _ rfl rfl (by simp [go_sem]) HN5.out ?c1 (by decide) ?c2 ?_)
        case c1 => have := HZl.out; omega
        case c2 => exact HB5.out.size
        intro z' w6 hN6 hb6;have HN6 := zh hN6;have HB6 : Hid (Below w3.heap.size w3 w6) := zh (HB5.out.trans hb6);clear hN6 hb6
        go_wp2_with fail
        go_roundw
        case rel => exact ⟨HB6, k + 1, hlt, by go_num, zh (by rw [HZ.out]; exact HN6.out)⟩
        case measure => simp [intOf]; omega
      · obtain rfl : k = l.length := by omega
        have hT : T.take l.length = T := List.take_of_length_le (by rw [HW3.out.len]; exact Nat.le_refl _);rw [hT] at hN;have HF := zh (HB3.out.trans (hB.out.mono HB3.out.size));clear hB c0 c1 c2 c3 c4 hT
        go_wp2_with fail
        go_ret2
        exact ⟨HF.out, _, rfl, OwK.mono hN.out HB3.out.size⟩
 · obtain ⟨a, e1⟩ := z1e hf;rw [e1] at hf ⊢;have hR2 : R = .error 1 := HR.out.trans (z6p hr);clear HR;subst hR2;have Hf := zh hf; have HB1 := zh b1;have q3 := zzzk;clear hf b1 hr e1 HCk
   go_wp2_with fail
   go_ret2
   exact ⟨HB1.out, _, rfl, Hf.out⟩
theorem cloI_any (m : Md) (w : World) : Calls Tryz.prog 44 #[mdV m] w (z06 (.int .i64 (m.dp : Int)) w) := by
 obtain ⟨mt, mk, md, mp⟩ := m;obtain ⟨w4, hw4⟩ := zx (w.alloc (.cells #[.bool mt, .int .i64 mk, .string ⟨md.toArray⟩, .int .i64 (mp : Int)] 82));have b4 : Below w.heap.size w w4 := by rw [hw4]; exact below_new w _
 have km4 : w4.heap[w.heap.size]? = some (.cells #[.bool mt, .int .i64 mk, .string ⟨md.toArray⟩, .int .i64 (mp : Int)] 82 (0, 0)) := by rw [hw4]; exact heap_alloc_new w _
 obtain ⟨x0, x1, x2, x3⟩ := cells4 km4;have HW4 := zh hw4; have HB := zh b4;clear hw4 b4 km4;unfold mdV;simp only
 go_enter Tryz.func44, Tryz.ntmps44
 go_upto_region 1 with fail
 rw [← HW4.out];clear HW4
 go_wp2_with fail
 go_ret
 exact ⟨rfl, HB.out⟩
def EaIP (l : List Ent) (hv : List Hld) (w : World) (e : Ending) (w' : World) : Prop := Below w.heap.size w w' ∧ match z0n l hv with
 | .ok T => ∃ v, e = .returned (.tuple #[v, .nilIface]) ∧ NewI w.heap.size w' v (T.map dpM)
 | .error n => ∃ ev, e = .returned (.tuple #[.slice none 0 0, ev]) ∧ FaultIn w' ev n
theorem znv {w : World} {v vh : Value} {l : List Ent} {hv : List Hld} (h : EntsR w v l) (hs : Smal l) (hd : ∀ e ∈ l, e.data.length ≤ 10000) (hh : ∀ x ∈ hv, x.data.length ≤ 70000) (ho : Ob w)
 (hwo : rightL l = true → ∀ w1, Below w.heap.size w w1 → Calls Tryz.prog 61 #[v, vh] w1 (WoH l hv v w1)) :
 Calls Tryz.prog 43 #[v, vh, .func (.func 44) #[] #[]] w (EaIP l hv w) := by
 obtain ⟨R, hR⟩ := zx (z0n l hv);have HCk := zh (z54 h hs 1);obtain ⟨A, c, rfl⟩ := h.shape;have HR := zh hR; have Hd := zh hd; have Hh := zh hh; have Ho := zh ho; have HWo := zh hwo;clear h hs hR hd hh ho hwo;unfold EaIP;rw [← HR.out]
 go_enter Tryz.func43, Tryz.ntmps43
 go_wp2_with fail
 refine HCk.out.mono ?_;rintro e w1 ⟨b1, ⟨hr, rfl⟩ | ⟨hr, ev, rfl, hf⟩⟩
 · have q2 : ∀ (W : World), (binOp .neq 64 .nilIface .nilIface).run Tryz.prog W = .ok (.bool false) W := fun W => by go_simp
   have HWo1 := zh (HWo.out hr w1 b1);have hll : l.length ≤ 512 := (z0h.1 hr).1;have HB1 := zh b1; have Hr := zh hr;clear b1 hr HCk HWo
   go_wp2_with fail
   refine HWo1.out.mono ?_;rintro e w2 ⟨p, M, F, H, rfl, hW, b2⟩;have cx : Ctx l hv w1 w1.heap.size := ⟨Hr.out, Hd.out, Hh.out, Ho.out.below HB1.out, rfl⟩
   have HAl := zh (znt cx b2 hW (zdv l));have HW := zh hW; have HB2 := zh (HB1.out.trans (b2.mono HB1.out.size));have HRg := zh (HR.out.trans (zb6 Hr.out));rw [← HRg.out] at HAl;have HB1s := zh HB1.out.size;clear hW b2 cx HWo1
   go_wp2_with fail
   refine HAl.out.mono ?_;intro e w3 hh;obtain ⟨t3, hh⟩ := hh;have b3 : Below w.heap.size w w3 := HB2.out.trans ((ze4 HW.out t3).mono HB1s.out);have HB3 := zh b3;clear t3 b3 HAl;cases R with
   | error n =>
     obtain ⟨ev, he, hf⟩ := hh;obtain ⟨a, e1⟩ := z1e hf;rw [e1] at he hf;rw [he];have Hf := zh hf;have q3 := zzzk;clear hf he e1 hll HW
     go_wp2_with fail
     go_ret2
     exact ⟨HB3.out, _, rfl, Hf.out⟩
   | ok T =>
     obtain ⟨he, hW3, hS3⟩ := hh;rw [he];have HW3 := zh hW3;obtain ⟨c0, c1, c2, c3, c4⟩ := hW3.cells;clear he hW3 hS3 HW
     go_wp2_with fail
     have HO0 : Hid (NewI w3.heap.size w3 (.slice none 0 0) ((T.take 0).map dpM)) := zh (OwK.nil _ _ _ _ _)
     go_loopw [11, 32] (fun z i wr => Hid (Below w3.heap.size w3 wr) ∧ ∃ k : Nat, k ≤ l.length ∧ i = .int .i64 k ∧ Hid (NewI w3.heap.size wr z ((T.take k).map dpM))) (fun _ i _ => l.length - (intOf i).toNat)
     case atStart => exact ⟨zh (Below.refl _ _), 0, Nat.zero_le _, rfl, HO0⟩
     case round =>
      obtain ⟨hB, k, hk, rfl, hN⟩ := hrel;by_cases hlt : k < l.length
      · have hkT : k < T.length := by rw [HW3.out.len]; exact hlt
        have hW2 := HW3.out.below hB.out;obtain ⟨m0, m1, m2, m3⟩ := hW2.m.cells k hkT;have htk : T.take (k + 1) = T.take k ++ [T.getD k noMd] := z0l T noMd k hkT;have hkl : (T.take k).length ≤ 512 := by rw [List.length_take]; omega
        obtain ⟨x, hx⟩ := zx (T.getD k noMd);rw [← hx] at m0 m1 m2 m3 htk;have Hclo := zh (fun W => cloI_any x W);obtain ⟨mt, mk, md, mp⟩ := x;unfold mdV at Hclo;simp only at m0 m1 m2 m3 Hclo;obtain ⟨w4, hw4⟩ := zx (wr.alloc (.cells #[.bool mt, .int .i64 mk, .string ⟨md.toArray⟩, .int .i64 (mp : Int)] 82));have b4 : Below wr.heap.size wr w4 := by rw [hw4]; exact below_new wr _
        have km4 : w4.heap[wr.heap.size]? = some (.cells #[.bool mt, .int .i64 mk, .string ⟨md.toArray⟩, .int .i64 (mp : Int)] 82 (0, 0)) := by rw [hw4]; exact heap_alloc_new wr _
        obtain ⟨x0, x1, x2, x3⟩ := cells4 km4;obtain ⟨zs, hzs⟩ := zx ((T.take k).map dpM);have hN4 : NewI w3.heap.size w4 u11 ((T.take k).map dpM) := OwK.below hN.out b4 zl;have hzl : zs.length ≤ 512 := by rw [hzs, List.length_map]; exact hkl
        have hz2 : (T.take (k + 1)).map dpM = zs ++ [(mp : Int)] := by rw [htk, hzs, List.map_append]; rfl
        rw [← hzs] at hN4;have HB4 : Hid (Below w3.heap.size w3 w4) := zh (hB.out.trans (b4.mono hB.out.size));have HW4 := zh hw4; have HN4 := zh hN4; have HZ := zh hz2; have HZl := zh hzl;clear hw4 b4 km4 hW2 hx c0 c1 c2 c3 c4 hB hkT htk hkl hzs hN4 hN hz2 hzl
        go_upto_region 12 with fail
        rw [← HW4.out];clear HW4
        go_wp2_with fail
        refine (Hclo.out _).mono ?_;rintro e w5 ⟨rfl, b5⟩;have HN5 := zh (OwK.below HN4.out b5 zl); have HB5 := zh (HB4.out.trans (b5.mono HB4.out.size));clear b5 HN4 HB4 x0 x1 x2 x3 m0 m1 m2 m3
        go_wp2_with (at_builtin; refine z0z intK rfl _ _ rfl w3.heap.size u11 zs (mp : Int) _ rfl rfl (by simp [go_sem]) HN5.out ?c1 (by decide) ?c2 ?_)
        case c1 => have := HZl.out; omega
        case c2 => exact HB5.out.size
        intro z' w6 hN6 hb6;have HN6 := zh hN6;have HB6 : Hid (Below w3.heap.size w3 w6) := zh (HB5.out.trans hb6);clear hN6 hb6
        go_wp2_with fail
        go_roundw
        case rel => exact ⟨HB6, k + 1, hlt, by go_num, zh (by rw [HZ.out]; exact HN6.out)⟩
        case measure => simp [intOf]; omega
      · obtain rfl : k = l.length := by omega
        have hT : T.take l.length = T := List.take_of_length_le (by rw [HW3.out.len]; exact Nat.le_refl _);rw [hT] at hN;have HF := zh (HB3.out.trans (hB.out.mono HB3.out.size));clear hB c0 c1 c2 c3 c4 hT
        go_wp2_with fail
        go_ret2
        exact ⟨HF.out, _, rfl, OwK.mono hN.out HB3.out.size⟩
 · obtain ⟨a, e1⟩ := z1e hf;rw [e1] at hf ⊢;have hR2 : R = .error 1 := HR.out.trans (z6p hr);clear HR;subst hR2;have Hf := zh hf; have HB1 := zh b1;have q3 := zzzk;clear hf b1 hr e1 HCk
   go_wp2_with fail
   go_ret2
   exact ⟨HB1.out, _, rfl, Hf.out⟩
def RsOP (l : List Ent) (hv : List Hld) (w : World) (e : Ending) (w' : World) : Prop := Below w.heap.size w w' ∧ match z0n l hv with
 | .ok T => ∃ v, e = .returned (.tuple #[v, .int .i64 0]) ∧ NewO w.heap.size w' v (T.map obM)
 | .error n => e = .returned (.tuple #[.slice none 0 0, .int .i64 n])
theorem z9p {w : World} {v vh : Value} {l : List Ent} {hv : List Hld} (h : EntsR w v l) (hs : Smal l) (hd : ∀ e ∈ l, e.data.length ≤ 10000) (hh : ∀ x ∈ hv, x.data.length ≤ 70000) (ho : Ob w) (het : Et w)
 (hwo : rightL l = true → ∀ w1, Below w.heap.size w w1 → Calls Tryz.prog 61 #[v, vh] w1 (WoH l hv v w1)) :
 Calls Tryz.prog 21 #[v, vh] w (RsOP l hv w) := by
 have HE := zh (znu h hs hd hh ho hwo);obtain ⟨A, c, rfl⟩ := h.shape;obtain ⟨R, hR⟩ := zx (z0n l hv);unfold EaOP at HE;unfold RsOP;rw [← hR] at HE ⊢;have Het := zh het;clear h hs hd hh ho hwo het hR
 go_enter Tryz.func21, Tryz.ntmps21
 go_wp2_with fail
 refine HE.out.mono ?_;intro e w1 hh;obtain ⟨b1, hh⟩ := hh;cases R with
 | error n =>
   obtain ⟨ev, he, hf⟩ := hh;have HT := zh (zkm (s := .slice none 0 0) w1 (.inr hf) (z6n Het.out b1));obtain ⟨a, e1⟩ := z1e hf;rw [e1] at he HT;rw [he];have HB := zh b1;clear he hf e1 b1 HE
   go_wp2_with fail
   refine HT.out.mono ?_;rintro e w2 ⟨rfl, b2⟩;have HF := zh (HB.out.trans (b2.mono HB.out.size));clear b2
   go_wp2_with fail
   go_ret2
   exact ⟨HF.out, rfl⟩
 | ok T =>
   obtain ⟨v', he, hv'⟩ := hh;rw [he];have HT := zh (zkl v' w1);have HB := zh b1; have HV := zh hv';clear he hv' b1 HE
   go_wp2_with fail
   refine HT.out.mono ?_;rintro e w2 ⟨rfl, b2⟩;have HF := zh (HB.out.trans (b2.mono HB.out.size));have HV2 := zh (OwK.below HV.out b2 zl);clear b2
   go_wp2_with fail
   go_ret2
   exact ⟨HF.out, _, rfl, HV2.out⟩
def RsIP (l : List Ent) (hv : List Hld) (w : World) (e : Ending) (w' : World) : Prop := Below w.heap.size w w' ∧ match z0n l hv with
 | .ok T => ∃ v, e = .returned (.tuple #[v, .int .i64 0]) ∧ NewI w.heap.size w' v (T.map dpM)
 | .error n => e = .returned (.tuple #[.slice none 0 0, .int .i64 n])
theorem zhl {w : World} {v vh : Value} {l : List Ent} {hv : List Hld} (h : EntsR w v l) (hs : Smal l) (hd : ∀ e ∈ l, e.data.length ≤ 10000) (hh : ∀ x ∈ hv, x.data.length ≤ 70000) (ho : Ob w) (het : Et w)
 (hwo : rightL l = true → ∀ w1, Below w.heap.size w w1 → Calls Tryz.prog 61 #[v, vh] w1 (WoH l hv v w1)) :
 Calls Tryz.prog 22 #[v, vh] w (RsIP l hv w) := by
 have HE := zh (znv h hs hd hh ho hwo);obtain ⟨A, c, rfl⟩ := h.shape;obtain ⟨R, hR⟩ := zx (z0n l hv);unfold EaIP at HE;unfold RsIP;rw [← hR] at HE ⊢;have Het := zh het;clear h hs hd hh ho hwo het hR
 go_enter Tryz.func22, Tryz.ntmps22
 go_wp2_with fail
 refine HE.out.mono ?_;intro e w1 hh;obtain ⟨b1, hh⟩ := hh;cases R with
 | error n =>
   obtain ⟨ev, he, hf⟩ := hh;have HT := zh (zko (s := .slice none 0 0) w1 (.inr hf) (z6n Het.out b1));obtain ⟨a, e1⟩ := z1e hf;rw [e1] at he HT;rw [he];have HB := zh b1;clear he hf e1 b1 HE
   go_wp2_with fail
   refine HT.out.mono ?_;rintro e w2 ⟨rfl, b2⟩;have HF := zh (HB.out.trans (b2.mono HB.out.size));clear b2
   go_wp2_with fail
   go_ret2
   exact ⟨HF.out, rfl⟩
 | ok T =>
   obtain ⟨v', he, hv'⟩ := hh;rw [he];have HT := zh (zkn v' w1);have HB := zh b1; have HV := zh hv';clear he hv' b1 HE
   go_wp2_with fail
   refine HT.out.mono ?_;rintro e w2 ⟨rfl, b2⟩;have HF := zh (HB.out.trans (b2.mono HB.out.size));have HV2 := zh (OwK.below HV.out b2 zl);clear b2
   go_wp2_with fail
   go_ret2
   exact ⟨HF.out, _, rfl, HV2.out⟩
end Go.Proofs.YtgjddkeogboojaaGreatDoor.Pk
