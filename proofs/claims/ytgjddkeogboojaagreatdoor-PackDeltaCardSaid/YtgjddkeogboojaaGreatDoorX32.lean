/-
  workOf, with objects beside.
  What the law of an entry made a delta wants: parts of rows of entries, an entry laid, three rows one behind the other.
-/
import Derived.Test.YtgjddkeogboojaaGreatDoorX31
import Derived.Test.YtgjddkeogboojaaGreatDoorX25
import Derived.Test.YtgjddkeogboojaaGreatDoorX23
set_option maxHeartbeats 16000000
set_option maxRecDepth 100000
namespace Go.Proofs.YtgjddkeogboojaaGreatDoor.Pk
open Go.Proofs.YtgjddkeogboojaaGreatDoor
open Go Go.RowKit Go.Maps
section
variable {P : Program} {a : Go.Act} {o : Oper} {W : World}
theorem y_nil {x : Operand} {b : Addr} (ho : o.op = .nilCheck x) (hx : a.eval x = .pointer (some b)) : (execOp a.eval o).run P W = .ok (.value (.pointer (some b))) W := by
 simp only [execOp, ho, hx]
 go_simp
theorem y_bldM {t : TypeId} {parts : Array (Nat × Operand)} {ps : Array (Nat × Value)} {r : Value} (ho : o.op = .build t parts) (hp : (parts.map fun (i, x) => (i, a.eval x)) = ps) (h : (Instr.build t ps).run P W = .ok r W) : (execOp a.eval o).run P W = .ok (.value r) W := by
 subst hp
 simp [execOp, ho, h, Result.andThen]
theorem y_put {W' : World} {t : TypeId} {m x v : Operand} {mv xv vv : Value} (ho : o.op = .mapUpdate t m x v) (hm : a.eval m = mv) (hx : a.eval x = xv) (hv : a.eval v = vv) (h : (Instr.mapUpdate t mv xv vv).run P W = .ok () W') : (execOp a.eval o).run P W = .ok .skip W' := by
 subst hm hx hv
 simp [execOp, ho, h, Result.andThen]
end
theorem bld_md (W : World) (k : Int) (d : Bs) : (Instr.build 82 #[(0, .bool true), (1, .agg #[.int .i64 k, .string ⟨d.toArray⟩])]).run Tryz.prog W = .ok (.agg #[.bool true, .int .i64 k, .string ⟨d.toArray⟩, .int .i64 0]) W := by kernel_rfl
theorem load_ob {W : World} {q : Nat} {k : Int} {d : Bs} (h1 : W.cell? ⟨q, 1, none⟩ = some (.int .i64 k)) (h2 : W.cell? ⟨q, 2, none⟩ = some (.string ⟨d.toArray⟩)) : (Instr.loadAt 37 (.pointer (some ⟨q, 1, none⟩))).run Tryz.prog W = .ok (.agg #[.int .i64 k, .string ⟨d.toArray⟩]) W := by simp [go_sem, h1, h2]
theorem load_m {W : World} {p H : Nat} (h : W.cell? ⟨p, 4, none⟩ = some (.map (some H))) : (Instr.loadAt 122 (.pointer (some ⟨p, 4, none⟩))).run Tryz.prog W = .ok (.map (some H)) W := by simp [go_sem, h]
theorem load_s {W : World} {q : Nat} {s : Bs} (h : W.cell? ⟨q, 0, none⟩ = some (.string ⟨s.toArray⟩)) : (Instr.loadAt 9 (.pointer (some ⟨q, 0, none⟩))).run Tryz.prog W = .ok (.string ⟨s.toArray⟩) W := by simp [go_sem, h]
theorem fld_w4 (W : World) (p : Nat) : (Instr.fieldAt 124 (.pointer (some ⟨p, 0, none⟩)) 4).run Tryz.prog W = .ok (.pointer (some ⟨p, 4, none⟩)) W := by simp [go_sem]
theorem fld_h0 (W : World) (q : Nat) : (Instr.fieldAt 47 (.pointer (some ⟨q, 0, none⟩)) 0).run Tryz.prog W = .ok (.pointer (some ⟨q, 0, none⟩)) W := by simp [go_sem]
theorem fld_h1 (W : World) (q : Nat) : (Instr.fieldAt 47 (.pointer (some ⟨q, 0, none⟩)) 1).run Tryz.prog W = .ok (.pointer (some ⟨q, 1, none⟩)) W := by simp [go_sem]
theorem ziy {r : List Hld} (hr : r.Pairwise fun x y => x.id < y.id) {k : Nat} (hk : k < r.length) : z7a (r.take (k + 1)) = updF (z7a (r.take k)) (r.getD k noHld).id (mdV (z4z (r.getD k noHld))) := by
 funext x
 unfold z7a updF
 rw [zni hr hk]
 split <;> rfl
structure WoS (l : List Ent) (r : List Hld) (B0 p M F H : Nat) (vl : Value) (w7 : World) (v7 : Value) (k : Nat) (wr : World) : Prop where
 but : But (fun q => q = H) w7 wr
 map : MapS wr H k (z7a (r.take k))
theorem RdK.butH {α : Type} {k : Nat} {f : α → List Value} {w w' : World} {v : Value} {l : List α} {S : Nat → Prop} (h : RdK k f w v l) (hb : But S w w') (hn : 0 < l.length → ∀ g, v.ownBlock = some g → ¬ S g) : RdK k f w' v l := by
 rcases Nat.eq_zero_or_pos l.length with h0 | h0
 · obtain ⟨A, c, e⟩ := h.shape
   exact .inl ⟨⟨A, c, by rw [e, h0]⟩, List.length_eq_zero_iff.1 h0⟩
 · exact h.but hb (hn h0)
theorem But.of_grw {w w' : World} {row : Option Nat} (h : w.grownBy w' row) : But (fun k => row = some k) w w' := ⟨h.os, h.tape, h.output, h.size, fun k hk hn => h.block k hk (fun e => hn e.symm)⟩
theorem znl {l : List Hld} {k : Nat} (hk : k < l.length) : l.getD k noHld ∈ l := by rw [getD_lt hk]; exact List.getElem_mem hk
theorem zfl {w : World} {v vh : Value} {l : List Ent} {hv : List Hld} (h : EntsR w v l) (hh : HldsR w vh hv) (hl : l.length ≤ 512) (hhl : hv.length ≤ 100000) (hhi : ∀ x ∈ hv, x.id.length ≤ 1000000) (hbl : ∀ x ∈ z0z l, x.length ≤ 1000000)
 (hso : ∀ B v' w', NewH B w' v' (z3p hv (z0z l)) → z6n B (z3p hv (z0z l)) v' w') : Calls Tryz.prog 61 #[v, vh] w (WoH l hv v w) := by
 obtain ⟨Ah, ch, rfl⟩ := hh.shape
 have Hh := zh hh; have Hhl := zh hhl; have Hhi := zh hhi; have Hso := zh hso
 obtain ⟨nh, hnh⟩ := zx hv.length
 rw [← hnh] at Hh ⊢
 clear hh hhl hhi hso hnh
 have HBa := zh (zdm h (by omega))
 have Hx := zh h
 have Hown : Hid (0 < l.length → ∀ g, v.ownBlock = some g → g < w.heap.size) := zh fun h0 g hg => by
  obtain ⟨g', o, c, e, _, hg'⟩ := h.pos h0
  rw [e] at hg
  cases hg
  exact hg'
 obtain ⟨A, c, rfl⟩ := h.shape
 have Hbl := zh hbl
 obtain ⟨n, hn⟩ := zx l.length
 have Hn := zh hn
 have Hl := zh hl
 rw [← hn] at HBa Hx Hown ⊢
 clear h hbl hn
 have hmm := @run_makeMap Tryz.prog
 go_enter Tryz.func61, Tryz.ntmps61
 go_wp2_with fail
 refine HBa.out.mono ?_
 rintro e w1 ⟨u, rfl, ru, b1⟩
 obtain ⟨Au, cu, rfl⟩ : ∃ A c, u = .slice A (z0z l).length c := (OwK.rd z15 ru).shape
 obtain ⟨N, hN⟩ := zx ((z0z l).length)
 rw [← hN] at ru ⊢
 have hmk := mk_md w1 n (by have := Hn.out; have := Hl.out; omega)
 obtain ⟨w2, hw2⟩ := zx (w1.alloc (.cells (madeCells #[.bool false, .int .i64 0, .string ⟨#[]⟩, .int .i64 0] (n * 4)) 82))
 rw [← hw2] at hmk
 obtain ⟨w3, hw3⟩ := zx (w2.alloc (.map #[] 0))
 obtain ⟨w4, hw4⟩ := zx (w3.alloc (.map #[] 0))
 obtain ⟨w5, hw5⟩ := zx (w4.alloc (.cells #[.slice A n c, .slice (some ⟨w1.heap.size, 0, none⟩) n n, .bool (decide (0 < N)), .map (some w2.heap.size), .map (some (w2.heap.size + 1))] 124))
 have b2 : Below w1.heap.size w1 w2 := by rw [hw2]; exact below_new w1 _
 have b3 : Below w2.heap.size w2 w3 := by rw [hw3]; exact below_new w2 _
 have b4 : Below w3.heap.size w3 w4 := by rw [hw4]; exact below_new w3 _
 have b5 : Below w4.heap.size w4 w5 := by rw [hw5]; exact below_new w4 _
 have s2 : w2.heap.size = w1.heap.size + 1 := by rw [hw2]; simp
 have s3 : w3.heap.size = w1.heap.size + 2 := by rw [hw3]; simp [s2]
 have s4 : w4.heap.size = w1.heap.size + 3 := by rw [hw4]; simp [s3]
 have hask : decide (0 < N) = z3k l := by unfold z3k; rw [hN]
 have s32 : w3.heap.size = w2.heap.size + 1 := by omega
 have s42 : w4.heap.size = w2.heap.size + 1 + 1 := by omega
 have b15 : Below w1.heap.size w1 w5 := ((b2.trans (b3.mono b2.size)).trans (b4.mono (by omega))).trans (b5.mono (by omega))
 have hWk : Wk l [] w.heap.size w4.heap.size w1.heap.size w2.heap.size w3.heap.size (.slice A n c) (z1c l) w5 := by
  have h1s := b1.size
  refine ⟨?_, (zmp Hn.out hw2).but (Dl.But.of_new (S := fun _ => False) ((b3.trans (b4.mono b3.size)).trans (b5.mono (by omega)))) id, (Hx.out.below b1 zl).below b15 zl, by simp [z1c], fun _ => ⟨0, by rw [z90]; omega, ?_⟩, ⟨0, fun _ => none, ?_, fun x _ => by unfold z7a; rfl⟩, ⟨by omega, by omega, by omega, by omega⟩, fun h0 g hg => Hown.out (by have := Hn.out; omega) g hg⟩
  · rw [hw5, hask, ← Hn.out, ← s32]; exact heap_alloc_new w4 _
  · have hm := MapS.made w2
    rw [← hw3] at hm
    have : (fun _ => none) = z2s (z1c l) := by funext x; unfold z2s; rw [z94]; rfl
    rw [← this]
    exact (hm.below b4 hm.lt).below b5 (by have := hm.lt; have := b4.size; omega)
  · have hm := MapS.made w3
    rw [← hw4] at hm
    exact hm.below b5 hm.lt
 have hM0 : MapS w5 w3.heap.size 0 (fun _ => none) := by
  have hm := MapS.made w3
  rw [← hw4] at hm
  exact hm.below b5 hm.lt
 have hPk := fun W (hW : Below w5.heap.size w5 W) => zgp (w := W) (v := .slice Ah nh ch) (vi := .slice Au N cu) (l := hv) (ids := z0z l) (((Hh.out.below b1 zl).below b15 zl).below hW zl) (((OwK.rd z15 ru).below b15 zl).below hW zl) Hhl.out (by have := z9d l; have := Hl.out; omega) Hhi.out Hbl.out
 have HPk := zh hPk
 obtain ⟨M, hM⟩ := zx w1.heap.size
 obtain ⟨F, hF⟩ := zx w2.heap.size
 rw [s42, s32, ← hF, ← hM] at hWk
 rw [s32, ← hF] at hM0
 have HM0 := zh hM0
 have he5 : (((w2.alloc (.map #[] 0)).alloc (.map #[] 0)).alloc (.cells #[.slice A n c, .slice (some ⟨M, 0, none⟩) n n, .bool (decide (0 < N)), .map (some F), .map (some (F + 1))] 124)) = w5 := by rw [hw5, hw4, hw3, hF, hM]
 have HWk := zh hWk; have HE5 := zh he5; have HB15 := zh (b1.trans (b15.mono b1.size))
 have HM : Hid (w1.heap.size = M) := zh hM.symm
 have HF : Hid (w2.heap.size = F) := zh hF.symm
 clear hPk hWk hM0 hw2 hw3 hw4 hw5 b1 b2 b3 b4 b5 b15 s2 s3 s4 hask ru hN s32 s42 he5 hM hF
 go_upto_region 3 with fail
 clear hmk hmm
 rw [HM.out, HF.out, HE5.out]
 obtain ⟨p, hp⟩ := zx (F + 1 + 1)
 rw [← hp] at HWk ⊢
 clear hp HM HF HE5
 go_wp2_with fail
 refine (HPk.out w5 (Below.refl _ _)).mono ?_
 rintro e w6 ⟨v6, rfl, r6, b6⟩
 have r6' : NewH w5.heap.size w6 v6 (z3p hv (z0z l)) := r6
 obtain ⟨pk, hpk⟩ := zx (z3p hv (z0z l))
 have Hpk := zh hpk
 rw [← hpk] at r6'
 have hpl : pk.length ≤ 100000 := by rw [hpk]; have := zdf hv (z0z l); have := Hhl.out; omega
 obtain ⟨A6, c6, rfl⟩ := r6'.rd.shape
 have HJ := zh (zgt (w := w6) (va := .slice none 0 0) (vb := .slice A6 pk.length c6) (a := []) (b := pk) (.inl ⟨⟨_, _, rfl⟩, rfl⟩) r6'.rd (by simp) hpl (fun B v' w' hh => by
  rw [List.nil_append, hpk] at hh ⊢
  exact Hso.out B v' w' hh))
 have HB6 := zh (HB15.out.trans (b6.mono HB15.out.size)); have HW6 := zh (HWk.out.below b6)
 have HM6 := zh (HM0.out.below b6 HM0.out.lt)
 have HPl := zh hpl
 obtain ⟨n6, hn6⟩ := zx pk.length
 rw [← hn6] at HJ ⊢
 clear r6 r6' b6 HPk HWk HM0 hpk hpl hn6
 go_wp2_with fail
 refine HJ.out.mono ?_
 rintro e w7 ⟨v7, r, rfl, hset, hlen, r7, b7⟩
 rw [List.nil_append] at hset hlen
 obtain ⟨A7, c7, rfl⟩ := r7.rd.shape
 have HB7 := zh (HB6.out.trans (b7.mono HB6.out.size)); have HW7 := zh (HW6.out.below b7)
 have HM7 := zh (HM6.out.below b7 HM6.out.lt)
 have HR7 : Hid (HldsR w7 (.slice A7 r.length c7) r) := zh r7.rd
 have Hown7 : Hid (0 < r.length → ∀ g, (Value.slice A7 r.length c7).ownBlock = some g → F + 1 < g) := zh fun _ g hg => by
  have h1 := (r7.lt g hg).1
  have h2 := HM6.out.lt
  omega
 have Hset := zh hset
 have Hrise := zh hset.rise
 have Hrid : Hid (∀ x ∈ r, x.id.length ≤ 1000000) := zh fun x hx => by
  have h1 := z1l ((hset.mem x).1 hx)
  rw [Hpk.out] at h1
  exact Hhi.out x (List.mem_filter.1 h1).1
 obtain ⟨nr, hnr⟩ := zx r.length
 have Hnr := zh hnr
 have HnrL : Hid (nr ≤ 100000) := zh (by rw [hnr]; have := HPl.out; omega)
 rw [← hnr] at HR7 Hown7 ⊢
 obtain ⟨H, hH⟩ := zx (F + 1)
 rw [← hH] at HW7 HM7 Hown7
 have HS0 : Hid (WoS l r 0 p M F H (.slice A n c) w7 (.slice A7 nr c7) 0 w7) := zh ⟨But.refl _ _, by
  have e : z7a (r.take 0) = fun _ => none := by funext x; rfl
  rw [e]; exact HM7.out⟩
 have Hpz : Hid (H < p ∧ p < w7.heap.size) := zh ⟨HW7.out.sz.2.2.2, lt_heap HW7.out.k⟩
 have HZb : Hid (w.heap.size ≤ H) := zh (by have := HW7.out.sz; omega)
 clear hset hlen r7 b7 HJ HW6 HM6 hnr hH
 go_wp2_with fail
 go_loopw [27] (fun iv wr => ∃ k : Nat, k ≤ nr ∧ iv = .int .i64 k ∧ Hid (WoS l r 0 p M F H (.slice A n c) w7 (.slice A7 nr c7) k wr)) (fun iv _ => nr - (intOf iv).toNat)
 case atStart => exact ⟨0, Nat.zero_le _, rfl, HS0⟩
 case round =>
  obtain ⟨k, hk, rfl, hS⟩ := hrel
  by_cases hlt : k < nr
  · obtain ⟨g, o, c', e, _, hg⟩ := HR7.out.pos (by have := Hnr.out; omega)
    obtain rfl : A7 = some ⟨g, o, none⟩ := by rw [← Hnr.out] at e; cases e; rfl
    clear e
    have hkr : k < r.length := by have := Hnr.out; omega
    have hRr : HldsR wr (.slice (some ⟨g, o, none⟩) nr c7) r := RdK.butH HR7.out hS.out.but (fun h0 q hq => by have := Hown7.out (by have := Hnr.out; omega) q hq; omega)
    obtain ⟨p0, p1, p2⟩ := HldsR.cells hRr k hkr
    have hid := Hrid.out _ (znl hkr)
    have hsn := ziy Hrise.out hkr
    obtain ⟨x, hx⟩ := zx (r.getD k noHld)
    rw [← hx] at p0 p1 p2 hid hsn
    obtain ⟨xi, xk, xd⟩ := x
    unfold SV at p0 p2
    simp only at p0 p1 p2 hid hsn
    obtain ⟨q, hq⟩ := zx wr.heap.size
    obtain ⟨w8, hw8⟩ := zx (wr.alloc (.cells #[.string ⟨xi.toArray⟩, .int .i64 xk, .string ⟨xd.toArray⟩] 47))
    have b8 : Below wr.heap.size wr w8 := by rw [hw8]; exact below_new wr _
    have k8 : w8.heap[q]? = some (.cells #[.string ⟨xi.toArray⟩, .int .i64 xk, .string ⟨xd.toArray⟩] 47 (0, 0)) := by rw [hw8, hq]; exact heap_alloc_new wr _
    have hM8 := hS.out.map.below b8 hS.out.map.lt
    have hB8 : But (fun q => q = H) w7 w8 := hS.out.but.trans (But.of_new b8)
    have hcp : w8.cell? ⟨p, 4, none⟩ = some (.map (some H)) := (hB8.cell (p := ⟨p, 4, none⟩) Hpz.out.2 (by show ¬ p = H; have := Hpz.out.1; omega)).trans HW7.out.cells.2.2.2.2
    have hqH : H < q := by rw [hq]; exact hS.out.map.lt
    have hcq : w8.cell? ⟨q, 0, none⟩ = some (.string ⟨xi.toArray⟩) ∧ w8.cell? ⟨q, 1, none⟩ = some (.int .i64 xk) ∧ w8.cell? ⟨q, 2, none⟩ = some (.string ⟨xd.toArray⟩) := ⟨(cell_of_row w8 q 0 _ _ _ k8).trans rfl, (cell_of_row w8 q 1 _ _ _ k8).trans rfl, (cell_of_row w8 q 2 _ _ _ k8).trans rfl⟩
    obtain ⟨w9, hrun, hM9, hg9⟩ := (MapS.below hM8 (Below.refl _ w8).drew hM8.lt).put Tryz.underlying122 (by unfold maxLen; have := HnrL.out; omega) (x := xi) (by unfold maxLen; omega) (.agg #[.bool true, .int .i64 xk, .string ⟨xd.toArray⟩, .int .i64 0])
    have hB9 : But (fun q => q = H) w7 w9 := (hB8.drew).trans ((But.of_grw hg9).mono (fun k _ h => by cases h; rfl))
    have hc9 : ∀ (z i : Nat) (v : Value), z ≠ H → z < w8.heap.size → w8.cell? ⟨z, i, none⟩ = some v → w9.cell? ⟨z, i, none⟩ = some v := fun z i v hz hl hc => ((But.of_grw hg9).cell (p := ⟨z, i, none⟩) hl (fun e => hz (by cases e; rfl))).trans hc
    have CS : Hid (w8.cell? ⟨p, 4, none⟩ = some (.map (some H)) ∧ w8.cell? ⟨q, 0, none⟩ = some (.string ⟨xi.toArray⟩) ∧ w8.cell? ⟨q, 1, none⟩ = some (.int .i64 xk) ∧ w8.cell? ⟨q, 2, none⟩ = some (.string ⟨xd.toArray⟩)) := zh ⟨hcp, hcq⟩
    have hpl8 : p < w8.heap.size := by have := Hpz.out.2; have := hB8.size; omega
    have CS9 : Hid (w9.cell? ⟨p, 4, none⟩ = some (.map (some H)) ∧ w9.cell? ⟨q, 0, none⟩ = some (.string ⟨xi.toArray⟩) ∧ w9.cell? ⟨q, 1, none⟩ = some (.int .i64 xk) ∧ w9.cell? ⟨q, 2, none⟩ = some (.string ⟨xd.toArray⟩)) := Lib.hid
     ⟨hc9 p 4 _ (by have := Hpz.out.1; omega) hpl8 hcp, hc9 q 0 _ (by omega) (lt_heap k8) hcq.1, hc9 q 1 _ (by omega) (lt_heap k8) hcq.2.1, hc9 q 2 _ (by omega) (lt_heap k8) hcq.2.2⟩
    have HS9 : Hid (WoS l r 0 p M F H (.slice A n c) w7 (.slice (some ⟨g, o, none⟩) nr c7) (k + 1) w9) := zh ⟨hB9, by rw [hsn]; exact hM9⟩
    have HRun := zh hrun; have HW8 := zh hw8; have Hqq := zh hq
    have hltI : (k : Int) < (nr : Int) := by omega
    have hkb : k < 100000 := by have := HnrL.out; omega
    clear hRr hid hsn hx hw8 b8 k8 hM8 hB8 hcp hqH hcq hrun hM9 hg9 hB9 hc9 hpl8 hq hS hkr hg
    go_upto_region 6 with fail
    rw [← Hqq.out, ← HW8.out]
    clear p0 p1 p2 HW8 Hqq
    refine held_start (fun W => W.cell? ⟨p, 4, none⟩ = some (.map (some H)) ∧ W.cell? ⟨q, 0, none⟩ = some (.string ⟨xi.toArray⟩) ∧ W.cell? ⟨q, 1, none⟩ = some (.int .i64 xk) ∧ W.cell? ⟨q, 2, none⟩ = some (.string ⟨xd.toArray⟩)) (by kernel_rfl) ?_
    refine z07 0 (.pointer (some ⟨p, 0, none⟩)) rfl (fun W hW => zlk rfl (by kernel_rfl)) CS.out ?_
    refine z07 1 (.pointer (some ⟨p, 0, none⟩)) rfl (fun W hW => y_nil (b := ⟨p, 0, none⟩) rfl (by kernel_rfl)) CS.out ?_
    refine z07 2 (.pointer (some ⟨p, 4, none⟩)) rfl (fun W hW => z0f rfl (by kernel_rfl) (fld_w4 W p)) CS.out ?_
    refine z07 3 (.map (some H)) rfl (fun W hW => z0a rfl (by kernel_rfl) (load_m hW.1)) CS.out ?_
    refine z07 4 (.pointer (some ⟨q, 0, none⟩)) rfl (fun W hW => z0f rfl (by kernel_rfl) (fld_h0 W q)) CS.out ?_
    refine z07 5 (.string ⟨xi.toArray⟩) rfl (fun W hW => z0a rfl (by kernel_rfl) (load_s hW.2.1)) CS.out ?_
    refine z07 6 (.pointer (some ⟨q, 1, none⟩)) rfl (fun W hW => z0f rfl (by kernel_rfl) (fld_h1 W q)) CS.out ?_
    refine z07 7 (.agg #[.int .i64 xk, .string ⟨xd.toArray⟩]) rfl (fun W hW => z0a rfl (by kernel_rfl) (load_ob hW.2.2.1 hW.2.2.2)) CS.out ?_
    refine z07 8 (.agg #[.bool true, .int .i64 xk, .string ⟨xd.toArray⟩, .int .i64 0]) rfl (fun W hW => y_bldM (ps := #[(0, .bool true), (1, .agg #[.int .i64 xk, .string ⟨xd.toArray⟩])]) rfl (by kernel_rfl) (bld_md W xk xd)) CS.out ?_
    refine held_one (i := 9) (by kernel_rfl) (z3u w9 rfl (by kernel_rfl) (y_put (mv := .map (some H)) (xv := .string ⟨xi.toArray⟩) (vv := .agg #[.bool true, .int .i64 xk, .string ⟨xd.toArray⟩, .int .i64 0]) rfl (by kernel_rfl) (by kernel_rfl) (by kernel_rfl) HRun.out) CS9.out ?_)
    refine wpAnyH_done (by kernel_rfl) ?_ _
    clear HRun CS CS9
    go_wp2_with fail
    go_roundw
    case rel => exact ⟨k + 1, hlt, by go_num, HS9⟩
    case measure => simp [intOf]; omega
  · obtain rfl : k = nr := by omega
    have hltI : ¬ (k : Int) < (k : Int) := by omega
    have hW9 : Wk l hv w.heap.size p M F H (.slice A n c) (z1c l) wr := by
     have hs := HW7.out.sz
     have h1 := HW7.out
     have hb := hS.out.but
     have hbD : Dl.But (fun q => q = H) w7 wr := ⟨hb.os, hb.tape, hb.output, hb.size, hb.block⟩
     refine ⟨(hb.block p (lt_heap h1.k) (by show ¬ p = H; omega)).trans h1.k, h1.m.but hbD (by show ¬ M = H; omega), zbr h1.el hbD (fun h0 q hq => by have := h1.ow h0 q hq; show ¬ q = H; omega), h1.len, fun ha => ?_, ⟨k, z7a r, ?_, fun x hx => ?_⟩, h1.sz, h1.ow⟩
     · obtain ⟨n2, hn2, hm⟩ := h1.f ha
       exact ⟨n2, hn2, hm.but hb (by show ¬ F = H; omega)⟩
     · have := hS.out.map
       rwa [Hnr.out, List.take_length, ← Hnr.out] at this
     · have hp := Hset.out
       rw [Hpk.out] at hp
       unfold z7a
       rw [znk hp hx]
    have hBf : Below w.heap.size w wr := HB7.out.trans (hS.out.but.below (fun q _ e => by rw [e]; exact HZb.out) HB7.out.size)
    have HF : Hid (WoH l hv (.slice A n c) w (.returned (.pointer (some ⟨p, 0, none⟩))) wr) := zh ⟨p, M, F, H, rfl, hW9, hBf⟩
    clear hW9 hBf hS
    go_wp2_with fail
    go_ret
    exact HF.out
theorem znm (W : World) (x y : Nat) (b : Bool) (h : decide (y ≤ x) = b) : (binOp .geq 3 (.int .i64 (x : Int)) (.int .i64 (y : Int))).run Tryz.prog W = .ok (.bool b) W := by
 cases b with
 | true =>
   have h1 : (y : Int) ≤ (x : Int) := by have := of_decide_eq_true h; omega
   simp [go_sem]; omega
 | false =>
   have h1 : ¬ (y : Int) ≤ (x : Int) := by have := of_decide_eq_false h; omega
   simp [go_sem]; omega
theorem zh9 (W : World) (x y : Int) (b : Bool) (h : (x != y) = b) : (binOp .neq 3 (.int .i64 x) (.int .i64 y)).run Tryz.prog W = .ok (.bool b) W := by
 subst h
 by_cases e : x = y
 · subst e; simp [go_sem]
 · simp [go_sem]
theorem znn (W : World) (x y : Int) (b : Bool) (h : (x == y) = b) : (binOp .eql 3 (.int .i64 x) (.int .i64 y)).run Tryz.prog W = .ok (.bool b) W := by
 subst h
 by_cases e : x = y
 · subst e; simp [go_sem]
 · simp [go_sem]
theorem eql_no (W : World) (x : Int) : (binOp .eql 26 (.int .i64 x) (.int .i64 x)).run Tryz.prog W = .ok (.bool true) W := by simp [go_sem]
theorem sub_nn (W : World) (x y d : Nat) (h : x = y + d) (h2 : x ≤ 1000000) : (binOp .sub 3 (.int .i64 (x : Int)) (.int .i64 (y : Int))).run Tryz.prog W = .ok (.int .i64 (d : Int)) W := by
 subst h
 have h3 : ((y + d : Nat) : Int) - (y : Int) = (d : Int) := by omega
 have e : IntKind.i64.wrap (((y + d : Nat) : Int) - (y : Int)) = (d : Int) := by rw [h3]; exact IntWalk.i64_in _ (by omega)
 simp only [go_sem, e]
 rfl
theorem add_n1 (W : World) (x : Nat) (h2 : x ≤ 1000000) : (binOp .add 3 (.int .i64 (x : Int)) (.int .i64 1)).run Tryz.prog W = .ok (.int .i64 ((x + 1 : Nat) : Int)) W := by
 have e : IntKind.i64.wrap ((x : Int) + 1) = (x : Int) + 1 := IntWalk.i64_in _ (by omega)
 simp [go_sem, e]
theorem l_S2 {W : World} {g o : Nat} {s : Bs} (h : W.cell? ⟨g, o + 2, none⟩ = some (.string ⟨s.toArray⟩)) : (Instr.loadAt 9 (.pointer (some ⟨g, o + 1 + 1, none⟩))).run Tryz.prog W = .ok (.string ⟨s.toArray⟩) W := by
 simp [go_sem, h]
theorem l_S0 {W : World} {g o : Nat} {s : Bs} (h : W.cell? ⟨g, o, none⟩ = some (.string ⟨s.toArray⟩)) : (Instr.loadAt 9 (.pointer (some ⟨g, o, none⟩))).run Tryz.prog W = .ok (.string ⟨s.toArray⟩) W := by simp [go_sem, h]
theorem l_E {W : World} {p : Nat} {a b : Int} {s d : Bs} (h : W.heap[p]? = some (.cells #[.int .i64 a, .int .i64 b, .string ⟨s.toArray⟩, .string ⟨d.toArray⟩] 51 (0, 0))) : (Instr.loadAt 51 (.pointer (some ⟨p, 0, none⟩))).run Tryz.prog W = .ok (.agg #[.int .i64 a, .int .i64 b, .string ⟨s.toArray⟩, .string ⟨d.toArray⟩]) W := by
 obtain ⟨c0, c1, c2, c3⟩ := cells4 h
 simp [go_sem, c0, c1, c2, c3]
theorem fe_3 (W : World) (b _o : Nat) : (Instr.fieldAt 51 (.pointer (some ⟨b, 0, none⟩)) 3).run Tryz.prog W = .ok (.pointer (some ⟨b, 3, none⟩)) W := by simp [go_sem]
theorem eq_ob (W : World) (k : Int) (d : ByteArray) : (binOp .eql 37 (.agg #[.int .i64 k, .string d]) (.agg #[.int .i64 k, .string d])).run Tryz.prog W = .ok (.bool true) W := by simp [go_sem]
theorem grd_eq (W : World) (x y : Operand) (k : Int) (d : ByteArray) : (eqGuard .eql 37 x y (.agg #[.int .i64 k, .string d]) (.agg #[.int .i64 k, .string d])).run Tryz.prog W = .ok () W := by simp [eqGuard, go_sem]
theorem at_oz (W : World) (g n c : Nat) (hn : 0 < n) : (Instr.indexAt 35 (.slice (some ⟨g, 0, none⟩) n c) (.int .i64 0)).run Tryz.prog W = .ok (.pointer (some ⟨g, 0, none⟩)) W := by
 have h1 : n ≠ 0 := by omega
 simp [go_sem, h1]
theorem al_e (W : World) : (Instr.alloc 51 true (.tuple #[])).run Tryz.prog W = .ok (.pointer (some ⟨W.heap.size, 0, none⟩)) (W.alloc (entO z0n)) := by kernel_rfl
theorem bl_6 (W : World) (b : Int) (d : Bs) : (Instr.build 51 #[(0, .int .i64 6), (1, .int .i64 b), (3, .string ⟨d.toArray⟩)]).run Tryz.prog W = .ok (.agg #[.int .i64 6, .int .i64 b, .string ⟨#[]⟩, .string ⟨d.toArray⟩]) W := by kernel_rfl
theorem bl_7 (W : World) (s d : Bs) : (Instr.build 51 #[(0, .int .i64 7), (2, .string ⟨s.toArray⟩), (3, .string ⟨d.toArray⟩)]).run Tryz.prog W = .ok (.agg #[.int .i64 7, .int .i64 0, .string ⟨s.toArray⟩, .string ⟨d.toArray⟩]) W := by kernel_rfl
theorem bs_0 (W : World) : (Instr.buildSlice 22 0 #[]).run Tryz.prog W = .ok (.slice (some ⟨W.heap.size, 0, none⟩) 0 0) (W.alloc (.cells #[] 51)) := by simp [go_sem]
theorem bs_1 (W : World) (k b : Int) (s d : Bs) : (Instr.buildSlice 22 1 #[(0, .agg #[.int .i64 k, .int .i64 b, .string ⟨s.toArray⟩, .string ⟨d.toArray⟩])]).run Tryz.prog W = .ok (.slice (some ⟨W.heap.size, 0, none⟩) 1 1) (W.alloc (.cells #[.int .i64 k, .int .i64 b, .string ⟨s.toArray⟩, .string ⟨d.toArray⟩] 51)) := by simp [go_sem]
theorem zno {W : World} {p : Nat} {a0 a1 b0 b1 : Int} {s0 s1 d0 d1 : Bs} (hk : W.heap[p]? = some (.cells #[.int .i64 a0, .int .i64 b0, .string ⟨s0.toArray⟩, .string ⟨d0.toArray⟩] 51 (0, 0))) :
 ∃ W', (Instr.storeAt 51 (.pointer (some ⟨p, 0, none⟩)) (.agg #[.int .i64 a1, .int .i64 b1, .string ⟨s1.toArray⟩, .string ⟨d1.toArray⟩])).run Tryz.prog W = .ok () W' ∧ W'.heap[p]? = some (.cells #[.int .i64 a1, .int .i64 b1, .string ⟨s1.toArray⟩, .string ⟨d1.toArray⟩] 51 (0, 0)) ∧ Dl.But (fun k => k = p) W W' := by
 obtain ⟨c0, c1, c2, c3⟩ := cells4 hk
 have f0 := z05 hk 0; have f1 := z05 hk 1; have f2 := z05 hk 2; have f3 := z05 hk 3
 refine ⟨(((W.setCell ⟨p, 0, none⟩ (.int .i64 a1)).setCell ⟨p, 1, none⟩ (.int .i64 b1)).setCell ⟨p, 2, none⟩ (.string ⟨s1.toArray⟩)).setCell ⟨p, 3, none⟩ (.string ⟨d1.toArray⟩), ?_, (blk_setCell (blk_setCell (blk_setCell (blk_setCell hk _) _) _) _).trans rfl, ?_⟩
 · simp [go_sem, c0, c1, c2, c3, f0, f1, f2, f3]
 · exact ((((but_setCell W p 0 _).trans (but_setCell _ p 1 _)).trans (but_setCell _ p 2 _)).trans (but_setCell _ p 3 _))
theorem size_e (W : World) : (sizeOf 51).run Tryz.prog W = .ok 4 W := by kernel_rfl
theorem cutE_to {w : World} {A : Option Addr} {n c : Nat} {l : List Ent} (h : EntsR w (.slice A n c) l) (hn : n = l.length) (m : Nat) (hm : m ≤ n) : (∀ W, (Instr.sliceAt 22 (.slice A n c) none (some (.int .i64 (m : Int))) none).run Tryz.prog W = .ok (.slice A m c) W) ∧ EntsR w (.slice A m c) (l.take m) := by
 subst hn
 rcases h with ⟨⟨A', c', e⟩, rfl⟩ | ⟨g, o, c', e, hc, hg, hcell⟩
 · cases e
   obtain rfl : m = 0 := by simpa using hm
   exact ⟨fun W => by cases A <;> simp [go_sem], .inl ⟨⟨_, _, rfl⟩, by simp⟩⟩
 · cases e
   have h1 : (m : Int) ≤ (c : Int) := by omega
   have hl : (l.take m).length = m := by rw [List.length_take]; omega
   refine ⟨fun W => by simp [go_sem, h1], .inr ⟨g, o, c, by rw [hl], by omega, hg, fun j hj x hx i hi => ?_⟩⟩
   rw [hl] at hj
   rw [List.getElem?_take_of_lt hj] at hx
   exact hcell j (by omega) x hx i hi
theorem znp {w : World} {A : Option Addr} {n c : Nat} {l : List Ent} (h : EntsR w (.slice A n c) l) (hn : n = l.length) (m : Nat) (hm : m ≤ n) : ∃ A1 c1, (∀ W, (Instr.sliceAt 22 (.slice A n c) (some (.int .i64 (m : Int))) none none).run Tryz.prog W = .ok (.slice A1 (n - m) c1) W) ∧ ∀ W, Below w.heap.size w W → EntsR W (.slice A1 (n - m) c1) (l.drop m) := by
 have he : Tryz.prog.elem 22 = 51 := by kernel_rfl
 have hu : Tryz.prog.underlying 22 = some (.slice (Tryz.prog.elem 22)) := by rw [he]; exact Tryz.underlying22
 refine ⟨if c = m then A else A.map (·.add (m * 4)), c - m, fun W => ?_, fun W hW => ?_⟩
 · rw [run_sliceAt_slice W _ _ _ _ _ hu]
   refine (run_slice_l W _ _ _ _ hu .i64 (m : Int) (by omega) (by omega)).trans ?_
   rw [he, size_e]
   simp only [Result.andThen, sliced, Int.toNat_natCast]
 · refine RdK.below ?_ hW zl
   subst hn
   have hl : (l.drop m).length = l.length - m := List.length_drop
   rcases Nat.eq_or_lt_of_le hm with e | hlt
   · subst e
     exact .inl ⟨⟨_, _, by rw [Nat.sub_self]⟩, by simp⟩
   rcases h with ⟨⟨A', c', e⟩, rfl⟩ | ⟨g, o, c', e, hc, hg, hcell⟩
   · simp at hlt
   · cases e
     rw [if_neg (by omega)]
     refine .inr ⟨g, o + m * 4, c - m, by rw [hl]; simp [Addr.add], by omega, hg, fun j hj x hx i hi => ?_⟩
     rw [hl] at hj
     rw [List.getElem?_drop] at hx
     have e : o + m * 4 + j * 4 + i = o + (m + j) * 4 + i := by rw [Nat.add_mul]; omega
     rw [e]
     exact hcell (m + j) (by omega) x hx i hi
def LitD (W : World) (g : Nat) (x : Ent) : Prop := ∀ j u, (([x] : List Ent).flatMap entC)[j]? = some u → W.cell? ((⟨g, 0, none⟩ : Addr).add j) = some u
theorem lit_d (W : World) (k b : Int) (s d : Bs) : LitD (W.alloc (.cells #[.int .i64 k, .int .i64 b, .string ⟨s.toArray⟩, .string ⟨d.toArray⟩] 51)) W.heap.size ⟨k, b, s, d⟩ := fun j u hj => by
 rw [z6b, Nat.zero_add, cell_of_row (W.alloc _) W.heap.size j _ _ _ (heap_alloc_new W _)]
 simpa [entC, SV] using hj
theorem LitD.block {W W' : World} {g : Nat} {x : Ent} (h : LitD W g x) (hb : W'.heap[g]? = W.heap[g]?) : LitD W' g x := fun j u hj => by
 have h1 := h j u hj
 rw [z6b] at h1 ⊢
 rw [← h1]
 exact World.cell?_of_block (w := W) (a := ⟨g, 0 + j, none⟩) hb
theorem app3 {w w0 : World} {B B0 : Nat} {v1 rv : Value} {L1 L2 : List Ent} {g : Nat} {x : Ent} (o1 : NewE B w v1 L1) (k2 : LitD w g x) (hr : ∀ W, Below B0 w0 W → EntsR W rv L2) (hP : Below B0 w0 w) (hB0 : B0 ≤ B) (hB : B ≤ w.heap.size) (hl : L1.length + 1 + L2.length ≤ 1000) (ty ty' : TypeId) :
 ∃ v3 w3 v4 w4, (Builtin.append_ #[22, 22] ty #[v1, .slice (some ⟨g, 0, none⟩) 1 1]).run Tryz.prog w = .ok v3 w3 ∧ (Builtin.append_ #[22, 22] ty' #[v3, rv]).run Tryz.prog w3 = .ok v4 w4 ∧ NewE B w4 v4 (L1 ++ [x] ++ L2) ∧ Below B w w3 ∧ Below B w3 w4 := by
 obtain ⟨v3, w3, g3, o3, b3, -⟩ := run_appK entK o1 ⟨g, 0, none⟩ 1 1 (m := [x]) rfl k2 (by simp; omega) (by decide) hB ty
 have hP3 := hP.trans (b3.mono hB0)
 obtain ⟨v4, w4, g4, o4, b4, -⟩ := z9c entK o3 (hr w3 hP3) (by simp; omega) (by decide) (Nat.le_trans hB b3.size) ty'
 exact ⟨v3, w3, v4, w4, g3, g4, o4, b3, b4⟩
theorem sort_few {l : List Hld} (hl : l.length < 20) (B : Nat) (v : Value) (w : World) (h : NewH B w v l) : z6n B l v w := by
 cases l with
 | nil => exact zas B v w h
 | cons a t =>
   obtain ⟨g, c, rfl, -⟩ := zb2 (k := 3) (f := z0v) (fun _ => rfl) h (by simp)
   exact zar h hl
theorem pick_one {s : List Hld} (hr : s.Pairwise fun x y => x.id < y.id) (x : Bs) : (z3p s [x]).length ≤ 1 := by
 have h1 : (z3p s [x]).Pairwise fun x y => x.id < y.id := hr.sublist List.filter_sublist
 have h2 : ∀ h ∈ z3p s [x], h.id = x := fun h hh => by
  have := (List.mem_filter.1 hh).2
  simpa using this
 match hp : z3p s [x] with
 | [] => simp
 | [_] => simp
 | a :: b :: t =>
   rw [hp] at h1 h2
   have e1 := h2 a (by simp)
   have e2 := h2 b (by simp)
   have := (List.pairwise_cons.1 h1).1 b (by simp)
   rw [e1, e2] at this
   exact absurd this (z4h _)
theorem znq (l : List (Int × Bs)) : (setL l).length ≤ l.length := by
 unfold setL
 induction l with
 | nil => exact Nat.le_refl _
 | cons x l ih =>
   rw [List.flatMap_cons, List.length_append, List.length_cons]
   by_cases e : idL x.1 x.2 = []
   · rw [if_pos e, List.length_nil]; omega
   · rw [if_neg e, List.length_singleton]; omega
theorem ze0 {s : List Hld} {i k : Nat} (h : DelF s i k) (named : Bool) : ∀ e ∈ z3m s i (z1v s i k named), e.data.length ≤ 10000 ∧ e.base.length ≤ 1000000 := fun e he => by
 obtain ⟨j, hj, rfl⟩ := List.mem_iff_getElem.1 he
 have hj' := hj
 rw [z2l h.hi] at hj'
 have h1 := z9j h.hi (z1v s i k named) hj'
 rw [getD_lt hj] at h1
 have hki := h.lt
 have hi := h.hi
 rw [h1]
 by_cases e : j = i
 · rw [if_pos e]
   have hd := z5g (s.getD k noHld).data (s.getD i noHld).data (h.small _ (z0e (by omega))) (h.small _ (z0e (by omega)))
   have hn := named_len (z6p (h.fine _ (z0e (l := s) (k := k) (by omega))))
   refine ⟨by show (Dl.makeL _ _).length ≤ 10000; omega, ?_⟩
   unfold z1v
   cases named with
   | true => show ((s.getD k noHld).id).length ≤ 1000000; omega
   | false => simp
 · rw [if_neg e]
   have := h.small _ (z0e hj')
   exact ⟨by show (s.getD j noHld).data.length ≤ 10000; omega, by simp [entH]⟩
theorem ziz {s : List Hld} {i k : Nat} (h : DelF s i k) (named : Bool) : Smal (z3m s i (z1v s i k named)) ∧ ∀ e ∈ z3m s i (z1v s i k named), e.data.length ≤ 10000 :=
 ⟨⟨by rw [z2l h.hi]; have := h.len; omega, fun e he => by have := ze0 h named e he; omega⟩, fun e he => (ze0 h named e he).1⟩
end Go.Proofs.YtgjddkeogboojaaGreatDoor.Pk
