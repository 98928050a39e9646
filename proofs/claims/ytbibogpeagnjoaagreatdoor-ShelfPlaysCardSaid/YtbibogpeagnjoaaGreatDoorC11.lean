/-
  The document's put: the walk.
  ShelfMoves: its walk.
  Steps of a region that draws its order: reads that stay as they are are taken first; the rest comes up alone.
  The document's played, power, did.
-/
import Derived.Laws.AppendOwnNone
import Derived.Laws.OwnMore
import Derived.Test.YtbibogpeagnjoaaGreatDoorC10
import Derived.Test.YtbibogpeagnjoaaGreatDoorC09
import Derived.OrdersHeld
import Derived.Deep.RegionHeld

namespace Go.Proofs.YtbibogpeagnjoaaGreatDoor
open Go Go.RowKit Go.Maps Go.Sort Go.Shelf Go.Deep

theorem less_bf : ∀ (a b : List UInt8), Op.bytesLess a b = bytesBefore a b
  | [], [] => rfl
  | [], _ :: _ => rfl
  | _ :: _, [] => rfl
  | x :: a, y :: b => by rw [Op.bytesLess, bytesBefore, less_bf a b]
theorem ge_strB (W : World) (x y : List UInt8) (r : Bool) (h : (!Op.bytesLess x y) = r) : (binOp .geq 9 (.string ⟨x.toArray⟩) (.string ⟨y.toArray⟩)).run Tryz.prog W = .ok (.bool r) W := by
  subst h
  show (Op.stringOp .geq ⟨x.toArray⟩ ⟨y.toArray⟩).run Tryz.prog W = _
  simp [go_sem, Op.stringOp]

theorem own_shape {w wr : World} {B : Nat} {t : Tb} {l : Value} (h : OwnRel w B t l wr) : ∃ al nl cl, l = .slice al nl cl := by
  obtain ⟨_, vs, hvs, _⟩ := h
  rcases hvs.2 with ⟨r, _⟩ | ⟨gg, cap, cur, r, _⟩
  · exact ⟨_, _, _, r⟩
  · exact ⟨_, _, _, r⟩
def putE (p b : By) (t : Tb) : Tb := if (putF p b t).2 = true then (putF p b t).1 else (putF p b t).1 ++ [(p, b)]
theorem two_of {w : World} {n : Nat} {u v : Value} {ty : TypeId} {fr : Nat × Nat} (h : w.heap[n]? = some (.cells #[u, v] ty fr)) : w.cell? ⟨n, 0, none⟩ = some u ∧ w.cell? ⟨n, 1, none⟩ = some v := by
  constructor <;> simp [World.cell?, h]
theorem l_two (W : World) (n : Nat) (p : ByteArray) (x : Option Addr) (m c : Nat) (h0 : W.cell? ⟨n, 0, none⟩ = some (.string p)) (h1 : W.cell? ⟨n, 1, none⟩ = some (.slice x m c)) : (Instr.loadAt 52 (.pointer (some ⟨n, 0, none⟩))).run Tryz.prog W = .ok (.agg #[.string p, .slice x m c]) W := by
  go_simp
theorem own_end {w wx wr : World} {B : Nat} {t : Tb} {l : Value} (h : OwnRel wx B t l wr) (hB : Below w.heap.size w wx) (hb : B ≤ w.heap.size) : FilesIn wr B l t ∧ Below w.heap.size w wr := by
  obtain ⟨h1, vs, h2, h3⟩ := h
  exact ⟨⟨vs, row_mono h2 (Nat.le_trans hb hB.size), h3⟩, below_two hB h1⟩
theorem putS_len {p b : By} {o : Tb × Bool} {q : By × By} {k : Nat} (h : o.1.length ≤ 2 * k) : (putS p b o q).1.length ≤ 2 * (k + 1) := by
  have h1 : (if (!o.2 && !bytesBefore q.1 p) = true then (o.1 ++ [(p, b)], true) else o).1.length ≤ o.1.length + 1 := by
    split
    · simp
    · omega
  unfold putS
  simp only
  split
  · omega
  · rw [List.length_append]; simp only [List.length_cons, List.length_nil]; omega

theorem bv_one (l : By) : ∀ u ∈ l.map bv, u.oneCell' = true := by
  intro u hu
  obtain ⟨b, _, rfl⟩ := List.mem_map.1 hu
  rfl
/-- 'append(x, y...)' of bytes, onto a slice of one's own. -/
theorem run_appB {w : World} {base : Nat} {v sv : Value} {l m : By} (h : RowIn w base v l) (hs : BytesAt w sv m) (hl : l.length + m.length ≤ 140737488355328) (hb : base ≤ w.heap.size) (ty : TypeId) :
    ∃ v' w', (Builtin.append_ #[31, 31] ty #[v, sv]).run Tryz.prog w = .ok v' w' ∧ RowIn w' base v' (l ++ m) ∧ Below base w w' := by
  obtain ⟨i, hi, hz0, hz1, hz2⟩ := info_parts infoByte
  rcases hs with ⟨rfl, rfl⟩ | ⟨a, c, rfl, hc⟩
  · exact ⟨v, w, run_append_owned_none (P := Tryz.prog) (w := w) base 31 ty 5 i 1 Tryz.underlying31 hi v l.length (l.map bv) h, by rw [List.append_nil]; exact h, Below.refl _ _⟩
  · obtain ⟨v', w', h1, h2, h3, _⟩ := run_append_own (P := Tryz.prog) w base 31 ty 5 i (.int .u8 0) 1 1 Tryz.underlying31 hi hz0 hz1 hz2 rfl (by omega) v l.length (l.map bv) h a m.length c (m.map bv) (by simp) (fun j u hj => by
      have hjn : j < m.length := by
        have := (List.getElem?_eq_some_iff.1 hj).1
        simpa using this
      have e := hc j hjn
      rw [List.getElem?_map] at hj
      rw [hj] at e
      exact e) (bv_one m) (by unfold maxLen; omega) (by omega) hb
    refine ⟨v', w', h1, by unfold RowIn; rw [List.length_append, List.map_append]; exact h2, ⟨h3.os, h3.tape, h3.output, h3.size, fun k hk => h3.block k (by omega) ?_⟩⟩
    intro e
    have := (h.lt k e.symm).1
    omega
theorem wpList_appB {ops : Array Oper} {rest : List Oper} {o : Oper} {a : Go.Act} {w : World} {Q : Exit → Go.Act → World → Prop} (hgd : o.guard = none) (s x : Operand)
    (ho : o.op = .call { callee := .builtin .append, args := #[s, x], argTypes := #[31, 31] }) (base : Nat) (v sv : Value) (l m : By) (hs : a.eval s = v) (hx : a.eval x = sv)
    (h : RowIn w base v l) (hr : BytesAt w sv m) (hl : l.length + m.length ≤ 140737488355328) (hb : base ≤ w.heap.size)
    (k : ∀ v' w', RowIn w' base v' (l ++ m) → Below base w w' → wpList Tryz.prog ops Q rest (a.put o.dst v') w') : wpList Tryz.prog ops Q (o :: rest) a w := by
  refine wpList_plain hgd fun K hK => ?_
  obtain ⟨v', w', h1, h2, h3⟩ := run_appB h hr hl hb o.type
  unfold Oper.wp
  simp [execOp, ho, resolve, invoke, builtin, hs, hx, h1, Result.andThen]
  exact hK _ _ (k v' w' h2 h3)
theorem row_new (w : World) (base : Nat) (hb : base ≤ w.heap.size) : RowIn (w.alloc (.cells #[] 5)) base (.slice (some ⟨w.heap.size, 0, none⟩) 0 0) [] :=
  World.ownsRow_made w #[] 0 hb (Nat.zero_le _) rfl

set_option maxHeartbeats 8000000 in
set_option maxRecDepth 100000 in
theorem Put_raw {w : World} {B : Nat} {v bw : Value} {t : Tb} (h : FilesIn w B v t) (hBw : B ≤ w.heap.size) (hl : t.length ≤ 1000000) (p : By) {b : By} (hb : b.length ≤ 140737488355328) (hc : BytesAt w bw b) :
    Calls Tryz.prog 37 #[v, S p, bw] w fun e w' => ∃ v', e = .returned v' ∧ FilesIn w' B v' (putE p b t) ∧ Below w.heap.size w w' := by
  obtain ⟨aa, ac, rfl⟩ := h.slice
  have Hf := Lib.hid h
  have Hc := Lib.hid hc
  obtain ⟨a, c, rfl⟩ := hc.slice
  clear h hc
  unfold S
  go_enter Tryz.func37, Tryz.ntmps37
  go_wp2_with (at_builtin; refine wpList_appB rfl _ _ rfl w.heap.size _ _ [] b rfl rfl (row_new w _ (Nat.le_refl _)) (Hc.out.below (below_alloc w _)) (by simpa using hb) (by simp) ?_)
  intro dv w1 hd hB0
  have hB1 : Below w.heap.size w w1 := (below_alloc w _).trans hB0
  obtain ⟨da, dc, rfl⟩ := hd.shape
  have Hd := Lib.hid hd; have HB1 := Lib.hid hB1
  clear hd hB1 hB0
  go_wp2_with fail
  obtain ⟨wx, hwx⟩ : ∃ wx, wx = w1.alloc (.cells #[.string ⟨p.toArray⟩, .slice da b.length dc] 52) := ⟨_, rfl⟩
  have HX : Hid (wx.heap[w1.heap.size]? = some (.cells #[.string ⟨p.toArray⟩, .slice da b.length dc] 52)) := Lib.hid (by rw [hwx]; exact heap_alloc_new w1 _)
  have HBX : Hid (Below w.heap.size w wx) := Lib.hid (by rw [hwx]; exact below_two HB1.out (below_alloc _ _))
  have HDX : Hid (RowIn wx B (.slice da b.length dc) b) := Lib.hid (by rw [hwx]; exact RowIn.keep (base := B) (row_mono Hd.out hBw) (K.of_new (base := 0) (below_alloc w1 _) (Nat.zero_le _)))
  have HF := Lib.hid (Hf.out.keep (K.of_new (base := 0) HBX.out (Nat.zero_le _)))
  have HX2 : Hid (∀ W, Below wx.heap.size wx W → W.cell? ⟨w1.heap.size, 0, none⟩ = some (.string ⟨p.toArray⟩) ∧ W.cell? ⟨w1.heap.size, 1, none⟩ = some (.slice da b.length dc)) := Lib.hid fun W h => ⟨cell_below' h (two_of HX.out).1, cell_below' h (two_of HX.out).2⟩
  have hxs : w1.heap.size < wx.heap.size := by rw [hwx]; simp
  rw [← hwx]
  clear hwx
  go_loopw [7, 8, 10] (fun ov dv iv wr => ∃ (k : Nat), k ≤ t.length ∧ iv = .int .i64 k ∧ dv = .bool (putF p b (t.take k)).2 ∧ Hid ((putF p b (t.take k)).1.length ≤ 2 * k) ∧ Hid (OwnRel wx B (putF p b (t.take k)).1 ov wr)) (fun _ _ iv _ => t.length - (intOf iv).toNat)
  case atStart => exact ⟨0, Nat.zero_le _, rfl, rfl, Lib.hid (Nat.le_refl _), Lib.hid ⟨Below.refl _ _, [], World.ownsRow_nil _ _ _ _, trivial⟩⟩
  case round =>
    obtain ⟨k, hk, rfl, rfl, hln, hrel⟩ := hrel
    by_cases hlt : k < t.length
    · obtain ⟨⟨qp, qb⟩, hq⟩ : ∃ q, t[k]? = some q := ⟨_, List.getElem?_eq_getElem hlt⟩
      have hsn := putF_snoc (p := p) (b := b) hq
      have hB := hrel.out.1
      obtain ⟨g, qcc, hv, dv, c0x, c1x, hrwx⟩ := HF.out.at hq
      cases hv
      obtain ⟨qa, qc, rfl⟩ := hrwx.shape
      unfold S at c0x
      have HC : Hid (∀ W, Below wx.heap.size wx W → W.cell? ⟨g, k * 2, none⟩ = some (.string ⟨qp.toArray⟩) ∧ W.cell? ⟨g, k * 2 + 1, none⟩ = some (.slice qa qb.length qc) ∧ RowIn W B (.slice qa qb.length qc) qb ∧ RowIn W B (.slice da b.length dc) b) :=
        Lib.hid fun W h => ⟨cell_below' h c0x, cell_below' h c1x, hrwx.keep (K.of_new (base := 0) h (Nat.zero_le _)), HDX.out.keep (K.of_new (base := 0) h (Nat.zero_le _))⟩
      obtain ⟨c0, c1, hrw, hdr⟩ := HC.out _ hB
      obtain ⟨x0, x1⟩ := HX2.out _ hB
      clear c0x c1x hrwx
      have HDr := Lib.hid hdr
      obtain ⟨al, nl, cl, rfl⟩ := own_shape hrel.out
      obtain ⟨⟨o1, od⟩, ho⟩ : ∃ o, o = putF p b (t.take k) := ⟨_, rfl⟩
      rw [← ho] at hsn hln hrel
      rw [← ho]
      have Hsn := Lib.hid hsn; have HRw := Lib.hid hrw; have H3 := hrel; have Hln := hln
      have hol : o1.length ≤ 2 * k := hln.out
      clear hsn hB hrw hq ho hln hrel hdr
      cases od with
      | true =>
        cases he : (qp == p) with
        | true =>
          have b4 : (qp != p) = false := by unfold bne; rw [he]; rfl
          have Hst : Hid (putS p b (o1, true) (qp, qb) = (o1, true)) := Lib.hid (by unfold putS; simp [he])
          go_wp2_with fail
          go_roundw
          case rel => exact ⟨k + 1, hlt, by go_num, by rw [Hsn.out, Hst.out], Lib.hid (by rw [Hsn.out]; exact putS_len Hln.out), Lib.hid (by rw [Hsn.out, Hst.out]; exact H3.out)⟩
          case measure => simp [intOf]; omega
        | false =>
          have b4 : (qp != p) = true := by unfold bne; rw [he]; rfl
          have Hst : Hid (putS p b (o1, true) (qp, qb) = (o1 ++ [(qp, qb)], true)) := Lib.hid (by unfold putS; simp [he])
          obtain ⟨hB_2, vs_2, hvs_2, hfs_2⟩ := H3.out
          have Hvs_2 := Lib.hid hvs_2; have Hfs_2 := Lib.hid hfs_2; have HB_2 := Lib.hid hB_2
          obtain ⟨i2, hi2, hz02, hz12, hz22⟩ := info_parts infoFile
          have hnw_2 := heap_alloc_new wr (.cells #[.string ⟨qp.toArray⟩, .slice qa qb.length qc] 52)
          have Hnw_2 := Lib.hid hnw_2
          have hszw_2 := hB_2.size
          clear hnw_2 hfs_2 hB_2
          go_wp2_with (at_builtin; refine wpList_append_own _ rfl _ _ 22 rfl wx.heap.size 52 i2 _ 2 40 Tryz.underlying22 hi2 hz02 hz12 hz22 rfl (by decide) _ _ _ rfl (hvs_2.alloc _) ⟨wr.heap.size, 0, none⟩ 1 1 [.string ⟨qp.toArray⟩, .slice qa qb.length qc] rfl rfl ?m11 ?m12 ?m13 ?m14 ?m15 ?_)
          case m12 => first | exact ⟨rfl, rfl⟩ | simp [Value.oneCell']
          case m13 => unfold maxLen; omega
          case m14 => omega
          case m15 => first | omega | (simp; omega)
          intro v_2 w8 hown_2 hgrow_2 _
          have HR2 := Lib.hid (own_round (q := (qp, qb)) HB_2.out Hvs_2.out Hfs_2.out HRw.out hgrow_2 hown_2)
          obtain ⟨al_2, nl_2, cl_2, rfl⟩ := own_shape HR2.out
          clear hown_2 hgrow_2 hvs_2
          go_wp2_with fail
          go_roundw
          case rel => exact ⟨k + 1, hlt, by go_num, by rw [Hsn.out, Hst.out], Lib.hid (by rw [Hsn.out]; exact putS_len Hln.out), Lib.hid (by rw [Hsn.out, Hst.out]; exact HR2.out)⟩
          case measure => simp [intOf]; omega
      | false =>
        cases hbf : bytesBefore qp p with
        | true =>
          have hge := fun W => ge_strB W qp p false (by rw [less_bf, hbf]; rfl)
          cases he : (qp == p) with
          | true =>
            have b4 : (qp != p) = false := by unfold bne; rw [he]; rfl
            have Hst : Hid (putS p b (o1, false) (qp, qb) = (o1, false)) := Lib.hid (by unfold putS; simp [he, hbf])
            go_wp2_with fail
            go_roundw
            case rel => exact ⟨k + 1, hlt, by go_num, by rw [Hsn.out, Hst.out], Lib.hid (by rw [Hsn.out]; exact putS_len Hln.out), Lib.hid (by rw [Hsn.out, Hst.out]; exact H3.out)⟩
            case measure => simp [intOf]; omega
          | false =>
            have b4 : (qp != p) = true := by unfold bne; rw [he]; rfl
            have Hst : Hid (putS p b (o1, false) (qp, qb) = (o1 ++ [(qp, qb)], false)) := Lib.hid (by unfold putS; simp [he, hbf])
            obtain ⟨hB_2, vs_2, hvs_2, hfs_2⟩ := H3.out
            have Hvs_2 := Lib.hid hvs_2; have Hfs_2 := Lib.hid hfs_2; have HB_2 := Lib.hid hB_2
            obtain ⟨i2, hi2, hz02, hz12, hz22⟩ := info_parts infoFile
            have hnw_2 := heap_alloc_new wr (.cells #[.string ⟨qp.toArray⟩, .slice qa qb.length qc] 52)
            have Hnw_2 := Lib.hid hnw_2
            have hszw_2 := hB_2.size
            clear hnw_2 hfs_2 hB_2
            go_wp2_with (at_builtin; refine wpList_append_own _ rfl _ _ 22 rfl wx.heap.size 52 i2 _ 2 40 Tryz.underlying22 hi2 hz02 hz12 hz22 rfl (by decide) _ _ _ rfl (hvs_2.alloc _) ⟨wr.heap.size, 0, none⟩ 1 1 [.string ⟨qp.toArray⟩, .slice qa qb.length qc] rfl rfl ?m21 ?m22 ?m23 ?m24 ?m25 ?_)
            case m22 => first | exact ⟨rfl, rfl⟩ | simp [Value.oneCell']
            case m23 => unfold maxLen; omega
            case m24 => omega
            case m25 => first | omega | (simp; omega)
            intro v_2 w8 hown_2 hgrow_2 _
            have HR2 := Lib.hid (own_round (q := (qp, qb)) HB_2.out Hvs_2.out Hfs_2.out HRw.out hgrow_2 hown_2)
            obtain ⟨al_2, nl_2, cl_2, rfl⟩ := own_shape HR2.out
            clear hown_2 hgrow_2 hvs_2
            go_wp2_with fail
            go_roundw
            case rel => exact ⟨k + 1, hlt, by go_num, by rw [Hsn.out, Hst.out], Lib.hid (by rw [Hsn.out]; exact putS_len Hln.out), Lib.hid (by rw [Hsn.out, Hst.out]; exact HR2.out)⟩
            case measure => simp [intOf]; omega
        | false =>
          have hge := fun W => ge_strB W qp p true (by rw [less_bf, hbf]; rfl)
          obtain ⟨hB_1, vs_1, hvs_1, hfs_1⟩ := H3.out
          have Hvs_1 := Lib.hid hvs_1; have Hfs_1 := Lib.hid hfs_1; have HB_1 := Lib.hid hB_1
          obtain ⟨i1, hi1, hz01, hz11, hz21⟩ := info_parts infoFile
          have hnw_1 := heap_alloc_new wr (.cells #[.string ⟨p.toArray⟩, .slice da b.length dc] 52)
          have Hnw_1 := Lib.hid hnw_1
          have hszw_1 := hB_1.size
          clear hnw_1 hfs_1 hB_1
          go_wp2_with (at_builtin; refine wpList_append_own _ rfl _ _ 22 rfl wx.heap.size 52 i1 _ 2 40 Tryz.underlying22 hi1 hz01 hz11 hz21 rfl (by decide) _ _ _ rfl (hvs_1.alloc _) ⟨wr.heap.size, 0, none⟩ 1 1 [.string ⟨p.toArray⟩, .slice da b.length dc] rfl rfl ?m31 ?m32 ?m33 ?m34 ?m35 ?_)
          case m32 => first | exact ⟨rfl, rfl⟩ | simp [Value.oneCell']
          case m33 => unfold maxLen; omega
          case m34 => omega
          case m35 => first | omega | (simp; omega)
          intro v_1 w4 hown_1 hgrow_1 _
          have HR1 := Lib.hid (own_round (q := (p, b)) HB_1.out Hvs_1.out Hfs_1.out HDr.out hgrow_1 hown_1)
          obtain ⟨al_1, nl_1, cl_1, rfl⟩ := own_shape HR1.out
          clear hown_1 hgrow_1 hvs_1
          obtain ⟨c0', c1', hrw4, _⟩ := HC.out _ HR1.out.1
          have HRw4 := Lib.hid hrw4
          have hol1 : (o1 ++ [(p, b)]).length ≤ 2 * k + 1 := by rw [List.length_append]; simp only [List.length_cons, List.length_nil]; omega
          clear c0 c1 x0 x1 hrw4
          cases he : (qp == p) with
          | true =>
            have b4 : (qp != p) = false := by unfold bne; rw [he]; rfl
            have Hst : Hid (putS p b (o1, false) (qp, qb) = (o1 ++ [(p, b)], true)) := Lib.hid (by unfold putS; simp [he, hbf])
            go_wp2_with fail
            go_roundw
            case rel => exact ⟨k + 1, hlt, by go_num, by rw [Hsn.out, Hst.out], Lib.hid (by rw [Hsn.out]; exact putS_len Hln.out), Lib.hid (by rw [Hsn.out, Hst.out]; exact HR1.out)⟩
            case measure => simp [intOf]; omega
          | false =>
            have b4 : (qp != p) = true := by unfold bne; rw [he]; rfl
            have Hst : Hid (putS p b (o1, false) (qp, qb) = (o1 ++ [(p, b)] ++ [(qp, qb)], true)) := Lib.hid (by unfold putS; simp [he, hbf])
            obtain ⟨hB_2, vs_2, hvs_2, hfs_2⟩ := HR1.out
            have Hvs_2 := Lib.hid hvs_2; have Hfs_2 := Lib.hid hfs_2; have HB_2 := Lib.hid hB_2
            obtain ⟨i2, hi2, hz02, hz12, hz22⟩ := info_parts infoFile
            have hnw_2 := heap_alloc_new w4 (.cells #[.string ⟨qp.toArray⟩, .slice qa qb.length qc] 52)
            have Hnw_2 := Lib.hid hnw_2
            have hszw_2 := hB_2.size
            clear hnw_2 hfs_2 hB_2
            go_wp2_with (at_builtin; refine wpList_append_own _ rfl _ _ 22 rfl wx.heap.size 52 i2 _ 2 40 Tryz.underlying22 hi2 hz02 hz12 hz22 rfl (by decide) _ _ _ rfl (hvs_2.alloc _) ⟨w4.heap.size, 0, none⟩ 1 1 [.string ⟨qp.toArray⟩, .slice qa qb.length qc] rfl rfl ?m41 ?m42 ?m43 ?m44 ?m45 ?_)
            case m41 => exact World.news_of_block (cs := #[.string ⟨qp.toArray⟩, .slice qa qb.length qc]) (t := 52) (fr := (0, 0)) Hnw_2.out
            case m42 => first | exact ⟨rfl, rfl⟩ | simp [Value.oneCell']
            case m43 => unfold maxLen; omega
            case m44 => omega
            case m45 => first | omega | (simp; omega)
            intro v_2 w8 hown_2 hgrow_2 _
            have HR2 := Lib.hid (own_round (q := (qp, qb)) HB_2.out Hvs_2.out Hfs_2.out HRw4.out hgrow_2 (by rw [List.length_append]; exact hown_2))
            obtain ⟨al_2, nl_2, cl_2, rfl⟩ := own_shape HR2.out
            clear hown_2 hgrow_2 hvs_2
            go_wp2_with fail
            go_roundw
            case rel => exact ⟨k + 1, hlt, by go_num, by rw [Hsn.out, Hst.out], Lib.hid (by rw [Hsn.out]; exact putS_len Hln.out), Lib.hid (by rw [Hsn.out, Hst.out]; exact HR2.out)⟩
            case measure => simp [intOf]; omega
    · obtain rfl : k = t.length := by omega
      rw [List.take_length] at hln hrel
      rw [List.take_length]
      obtain ⟨al, nl, cl, rfl⟩ := own_shape hrel.out
      obtain ⟨⟨o1, od⟩, ho⟩ : ∃ o, o = putF p b t := ⟨_, rfl⟩
      rw [← ho] at hln hrel
      have ho2 := ho
      rw [← ho]
      have hol : o1.length ≤ 2 * t.length := hln.out
      have H3 := hrel
      obtain ⟨x0, x1⟩ := HX2.out _ hrel.out.1
      have HDr := Lib.hid (HDX.out.keep (K.of_new (base := 0) hrel.out.1 (Nat.zero_le _)))
      have Ho := Lib.hid ho2
      clear ho ho2 hln hrel
      cases od with
      | true =>
        have HE : Hid (FilesIn wr B (.slice al nl cl) (putE p b t) ∧ Below w.heap.size w wr) := Lib.hid (by unfold putE; rw [← Ho.out]; exact own_end H3.out HBX.out hBw)
        go_wp2_with fail
        go_ret
        exact ⟨_, rfl, HE.out.1, HE.out.2⟩
      | false =>
        obtain ⟨hB_1, vs_1, hvs_1, hfs_1⟩ := H3.out
        have Hvs_1 := Lib.hid hvs_1; have Hfs_1 := Lib.hid hfs_1; have HB_1 := Lib.hid hB_1
        obtain ⟨i1, hi1, hz01, hz11, hz21⟩ := info_parts infoFile
        have hnw_1 := heap_alloc_new wr (.cells #[.string ⟨p.toArray⟩, .slice da b.length dc] 52)
        have Hnw_1 := Lib.hid hnw_1
        have hszw_1 := hB_1.size
        clear hnw_1 hfs_1 hB_1
        go_wp2_with (at_builtin; refine wpList_append_own _ rfl _ _ 22 rfl wx.heap.size 52 i1 _ 2 40 Tryz.underlying22 hi1 hz01 hz11 hz21 rfl (by decide) _ _ _ rfl (hvs_1.alloc _) ⟨wr.heap.size, 0, none⟩ 1 1 [.string ⟨p.toArray⟩, .slice da b.length dc] rfl rfl ?m51 ?m52 ?m53 ?m54 ?m55 ?_)
        case m52 => first | exact ⟨rfl, rfl⟩ | simp [Value.oneCell']
        case m53 => unfold maxLen; omega
        case m54 => omega
        case m55 => first | omega | (simp; omega)
        intro v_1 w4 hown_1 hgrow_1 _
        have HR1 := Lib.hid (own_round (q := (p, b)) HB_1.out Hvs_1.out Hfs_1.out HDr.out hgrow_1 hown_1)
        obtain ⟨al_1, nl_1, cl_1, rfl⟩ := own_shape HR1.out
        clear hown_1 hgrow_1 hvs_1
        have HE : Hid (FilesIn w4 B (.slice al_1 nl_1 cl_1) (putE p b t) ∧ Below w.heap.size w w4) := Lib.hid (by unfold putE; rw [← Ho.out]; exact own_end HR1.out HBX.out hBw)
        go_wp2_with fail
        go_ret
        exact ⟨_, rfl, HE.out.1, HE.out.2⟩

/-- The document's put. -/
theorem Put_any {w : World} {B : Nat} {v bw : Value} {t : Tb} (h : FilesIn w B v t) (hr : Rises t) (hBw : B ≤ w.heap.size) (hl : t.length ≤ 1000000) (p : By) {b : By} (hb : b.length ≤ 140737488355328) (hc : BytesAt w bw b) :
    Calls Tryz.prog 37 #[v, S p, bw] w fun e w' => ∃ v', e = .returned v' ∧ FilesIn w' B v' (tput p b t) ∧ Below w.heap.size w w' :=
  (Put_raw h hBw hl p hb hc).mono fun e w' ⟨v', h1, h2, h3⟩ => ⟨v', h1, by rw [← putF_end hr]; exact h2, h3⟩
end Go.Proofs.YtbibogpeagnjoaaGreatDoor


namespace Go.Proofs.YtbibogpeagnjoaaGreatDoor
open Go Go.RowKit Go.Maps Go.Shelf Go.Deep

theorem refDir_path {p : By} (h : pathB p = true) : refDir p = dirOf p := by
  unfold pathB at h
  unfold refDir
  simp only [Bool.and_eq_true] at h
  rw [if_pos h.1.1]
theorem there_zero {p : By} {t : Tb} (h : thereErr p t = 0) : pathB p = true ∧ ∃ b, tget p t = some b := by
  unfold thereErr at h
  split at h
  · cases h
  · rename_i hp
    split at h
    · cases h
    · rename_i hb
      exact ⟨by simpa using hp, Option.ne_none_iff_exists'.1 hb⟩
theorem rename_zero {p q : By} {t : Tb} : renameErr p q t = 0 ↔ thereErr p t = 0 ∧ pathB q = true ∧ (refDir p == refDir q) = true := by
  constructor
  · intro h
    unfold renameErr at h
    split at h
    · cases h
    · rename_i hq
      split at h
      · cases h
      · rename_i hp
        split at h
        · cases h
        · rename_i hd
          split at h
          · cases h
          · rename_i hb
            have hq : pathB q = true := by simpa using hq
            have hp' : pathB p = true := by simpa using hp
            refine ⟨?_, hq, ?_⟩
            · unfold thereErr; rw [if_neg hp, if_neg hb]
            · rw [refDir_path hp', refDir_path hq]; simpa using hd
  · rintro ⟨h1, h2, h3⟩
    obtain ⟨hp, b, hb⟩ := there_zero h1
    rw [refDir_path hp, refDir_path h2] at h3
    unfold renameErr
    rw [if_neg (by rw [h2]; decide), if_neg (by rw [hp]; decide), if_neg (by rw [h3]; decide), if_neg (by rw [hb]; simp)]

/-- What the files are behind a Rename. -/
theorem moved_to {p q b : By} {t : Tb} (h : tget p t = some b) : tget q ((Act.rename p q).play t) = some b := by
  show tget q (match tget p t with | none => t | some b => tput q b (tdel p t)) = some b
  rw [h]
  exact tget_tput_same
theorem moved_from {p q b : By} {t : Tb} (h : tget p t = some b) (hne : p ≠ q) : tget p ((Act.rename p q).play t) = none := by
  show tget p (match tget p t with | none => t | some b => tput q b (tdel p t)) = none
  rw [h]
  show tget p (tput q b (tdel p t)) = none
  rw [tget_tput_other hne]
  exact tget_tdel_same
theorem moved_other {p q r b : By} {t : Tb} (h : tget p t = some b) (hp : r ≠ p) (hq : r ≠ q) : tget r ((Act.rename p q).play t) = tget r t := by
  show tget r (match tget p t with | none => t | some b => tput q b (tdel p t)) = tget r t
  rw [h]
  show tget r (tput q b (tdel p t)) = tget r t
  rw [tget_tput_other hq, tget_tdel_other hp]

theorem i_files (W : World) (b o n c k : Nat) (h : k < n) : (Instr.indexAt 22 (.slice (some ⟨b, o, none⟩) n c) (.int .i64 (k : Int))).run Tryz.prog W = .ok (.pointer (some ⟨b, o + k * 2, none⟩)) W := by
  have h1 : (0 : Int) ≤ (k : Int) := by omega
  have h2 : (k : Int) < (n : Int) := by omega
  simp [go_sem, h1, h2, Tryz.underlying22]
theorem f_path (W : World) (b o : Nat) : (Instr.fieldAt 52 (.pointer (some ⟨b, o, none⟩)) 0).run Tryz.prog W = .ok (.pointer (some ⟨b, o, none⟩)) W := by
  simp [go_sem]
theorem f_data (W : World) (b o : Nat) : (Instr.fieldAt 52 (.pointer (some ⟨b, o, none⟩)) 1).run Tryz.prog W = .ok (.pointer (some ⟨b, o + 1, none⟩)) W := by
  simp [go_sem]
theorem l_str (W : World) (b o : Nat) (s : ByteArray) (h : W.cell? ⟨b, o, none⟩ = some (.string s)) : (Instr.loadAt 9 (.pointer (some ⟨b, o, none⟩))).run Tryz.prog W = .ok (.string s) W := by
  go_simp
theorem l_bytes (W : World) (b o : Nat) (x : Option Addr) (n c : Nat) (h : W.cell? ⟨b, o, none⟩ = some (.slice x n c)) : (Instr.loadAt 31 (.pointer (some ⟨b, o, none⟩))).run Tryz.prog W = .ok (.slice x n c) W := by
  go_simp
theorem n_str (W : World) (x y : By) (b : Bool) (h : (x != y) = b) : (binOp .neq 9 (.string ⟨x.toArray⟩) (.string ⟨y.toArray⟩)).run Tryz.prog W = .ok (.bool b) W := by
  subst h
  simp [go_sem, bne]
theorem g_str (W : World) (x y : By) (s t : Operand) : (eqGuard .neq 9 s t (.string ⟨x.toArray⟩) (.string ⟨y.toArray⟩)).run Tryz.prog W = .ok () W := by
  simp [go_sem]
theorem lt_zero (W : World) (m : Nat) : (binOp .lss 3 (.int .i64 (m : Int)) (.int .i64 0)).run Tryz.prog W = .ok (.bool false) W := by
  have h : decide ((m : Int) < 0) = false := by simp
  simp [go_sem, h]
end Go.Proofs.YtbibogpeagnjoaaGreatDoor


namespace Go.Proofs.YtbibogpeagnjoaaGreatDoor
open Go Go.RowKit

section
variable {P : Program} {ops : Array Oper} {Q : Exit → Go.Act → World → Prop} {S : World → Prop}
theorem h_start (S : World → Prop) {id : Nat} {a : Go.Act} {w : World} (hm : P.follows .mixedOrders = true) (h : wpAnyH P .any ops Q S ops.size (Array.replicate ops.size false) a w.drew) : (Code.region id ops true).wp P Q a w :=
  wp_region_held hm h
theorem h_tk (i : Nat) (v : Value) {oi : Oper} {fuel : Nat} {listed : Array Bool} {a : Go.Act} {w : World} (hS : S w) (hi : ops[i]? = some oi)
    (hy : ∀ W, S W → (execOp a.eval oi).run P W = .ok (.value v) W)
    (h : wpAnyH P .any ops Q S fuel (listed.setIfInBounds i true) (a.put oi.dst v) w)
    (hs : Region.noSelect ops = true := by kernel_rfl) (hf : Region.free .any ops listed i = true := by kernel_rfl) (hr : (Region.ready .any ops listed).contains i = true := by kernel_rfl)
    (hQ : ∀ c a w, Q (.panic c) (a.put oi.dst v) w → Q (.panic c) a w := by exact fun _ _ _ h => h) (hw : Region.wanted oi (yielded ops a.tmps) = true := by kernel_rfl) : wpAnyH P .any ops Q S (fuel + 1) listed a w :=
  wpAnyH_take hi hs hf hr hQ (.inl ⟨hw, hy⟩) hS h
theorem h_sk (i : Nat) {oi : Oper} {fuel : Nat} {listed : Array Bool} {a : Go.Act} {w : World} (hS : S w) (hi : ops[i]? = some oi)
    (h : wpAnyH P .any ops Q S fuel (listed.setIfInBounds i true) (a.put oi.dst undef) w)
    (hs : Region.noSelect ops = true := by kernel_rfl) (hf : Region.free .any ops listed i = true := by kernel_rfl) (hr : (Region.ready .any ops listed).contains i = true := by kernel_rfl)
    (hQ : ∀ c a w, Q (.panic c) (a.put oi.dst undef) w → Q (.panic c) a w := by exact fun _ _ _ h => h) (hw : Region.wanted oi (yielded ops a.tmps) = false := by kernel_rfl) : wpAnyH P .any ops Q S (fuel + 1) listed a w :=
  wpAnyH_take hi hs hf hr hQ (.inr ⟨hw, rfl⟩) hS h
theorem h_one (i : Nat) {fuel : Nat} {listed : Array Bool} {a : Go.Act} {w : World} (hr : Region.ready .any ops listed = [i])
    (h : wpOp P ops Q i (fun a' w' => S w' ∧ wpAnyH P .any ops Q S fuel (listed.setIfInBounds i true) a' w') a w) : wpAnyH P .any ops Q S (fuel + 1) listed a w :=
  wpAnyH_all hr (by simp) (fun j hj => by have e : j = i := by simpa using hj
                                          subst e; exact h)
/-- What comes up alone. -/
theorem h_op (i : Nat) (v : Value) (w' : World) {oi : Oper} {fuel : Nat} {listed : Array Bool} {a : Go.Act} {w : World} (hr : Region.ready .any ops listed = [i]) (hi : ops[i]? = some oi) (hw : Region.wanted oi (yielded ops a.tmps) = true)
    (he : (execOp a.eval oi).run P w = .ok (.value v) w') (hS : S w') (h : wpAnyH P .any ops Q S fuel (listed.setIfInBounds i true) (a.put oi.dst v) w') : wpAnyH P .any ops Q S (fuel + 1) listed a w := by
  refine h_one i hr ?_
  unfold wpOp
  rw [hi]
  simp only
  rw [if_pos hw]
  left
  unfold Oper.wp
  rw [he]
  exact ⟨hS, h⟩
theorem h_sto (i : Nat) (w' : World) {oi : Oper} {fuel : Nat} {listed : Array Bool} {a : Go.Act} {w : World} (hr : Region.ready .any ops listed = [i]) (hi : ops[i]? = some oi) (hw : Region.wanted oi (yielded ops a.tmps) = true)
    (he : (execOp a.eval oi).run P w = .ok .skip w') (hS : S w') (h : wpAnyH P .any ops Q S fuel (listed.setIfInBounds i true) (a.put oi.dst undef) w') : wpAnyH P .any ops Q S (fuel + 1) listed a w := by
  refine h_one i hr ?_
  unfold wpOp
  rw [hi]
  simp only
  rw [if_pos hw]
  left
  unfold Oper.wp
  rw [he]
  exact ⟨hS, h⟩
theorem h_call (i : Nat) {oi : Oper} {fuel : Nat} {listed : Array Bool} {a : Go.Act} {w : World} (f : FuncId) (vs : Array Value) (hr : Region.ready .any ops listed = [i]) (hi : ops[i]? = some oi)
    (hw : Region.wanted oi (yielded ops a.tmps) = true) (he : (execOp a.eval oi).run P w = .ok (.enter f vs) w)
    (hc : Calls P f vs w fun e w' => ∃ v, e = .returned v ∧ S w' ∧ wpAnyH P .any ops Q S fuel (listed.setIfInBounds i true) (a.put oi.dst v) w') : wpAnyH P .any ops Q S (fuel + 1) listed a w := by
  refine wpAnyH_ready hr (by simp) (AllReadyH.cons hi (fun K hK => ?_) AllReadyH.nil)
  rw [if_pos hw]
  unfold Oper.wp
  rw [he, Oper.upon_enter]
  refine hc.mono ?_
  rintro e w' ⟨v, rfl, hb, h⟩
  exact hK.out _ _ hb fun _ => h
theorem h_two (i j : Nat) {fuel : Nat} {listed : Array Bool} {a : Go.Act} {w : World} (hr : Region.ready .any ops listed = [i, j]) {oi oj : Oper} (v v' : Value) (w1 w2 : World) (hi : ops[i]? = some oi) (hj : ops[j]? = some oj)
    (hwi : Region.wanted oi (yielded ops a.tmps) = true) (hwj : Region.wanted oj (yielded ops a.tmps) = true)
    (hei : (execOp a.eval oi).run P w = .ok (.value v) w1) (hej : (execOp a.eval oj).run P w = .ok (.value v') w2) (hS1 : S w1) (hS2 : S w2)
    (h1 : wpAnyH P .any ops Q S fuel (listed.setIfInBounds i true) (a.put oi.dst v) w1) (h2 : wpAnyH P .any ops Q S fuel (listed.setIfInBounds j true) (a.put oj.dst v') w2) : wpAnyH P .any ops Q S (fuel + 1) listed a w := by
  refine wpAnyH_all hr (by simp) (fun k hk => ?_)
  have e : k = i ∨ k = j := by simpa using hk
  rcases e with rfl | rfl
  · unfold wpOp
    rw [hi]
    simp only
    rw [if_pos hwi]
    left
    unfold Oper.wp
    rw [hei]
    exact ⟨hS1, h1⟩
  · unfold wpOp
    rw [hj]
    simp only
    rw [if_pos hwj]
    left
    unfold Oper.wp
    rw [hej]
    exact ⟨hS2, h2⟩
theorem h_done {listed : Array Bool} {a : Go.Act} {w : World} (fuel : Nat) (hr : Region.ready .any ops listed = []) (h : Q .normal a w) : wpAnyH P .any ops Q S fuel listed a w :=
  wpAnyH_done hr h fuel
end

section
variable {P : Program} {a : Go.Act} {o : Oper} {W W' : World}
theorem y_sto {t : TypeId} {s x : Operand} {sv xv : Value} (ho : o.op = .store t s x) (hs : a.eval s = sv) (hx : a.eval x = xv) (h : (Instr.storeAt t sv xv).run P W = .ok () W') : (execOp a.eval o).run P W = .ok .skip W' := by
  subst hs hx
  simp only [execOp, ho]
  simp [h, Result.andThen]
theorem y_app {st : TypeId} {s y : Operand} {sv yv r : Value} (ho : o.op = .call { callee := .builtin .append, args := #[s, y], argTypes := #[st, st] }) (hs : a.eval s = sv) (hy : a.eval y = yv)
    (h : (Builtin.append_ #[st, st] o.type #[sv, yv]).run P W = .ok r W') : (execOp a.eval o).run P W = .ok (.value r) W' := by
  subst hs hy
  simp [execOp, ho, resolve, invoke, builtin, h, Result.andThen]
theorem y_bld {t : TypeId} {n : Nat} {parts : Array (Nat × Operand)} {ps : Array (Nat × Value)} {r : Value} (ho : o.op = .buildSlice t n parts) (hp : (parts.map fun (i, x) => (i, a.eval x)) = ps) (h : (Instr.buildSlice t n ps).run P W = .ok r W') : (execOp a.eval o).run P W = .ok (.value r) W' := by
  subst hp
  simp [execOp, ho, h, Result.andThen]
theorem y_nil {x : Operand} {b : Addr} (ho : o.op = .nilCheck x) (hx : a.eval x = .pointer (some b)) : (execOp a.eval o).run P W = .ok (.value (.pointer (some b))) W := by
  simp only [execOp, ho, hx]
  go_simp
end

/-! ### fields of the document's shelf and acts -/
theorem f_act (W : World) (b o n : Nat) (hn : n < 4) : (Instr.fieldAt 79 (.pointer (some ⟨b, o, none⟩)) n).run Tryz.prog W = .ok (.pointer (some ⟨b, o + n, none⟩)) W := by
  match n, hn with
  | 0, _ => simp [go_sem]
  | 1, _ => simp [go_sem]
  | 2, _ => simp [go_sem]
  | 3, _ => simp [go_sem]
theorem f_sh (W : World) (b n : Nat) (hn : n < 8) : (Instr.fieldAt 46 (.pointer (some ⟨b, 0, none⟩)) n).run Tryz.prog W = .ok (.pointer (some ⟨b, n, none⟩)) W := by
  match n, hn with
  | 0, _ => simp [go_sem]
  | 1, _ => simp [go_sem]
  | 2, _ => simp [go_sem]
  | 3, _ => simp [go_sem]
  | 4, _ => simp [go_sem]
  | 5, _ => simp [go_sem]
  | 6, _ => simp [go_sem]
  | 7, _ => simp [go_sem]
theorem l_act (W : World) (b o : Nat) (v0 v1 v2 : Value) (n : Int) (s1 s2 : ByteArray) (x : Option Addr) (m c : Nat) (e0 : v0 = .int .i64 n) (e1 : v1 = .string s1) (e2 : v2 = .string s2) (h0 : W.cell? ⟨b, o, none⟩ = some v0) (h1 : W.cell? ⟨b, o + 1, none⟩ = some v1) (h2 : W.cell? ⟨b, o + 2, none⟩ = some v2) (h3 : W.cell? ⟨b, o + 3, none⟩ = some (.slice x m c)) :
    (Instr.loadAt 79 (.pointer (some ⟨b, o, none⟩))).run Tryz.prog W = .ok (.agg #[v0, v1, v2, .slice x m c]) W := by
  subst e0 e1 e2
  go_simp
theorem l_acts (W : World) (b o : Nat) (x : Option Addr) (n c : Nat) (h : W.cell? ⟨b, o, none⟩ = some (.slice x n c)) : (Instr.loadAt 44 (.pointer (some ⟨b, o, none⟩))).run Tryz.prog W = .ok (.slice x n c) W := by
  go_simp
theorem st_files (W : World) (b o : Nat) (x : Option Addr) (n c : Nat) (u : Value) (h : W.cell? ⟨b, o, none⟩ = some u) (hf : W.frozen? ⟨b, o, none⟩ = false) : (Instr.storeAt 22 (.pointer (some ⟨b, o, none⟩)) (.slice x n c)).run Tryz.prog W = .ok () (W.setCell ⟨b, o, none⟩ (.slice x n c)) := by
  go_simp
theorem st_acts (W : World) (b o : Nat) (x : Option Addr) (n c : Nat) (u : Value) (h : W.cell? ⟨b, o, none⟩ = some u) (hf : W.frozen? ⟨b, o, none⟩ = false) : (Instr.storeAt 44 (.pointer (some ⟨b, o, none⟩)) (.slice x n c)).run Tryz.prog W = .ok () (W.setCell ⟨b, o, none⟩ (.slice x n c)) := by
  go_simp
theorem bld_act (W : World) (v0 v1 v2 v3 : Value) : (Instr.buildSlice 44 1 #[(0, .agg #[v0, v1, v2, v3])]).run Tryz.prog W = .ok (.slice (some ⟨W.heap.size, 0, none⟩) 1 1) (W.alloc (.cells #[v0, v1, v2, v3] 79)) := by
  simp [go_sem]
theorem l_files (W : World) (b o : Nat) (x : Option Addr) (n c : Nat) (h : W.cell? ⟨b, o, none⟩ = some (.slice x n c)) : (Instr.loadAt 22 (.pointer (some ⟨b, o, none⟩))).run Tryz.prog W = .ok (.slice x n c) W := by
  go_simp
end Go.Proofs.YtbibogpeagnjoaaGreatDoor


namespace Go.Proofs.YtbibogpeagnjoaaGreatDoor
open Go Go.RowKit Go.Maps Go.Sort Go.Shelf Go.Deep

def PlayedPost (B : Nat) (t : Tb) (w : World) (e : Ending) (w' : World) : Prop := ∃ v', e = .returned v' ∧ FilesIn w' B v' t ∧ Below w.heap.size w w'

set_option maxHeartbeats 8000000 in
set_option maxRecDepth 100000 in
theorem played_write {w : World} {B : Nat} {v : Value} {t : Tb} (h : FilesIn w B v t) (hr : Rises t) (hBw : B ≤ w.heap.size) (hl : t.length ≤ 1000000) (p b : By) {da : Option Addr} {dc : Nat} (hd : RowIn w B (.slice da b.length dc) b) (hdl : b.length ≤ 262144) :
    Calls Tryz.prog 55 #[v, .agg #[.int .i64 0, S p, S [], .slice da b.length dc]] w (PlayedPost B (tput p b t) w) := by
  obtain ⟨va, vc, rfl⟩ := h.slice
  have hB1 := below_alloc w (.cells #[.int .i64 0, S p, S [], .slice da b.length dc] 79)
  have Hp := Lib.hid (Put_any (h.keep (K.of_new (base := 0) hB1 (Nat.zero_le _))) hr (by have := hB1.size; omega) hl p (b := b) (by omega) (hd.keep (K.of_new (base := 0) hB1 (Nat.zero_le _))).bytes)
  have HB1 := Lib.hid hB1
  clear h hd hB1
  unfold S at Hp HB1 ⊢
  go_enter Tryz.func55, Tryz.ntmps55
  go_wp2_with fail
  refine Hp.out.mono ?_
  rintro e w2 ⟨v', rfl, hf2, hB2⟩
  have HF := Lib.hid hf2; have HB2 := Lib.hid (below_two HB1.out hB2)
  clear hf2 hB2
  go_wp2_with fail
  go_ret
  exact ⟨_, rfl, HF.out, HB2.out⟩

set_option maxHeartbeats 8000000 in
set_option maxRecDepth 100000 in
theorem played_remove {w : World} {B : Nat} {v dv : Value} {t : Tb} (h : FilesIn w B v t) (hBw : B ≤ w.heap.size) (hl : t.length ≤ 1000000) (p : By) {da : Option Addr} {dn dc : Nat} (hdv : dv = .slice da dn dc) :
    Calls Tryz.prog 55 #[v, .agg #[.int .i64 2, S p, S [], dv]] w (PlayedPost B (tdel p t) w) := by
  obtain ⟨va, vc, rfl⟩ := h.slice
  subst hdv
  have hB1 := below_alloc w (.cells #[.int .i64 2, S p, S [], .slice da dn dc] 79)
  have Hp := Lib.hid (Without_any (h.keep (K.of_new (base := 0) hB1 (Nat.zero_le _))) (by have := hB1.size; omega) hl p)
  have HB1 := Lib.hid hB1
  clear h hB1
  unfold S at Hp HB1 ⊢
  go_enter Tryz.func55, Tryz.ntmps55
  go_wp2_with fail
  refine Hp.out.mono ?_
  rintro e w2 ⟨v', rfl, hf2, hB2⟩
  have HF := Lib.hid hf2; have HB2 := Lib.hid (below_two HB1.out hB2)
  clear hf2 hB2
  go_wp2_with fail
  go_ret
  exact ⟨_, rfl, HF.out, HB2.out⟩

set_option maxHeartbeats 8000000 in
set_option maxRecDepth 100000 in
theorem played_rename {w : World} {B : Nat} {v dv : Value} {t : Tb} (h : FilesIn w B v t) (hr : Rises t) (hBw : B ≤ w.heap.size) (hl : t.length ≤ 1000000) (hs : ∀ q ∈ t, q.2.length ≤ 262144) (p q : By) {da : Option Addr} {dn dc : Nat} (hdv : dv = .slice da dn dc) :
    Calls Tryz.prog 55 #[v, .agg #[.int .i64 1, S p, S q, dv]] w (PlayedPost B ((Act.rename p q).play t) w) := by
  obtain ⟨va, vc, rfl⟩ := h.slice
  subst hdv
  have hB1 := below_alloc w (.cells #[.int .i64 1, S p, S q, .slice da dn dc] 79)
  have hf1 := h.keep (K.of_new (base := 0) hB1 (Nat.zero_le _))
  have hbs : B ≤ (w.alloc (.cells #[.int .i64 1, S p, S q, .slice da dn dc] 79)).heap.size := by have := hB1.size; omega
  have hfi := Find_any hf1.v hl p
  have HB1 := Lib.hid hB1
  have HF1 := Lib.hid hf1
  have Hs := Lib.hid hs
  have Hr := Lib.hid hr
  have c1 : (w.alloc (.cells #[.int .i64 1, S p, S q, .slice da dn dc] 79)).cell? ⟨w.heap.size, 1, none⟩ = some (S p) := cell_of_block (heap_alloc_new w _) 1
  have c2 : (w.alloc (.cells #[.int .i64 1, S p, S q, .slice da dn dc] 79)).cell? ⟨w.heap.size, 2, none⟩ = some (S q) := cell_of_block (heap_alloc_new w _) 2
  clear h hf1 hB1 hs hr
  cases hg : tget p t with
  | none =>
    rw [findI_gone hg] at hfi
    have Hp := Lib.hid hfi
    have Hg := Lib.hid (play_gone (q := q) hg)
    clear hg hfi
    unfold S at Hp HF1 HB1 c1 c2 ⊢
    go_enter Tryz.func55, Tryz.ntmps55
    go_wp2_with fail
    refine Hp.out.mono ?_
    intro e w2 hh
    obtain ⟨rfl, hw⟩ := hh
    subst hw
    go_wp2_with fail
    go_ret
    exact ⟨_, rfl, by rw [Hg.out]; exact HF1.out, HB1.out⟩
  | some b =>
    obtain ⟨k, hk, hkt⟩ := findI_get hg
    rw [hk] at hfi
    have Hp := Lib.hid hfi
    obtain ⟨g, c, hv, dv, d0, d1, hrw⟩ := HF1.out.at hkt
    cases hv
    obtain ⟨ba, bc, rfl⟩ := hrw.shape
    have hkl : k < t.length := (List.getElem?_eq_some_iff.1 hkt).1
    have hbl : b.length ≤ 262144 := Hs.out (p, b) (List.mem_of_getElem? hkt)
    have HRw := Lib.hid hrw; have Hg := Lib.hid (play_rename (q := q) hg)
    clear hrw hg hk hkt hfi d0
    cases hpq : (p == q) with
    | true =>
      have Hsame : Hid ((Act.rename p q).play t = t) := Lib.hid (by
        obtain rfl : p = q := by simpa using hpq
        exact rename_same Hr.out)
      unfold S at Hp HF1 HB1 c1 c2 d1 ⊢
      go_enter Tryz.func55, Tryz.ntmps55
      go_wp2_with fail
      refine Hp.out.mono ?_
      intro e w2 hh
      obtain ⟨rfl, hw⟩ := hh
      subst hw
      go_wp2_with fail
      go_ret
      exact ⟨_, rfl, by rw [Hsame.out]; exact HF1.out, HB1.out⟩
    | false =>
      have Hwo := Lib.hid (Without_any (w := (w.alloc (.cells #[.int .i64 1, S p, S q, .slice da dn dc] 79)).drew) (HF1.out.keep ((K.refl 0 _).drew)) hbs hl p)
      unfold S at Hp HF1 HB1 Hwo c1 c2 d1 HRw ⊢
      go_enter Tryz.func55, Tryz.ntmps55
      go_wp2_with fail
      refine Hp.out.mono ?_
      intro e w2 hh
      obtain ⟨rfl, hw⟩ := hh
      subst hw
      have Hbs := Lib.hid hbs
      have hbl2 : b.length ≤ 140737488355328 := by omega
      have Hdl : Hid ((tdel p t).length ≤ 1000000) := Lib.hid (Nat.le_trans (tdel_length_le p t) hl)
      have Hrd := Lib.hid (Hr.out.tdel (p := p))
      clear hbs
      go_wp2_with fail
      refine h_start (fun W => W.cell? ⟨w.heap.size, 1, none⟩ = some (.string ⟨p.toArray⟩) ∧ W.cell? ⟨w.heap.size, 2, none⟩ = some (.string ⟨q.toArray⟩)) (by kernel_rfl) ?_
      have hS0 := And.intro c1 c2
      refine h_tk 0 (.slice (some ⟨g, 0, none⟩) t.length vc) hS0 rfl (fun W hW => by kernel_rfl) ?_
      refine h_tk 1 (.pointer (some ⟨w.heap.size, 1, none⟩)) hS0 rfl (fun W hW => y_field rfl (by kernel_rfl) (f_act W w.heap.size 0 1 (by decide))) ?_
      refine h_tk 2 (.string ⟨p.toArray⟩) hS0 rfl (fun W hW => y_load rfl (by kernel_rfl) (l_str W _ _ _ hW.1)) ?_
      refine h_tk 4 (.pointer (some ⟨w.heap.size, 2, none⟩)) hS0 rfl (fun W hW => y_field rfl (by kernel_rfl) (f_act W w.heap.size 0 2 (by decide))) ?_
      refine h_tk 5 (.string ⟨q.toArray⟩) hS0 rfl (fun W hW => y_load rfl (by kernel_rfl) (l_str W _ _ _ hW.2)) ?_
      refine h_tk 6 (.slice ba b.length bc) hS0 rfl (fun W hW => by kernel_rfl) ?_
      refine h_call 3 70 #[.slice (some ⟨g, 0, none⟩) t.length vc, .string ⟨p.toArray⟩] (by kernel_rfl) rfl (by kernel_rfl) (by kernel_rfl) ?_
      refine Hwo.out.mono ?_
      rintro e w3 ⟨v3, rfl, hf3, hB3d⟩
      have hB3 : Below (w.alloc (.cells #[.int .i64 1, .string ⟨p.toArray⟩, .string ⟨q.toArray⟩, .slice da dn dc] 79)).heap.size (w.alloc (.cells #[.int .i64 1, .string ⟨p.toArray⟩, .string ⟨q.toArray⟩, .slice da dn dc] 79)) w3 := ⟨hB3d.os, hB3d.tape, hB3d.output, hB3d.size, hB3d.block⟩
      have hpu := Put_any hf3 Hrd.out (Nat.le_trans Hbs.out hB3.size) Hdl.out q hbl2 (HRw.out.keep (K.of_new (base := 0) hB3 (Nat.zero_le _))).bytes
      unfold S at hpu
      obtain ⟨a3, c3, rfl⟩ := hf3.slice
      have hS3 := And.intro (cell_below' hB3 c1) (cell_below' hB3 c2)
      refine ⟨_, rfl, hS3, ?_⟩
      refine h_call 7 37 #[.slice a3 (tdel p t).length c3, .string ⟨q.toArray⟩, .slice ba b.length bc] (by kernel_rfl) rfl (by kernel_rfl) (by kernel_rfl) ?_
      refine hpu.mono ?_
      rintro e w4 ⟨v4, rfl, hf4, hB4⟩
      refine ⟨v4, rfl, And.intro (cell_below' hB4 hS3.1) (cell_below' hB4 hS3.2), ?_⟩
      obtain ⟨a4, c4, rfl⟩ := hf4.slice
      refine h_tk 8 (.slice a4 (tput q b (tdel p t)).length c4) (And.intro (cell_below' hB4 hS3.1) (cell_below' hB4 hS3.2)) rfl (fun W hW => by kernel_rfl) ?_
      refine h_done _ (by kernel_rfl) ?_
      go_simp
      have HF4 := Lib.hid hf4; have HB4 := Lib.hid (below_two (below_two HB1.out hB3) hB4)
      clear hf4 hB4 hB3 hB3d hf3 hS3 hS0 hpu
      go_wp2_with fail
      go_ret
      exact ⟨_, rfl, by rw [Hg.out]; exact HF4.out, HB4.out⟩

theorem played_any {w : World} {B : Nat} {v dv : Value} {t : Tb} (h : FilesIn w B v t) (hr : Rises t) (hBw : B ≤ w.heap.size) (hl : t.length ≤ 1000000) (hs : ∀ q ∈ t, q.2.length ≤ 262144) (a : Act) (hd : RowIn w B dv a.data) (hdl : a.data.length ≤ 262144) :
    Calls Tryz.prog 55 #[v, .agg #[.int .i64 a.what, S a.path, S a.to, dv]] w (PlayedPost B (a.play t) w) := by
  obtain ⟨da, dc, rfl⟩ := hd.shape
  cases a with
  | write p b => exact played_write h hr hBw hl p b hd hdl
  | rename p q => exact played_rename h hr hBw hl hs p q rfl
  | remove p => exact played_remove h hBw hl p rfl
end Go.Proofs.YtbibogpeagnjoaaGreatDoor
