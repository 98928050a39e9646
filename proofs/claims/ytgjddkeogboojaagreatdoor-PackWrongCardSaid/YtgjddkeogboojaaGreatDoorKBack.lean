/-
  There and back.
-/
import Derived.Test.YtgjddkeogboojaaGreatDoorC26
import Derived.Test.YtgjddkeogboojaaGreatDoorC27

namespace Go.Proofs.YtgjddkeogboojaaGreatDoor.Pk
open Go.Proofs.YtgjddkeogboojaaGreatDoor
open Go Go.RowKit Go.Maps

theorem right_smal {l : List Ent} (h : rightL l = true) : Smal l := by
  refine ⟨by have := (rightL_iff.1 h).1; omega, fun e he => ?_⟩
  obtain ⟨hf, hd, -⟩ := right_all h e he
  refine ⟨?_, by omega⟩
  rcases hf with ⟨_, _, _, h⟩ | ⟨_, _, h⟩ | ⟨_, _, h⟩
  all_goals first | (rw [h]; simp) | (have := named_len h; omega)
theorem put_get {l : List Ent} (hr : rightL l = true) (hl : (packL l).length ≤ 262144) : getP (packL l) = some l := getP_iff.2 ⟨hr, rfl, hl⟩
theorem cut_get {l u : List Ent} {k : Nat} (hk : k < (packL l).length) (h : getP ((packL l).take k) = some u) : u ≠ l := fun e => by
  have h2 := (getP_iff.1 h).2.1
  rw [e] at h2
  have := congrArg List.length h2
  rw [List.length_take] at this
  omega
theorem other_get {l u : List Ent} {k : Nat} {c : UInt8} (hk : k < (packL l).length) (hc : c ≠ (packL l).getD k 0) (h : getP ((packL l).set k c) = some u) : u ≠ l := fun e => by
  have h2 := (getP_iff.1 h).2.1
  rw [e] at h2
  have h3 : ((packL l).set k c).getD k 0 = (packL l).getD k 0 := by rw [h2]
  rw [List.getD_eq_getElem?_getD, List.getElem?_set_self hk] at h3
  exact hc h3
theorem set_same {x : Bs} {k : Nat} (hk : k < x.length) : x.set k (x.getD k 0) = x := by
  rw [List.getD_eq_getElem?_getD, List.getElem?_eq_getElem hk]
  exact List.set_getElem_self hk
/-- One byte of an own row is laid anew. -/
theorem ow_set {w : World} {B g : Nat} {N c : Nat} {l : Bs} (h : Dl.Ow w B (.slice (some ⟨g, 0, none⟩) N c) l) (k : Nat) (y : UInt8) : Dl.Ow (w.setCell ⟨g, k, none⟩ (Dl.bv y)) B (.slice (some ⟨g, 0, none⟩) N c) (l.set k y) := by
  obtain ⟨h1, h2⟩ := h
  rcases h2 with ⟨e, _⟩ | ⟨g', cap, cur, e, hb, hg, hn, hm, hs, ht⟩
  · cases e
  · cases e
    refine ⟨by simp, .inr ⟨g, c, cur.setIfInBounds k (Dl.bv y), by rw [List.length_set], hb, blk_setCell hg _, by rw [List.length_set]; exact hn, hm, by simpa using hs, ?_⟩⟩
    rw [List.length_set, Array.toList_setIfInBounds, List.take_set, ht, List.map_set]
theorem ow_shape {w : World} {B : Nat} {v : Value} {l : Bs} (h : Dl.Ow w B v l) (hl : 0 < l.length) : ∃ g c, v = .slice (some ⟨g, 0, none⟩) l.length c ∧ B ≤ g ∧ g < w.heap.size ∧ (∀ k, k < l.length → w.cell? ⟨g, k, none⟩ = some (.int .u8 ((l.getD k 0).toNat : Int))) ∧ ∀ k, w.frozen? ⟨g, k, none⟩ = false := by
  have hrb := h.rb
  obtain ⟨h1, h2⟩ := h
  rcases h2 with ⟨rfl, h2⟩ | ⟨g, cap, cur, rfl, hb, hg, hn, hm, hs, ht⟩
  · omega
  · rcases hrb with ⟨_, e⟩ | ⟨g', o, c, e, _, hlt, hc⟩
    · rw [e] at hl; simp at hl
    · cases e
      exact ⟨g, cap, rfl, hb, hlt, fun k hk => by have := hc k hk; rwa [Nat.zero_add] at this, fun k => by simp [World.frozen?, hg]⟩
theorem rb_cap {w : World} {a : Option Addr} {N c : Nat} {l : Bs} (h : Dl.Rb w (.slice a N c) l) (hN : N = l.length) : N ≤ c := by
  obtain ⟨A, c', e, hc⟩ := h.shape
  cases e
  omega
theorem got_len {b : Bs} {u : List Ent} (h : getP b = some u) : u.length ≤ 1000000 := by have := (rightL_iff.1 (getP_iff.1 h).1).1; omega
theorem ow_new0 (w : World) (base : Nat) (hb : base ≤ w.heap.size) : Dl.Ow (w.alloc (.cells #[] 5)) base (.slice (some ⟨w.heap.size, 0, none⟩) 0 0) [] := World.ownsRow_made w #[] 0 hb (Nat.zero_le _) rfl
theorem at_u8 (W : World) (g n c k : Nat) (hk : k < n) : (Instr.indexAt 23 (.slice (some ⟨g, 0, none⟩) n c) (.int .i64 (k : Int))).run Tryz.prog W = .ok (.pointer (some ⟨g, k, none⟩)) W := by
  have h1 : (k : Int) < (n : Int) := by omega
  simp [go_sem, h1]
def GotN (o : Option (List Ent)) (w : World) (e : Ending) (w' : World) : Prop := Below w.heap.size w w' ∧ ((o = none ∧ e = .returned (.tuple #[.slice none 0 0, .int .i64 3])) ∨ ∃ u A N c, o = some u ∧ e = .returned (.tuple #[.slice A N c, .int .i64 0]) ∧ EntsR w' (.slice A N c) u)
theorem got {b : Bs} {w w' : World} {e : Ending} (h : GetPk b w e w') : GotN (getP b) w e w' := by
  obtain ⟨hb, ⟨u, v, hg, rfl, hv⟩ | ⟨hg, rfl⟩⟩ := h
  · have hr := hv.rd
    obtain ⟨A, c, rfl⟩ := hr.shape
    exact ⟨hb, .inr ⟨u, A, _, c, hg, rfl, hr⟩⟩
  · exact ⟨hb, .inl ⟨hg, rfl⟩⟩
set_option maxHeartbeats 16000000 in
set_option maxRecDepth 100000 in
theorem Back_law (w : World) (hw : Wd w) (v : Value) (l : List Ent) (h : EntsR w v l) (hl : l.length ≤ limW) (vb : Value) (b : Bs) (hb : Dl.Rb w vb b) (n : Nat) (hn : n < 65536) (c : UInt8) :
    Calls Tryz.prog 4 #[v, vb, .int .u16 (n : Int), .int .u8 (c.toNat : Int)] w (RetBelow (.bool true) w) := by
  have HH := Lib.hid (head_any w hw)
  have HG := Lib.hid (fun W (hW : Below w.heap.size w W) => Great_any' (h.below hW (Nat.le_refl _)) hl)
  obtain ⟨A, ca, rfl⟩ := h.shape
  obtain ⟨Ab, cb, rfl, -⟩ := hb.shape
  have Hx := Lib.hid h; have HRb := Lib.hid hb; have Hw := Lib.hid hw
  obtain ⟨M, hM⟩ : ∃ M, M = b.length := ⟨_, rfl⟩
  rw [← hM] at HRb ⊢
  have HMM := Lib.hid hM
  clear h hb hw hl hM
  go_enter Tryz.func4, Tryz.ntmps4
  go_wp2_with fail
  refine HH.out.mono ?_
  rintro e w1 ⟨rfl, b1⟩
  have H1 := Lib.hid b1
  have HG1 := Lib.hid (HG.out w1 b1)
  clear b1 HH HG
  go_wp2_with fail
  refine HG1.out.mono ?_
  rintro e w2 ⟨gr, rfl, b2, hsm⟩
  have H2 := Lib.hid (H1.out.trans (b2.mono H1.out.size))
  clear b2 HG1
  cases gr with
  | true =>
    go_wp2_with fail
    go_ret
    exact ⟨rfl, H2.out⟩
  | false =>
    replace hsm := hsm rfl
    by_cases hb2 : 20000 < M
    · have d1 : (20000 : Int) < (M : Int) := by omega
      clear hsm
      go_wp2_with fail
      go_ret
      exact ⟨rfl, H2.out⟩
    have d1 : ¬ (20000 : Int) < (M : Int) := by omega
    have Hsm := Lib.hid hsm
    have hx2 := Hx.out.below H2.out (Nat.le_refl _)
    have HPut := Lib.hid (Put_any hx2 hsm.smal (fun hr => pack_small hsm hr) (Hw.out.below H2.out).ob.pr (Hw.out.below H2.out).et)
    clear hx2 hsm hb2
    go_wp2_with fail
    refine HPut.out.mono ?_
    rintro e w3 ⟨b3, ⟨hr, rfl⟩ | ⟨hr, A3, N, c3, rfl, hN, ho⟩⟩
    · have H3 := Lib.hid (H2.out.trans (b3.mono H2.out.size))
      have HRi := Lib.hid (Right_any' (Hx.out.below H3.out (Nat.le_refl _)) Hsm.out.smal)
      rw [hr] at HRi
      clear b3 hr HPut
      go_wp2_with fail
      refine HRi.out.mono ?_
      rintro e w19 ⟨rfl, b19⟩
      have HZ := Lib.hid (H3.out.trans (b19.mono H3.out.size))
      clear b19 HRi
      have HGb := Lib.hid (Get_any (HRb.out.below HZ.out (Nat.le_refl _)) (by have := HMM.out; omega) (Hw.out.below HZ.out).ob.pr (Hw.out.below HZ.out).et)
      go_wp2_with fail
      refine HGb.out.mono ?_
      rintro e w20 ⟨b20, ⟨lu, vu, hg, rfl, hv⟩ | ⟨hg, rfl⟩⟩
      · have hr := (getP_iff.1 hg).1
        have hbe := (getP_iff.1 hg).2.1
        have hu := hv.rd
        obtain ⟨Au, cu, rfl⟩ := hu.shape
        have H20 := Lib.hid (HZ.out.trans (b20.mono HZ.out.size))
        have HPu := Lib.hid (Put_any hu (right_smal hr) (fun _ => by rw [← hbe]; have := HMM.out; omega) (Hw.out.below H20.out).ob.pr (Hw.out.below H20.out).et)
        have Hr := Lib.hid hr; have Hbe := Lib.hid hbe
        have HRb2 := Lib.hid (HRb.out.below H20.out (Nat.le_refl _))
        clear hr hbe hu hv hg b20 HGb
        go_wp2_with fail
        refine HPu.out.mono ?_
        rintro e w21 ⟨b21, ⟨hr, -⟩ | ⟨hr, A9, N9, c9, rfl, hN9, ho9⟩⟩
        · rw [Hr.out] at hr; cases hr
        have H21 := Lib.hid (H20.out.trans (b21.mono H20.out.size))
        have hrb9 := ho9.rb
        rw [← Hbe.out] at hrb9 hN9
        have cv1 := hrb9.conv
        have cv2 := (HRb2.out.below b21 (Nat.le_refl _)).conv
        clear hr ho9 hrb9 b21 hN9
        go_wp2_with fail
        go_ret
        exact ⟨rfl, H21.out⟩
      · have H20 := Lib.hid (HZ.out.trans (b20.mono HZ.out.size))
        clear b20 hg HGb
        go_wp2_with fail
        go_ret
        exact ⟨rfl, H20.out⟩
    · have H3 := Lib.hid (H2.out.trans (b3.mono H2.out.size))
      have HRi := Lib.hid (Right_any' (Hx.out.below H3.out (Nat.le_refl _)) Hsm.out.smal)
      rw [hr] at HRi
      have hpl := packL_len hr
      have hps := pack_small Hsm.out hr
      obtain ⟨x, hx⟩ : ∃ x, x = packL l := ⟨_, rfl⟩
      rw [← hx] at hpl hps ho hN
      have hrx := ho.rb
      have Hr := Lib.hid hr; have Ho := Lib.hid hrx; have HX := Lib.hid hx
      have HN := Lib.hid (And.intro hN (And.intro hpl.2 hps))
      have hN0 : ¬ (N : Int) < 37 := by omega
      obtain ⟨k, hk⟩ : ∃ k, k = n % N := ⟨_, rfl⟩
      have hkN : k < N := by rw [hk]; exact Nat.mod_lt _ (by omega)
      have m1 : (n : Int) % (N : Int) = (k : Int) := by rw [hk, Int.natCast_emod]
      have m2 : Int.tmod (n : Int) (N : Int) = (k : Int) := by rw [Int.tmod_eq_emod_of_nonneg (by omega)]; exact m1
      obtain ⟨g, c3', e3, hBg, hgl, hcell, -⟩ := ow_shape ho (by omega)
      rw [← hN] at e3
      cases e3
      obtain ⟨y, hy⟩ : ∃ y, y = x.getD k 0 := ⟨_, rfl⟩
      have hcellk := hcell k (by omega)
      rw [← hy] at hcellk
      have Hcell := Lib.hid hcellk; have HY := Lib.hid hy; have Hgl := Lib.hid hgl; have HkN := Lib.hid hkN
      clear b3 hr HPut hpl hps ho hN hrx hx hk hBg hgl hcell hcellk hy hkN
      go_wp2_with fail
      refine HRi.out.mono ?_
      rintro e w4 ⟨rfl, b4⟩
      have H4 := Lib.hid (H3.out.trans (b4.mono H3.out.size))
      have Ho4 := Lib.hid (Ho.out.below b4 (Nat.le_refl _))
      have Hb34 := Lib.hid b4
      have HGx := Lib.hid (Get_any Ho4.out (by have := HN.out; omega) (Hw.out.below H4.out).ob.pr (Hw.out.below H4.out).et)
      clear b4 HRi
      go_wp2_with fail
      refine HGx.out.mono ?_
      rintro e w5 ⟨b5, ⟨l', v', hg, rfl, hv⟩ | ⟨hg, rfl⟩⟩
      rotate_left
      · rw [HX.out, put_get Hr.out (by have := HN.out; rw [HX.out] at this; omega)] at hg; cases hg
      have hll : l' = l := by
        rw [HX.out, put_get Hr.out (by have := HN.out; rw [HX.out] at this; omega)] at hg
        exact (Option.some.inj hg).symm
      subst hll
      have hv' := hv.rd
      obtain ⟨A5, c5, rfl⟩ := hv'.shape
      have H5 := Lib.hid (H4.out.trans (b5.mono H4.out.size))
      have Ho5 := Lib.hid (Ho4.out.below b5 (Nat.le_refl _))
      have Hb35 := Lib.hid (Hb34.out.trans (b5.mono Hb34.out.size))
      have HSm := Lib.hid (Same_any' hv' (Hx.out.below H5.out (Nat.le_refl _)) (by have := Hsm.out.len; omega))
      rw [decide_eq_true rfl] at HSm
      clear b5 hg hv hv' HGx Ho4 Hb34
      go_wp2_with fail
      refine HSm.out.mono ?_
      rintro e w6 ⟨rfl, b6⟩
      have H6 := Lib.hid (H5.out.trans (b6.mono H5.out.size))
      have Ho6 := Lib.hid (Ho5.out.below b6 (Nat.le_refl _))
      have Hb36 := Lib.hid (Hb35.out.trans (b6.mono Hb35.out.size))
      have hcut := fun W => run_cut0 W (some ⟨g, 0, none⟩) N c3 k (by have := HkN.out; have := rb_cap Ho.out HN.out.1; omega)
      have HGk := Lib.hid (Get_any (rb_take Ho6.out HN.out.1 (Nat.le_of_lt HkN.out)) (by rw [List.length_take]; have := HN.out; omega) (Hw.out.below H6.out).ob.pr (Hw.out.below H6.out).et)
      clear b6 HSm Ho5 Hb35
      go_wp2_with fail
      refine HGk.out.mono ?_
      intro e w7 hh
      have hgk := got hh
      clear hh HGk hcut
      rcases hgk with ⟨b7, ⟨hg7, rfl⟩ | ⟨u7, A7, N7, c7, hg7, rfl, hu7⟩⟩
      · have H7 := Lib.hid (H6.out.trans (b7.mono H6.out.size))
        have Ho7 := Lib.hid (Ho6.out.below b7 (Nat.le_refl _))
        have Hb37 := Lib.hid (Hb36.out.trans (b7.mono Hb36.out.size))
        clear hg7
        obtain ⟨w8, hw8⟩ : ∃ z, z = w7.alloc (.cells #[] 5) := ⟨_, rfl⟩
        have hn8 : Dl.Ow w8 w7.heap.size (.slice (some ⟨w7.heap.size, 0, none⟩) 0 0) [] := by rw [hw8]; exact ow_new0 w7 _ (Nat.le_refl _)
        have b8 : Below w7.heap.size w7 w8 := by rw [hw8]; exact below_new w7 _
        have HW8 := Lib.hid hw8; have HN8 := Lib.hid hn8; have HB8 := Lib.hid b8; have HR8 := Lib.hid (Ho7.out.below b8 (Nat.le_refl _))
        have HXl : Hid (x.length ≤ 40000) := Lib.hid (by have := HN.out; omega)
        clear b7 hw8 hn8 b8
        go_wp2_with (first | rw [← HW8.out] | (at_builtin; refine Dl.wpList_app rfl _ _ rfl w7.heap.size (.slice (some ⟨w7.heap.size, 0, none⟩) 0 0) (.slice (some ⟨g, 0, none⟩) N c3) [] x rfl rfl HN8.out HR8.out ?c1 ?c2 ?_))
        case c1 => have := HXl.out; simp; omega
        case c2 => exact HB8.out.size
        intro v9 w9 ho9 b9
        obtain ⟨g9, c9, rfl, hg9, hl9, hc9, hz9⟩ := ow_shape ho9 (by have := HN.out; simp; omega)
        have hz9k := hz9 k
        have hc9k := hc9 k (by have := HN.out; have := HkN.out; simp; omega)
        have e9 : x.length = N := HN.out.1.symm
        have hos := ow_set ho9 k c
        try simp only [List.nil_append] at hos ⊢
        rw [e9] at hos ⊢
        obtain ⟨w10, hw10⟩ : ∃ z, z = w9.setCell ⟨g9, k, none⟩ (.int .u8 (c.toNat : Int)) := ⟨_, rfl⟩
        have b79 : Below w7.heap.size w7 w9 := HB8.out.trans b9
        have b710 : Below w7.heap.size w7 w10 := by rw [hw10]; exact b79.setCell (p := ⟨g9, k, none⟩) hg9 _
        have hos : Dl.Ow w10 w7.heap.size (.slice (some ⟨g9, 0, none⟩) N c9) (x.set k c) := by rw [hw10]; exact hos
        have H10 := Lib.hid (H7.out.trans (b710.mono H7.out.size))
        have Hb310 := Lib.hid (Hb37.out.trans (b710.mono Hb37.out.size))
        have hx9 := fun W => at_u8 W g9 N c9 k HkN.out
        have hx0 := fun W => at_u8 W g N c3 k HkN.out
        have HGo := Lib.hid (Get_any hos.rb (by rw [List.length_set]; have := HN.out; omega) (Hw.out.below H10.out).ob.pr (Hw.out.below H10.out).et)
        have HW10 := Lib.hid hw10
        clear ho9 b9 hg9 hl9 hc9 hz9 e9 hos b79 b710 hw10 HN8 HB8 HR8 HW8
        go_upto_region 15 with fail
        rw [← HW10.out]
        clear HW10 hz9k hc9k hx9
        go_wp2_with fail
        refine HGo.out.mono ?_
        intro e w11 hh
        have hgo := got hh
        clear hh HGo
        have hck := Hb310.out
        by_cases hc : c = y
        · rcases hgo with ⟨b11, ⟨hg11, rfl⟩ | ⟨u11, A11, N11, c11, hg11, rfl, hu11⟩⟩
          · rw [hc, HY.out, set_same (by have := HN.out; have := HkN.out; omega), HX.out, put_get Hr.out (by have := HN.out; rw [HX.out] at this; omega)] at hg11; cases hg11
          have hul : u11 = l' := by
            rw [hc, HY.out, set_same (by have := HN.out; have := HkN.out; omega), HX.out, put_get Hr.out (by have := HN.out; rw [HX.out] at this; omega)] at hg11
            exact (Option.some.inj hg11).symm
          have hcy := hc
          clear hg11
          subst hcy
          have H11 := Lib.hid (H10.out.trans (b11.mono H10.out.size))
          have hxk : w11.cell? ⟨g, k, none⟩ = some (.int .u8 (c.toNat : Int)) := by
            have hlt := Hgl.out
            have h1 := Hb310.out.trans (b11.mono Hb310.out.size)
            rw [h1.cell (p := ⟨g, k, none⟩) hlt]
            exact Hcell.out
          have HS11 := Lib.hid (fun W (hW : Below w11.heap.size w11 W) => Same_any' (hu11.below hW (Nat.le_refl _)) (Hx.out.below (H11.out.trans (hW.mono H11.out.size)) (Nat.le_refl _)) (by rw [hul]; have := Hsm.out.len; omega))
          rw [decide_eq_true hul] at HS11
          clear hul hu11
          clear b11 hck
          have HS2 := Lib.hid (HS11.out w11 (Below.refl _ _))
          go_wp2_with fail
          refine HS2.out.mono ?_
          rintro e w13 ⟨rfl, b13⟩
          have HZ := Lib.hid (H11.out.trans (b13.mono H11.out.size))
          have hxk := cell_to hxk b13
          clear b13 HS2
          have HGb := Lib.hid (Get_any (HRb.out.below HZ.out (Nat.le_refl _)) (by have := HMM.out; omega) (Hw.out.below HZ.out).ob.pr (Hw.out.below HZ.out).et)
          go_wp2_with fail
          refine HGb.out.mono ?_
          rintro e w20 ⟨b20, ⟨lu, vu, hg, rfl, hv⟩ | ⟨hg, rfl⟩⟩
          · have hr := (getP_iff.1 hg).1
            have hbe := (getP_iff.1 hg).2.1
            have hu := hv.rd
            obtain ⟨Au, cu, rfl⟩ := hu.shape
            have H20 := Lib.hid (HZ.out.trans (b20.mono HZ.out.size))
            have HPu := Lib.hid (Put_any hu (right_smal hr) (fun _ => by rw [← hbe]; have := HMM.out; omega) (Hw.out.below H20.out).ob.pr (Hw.out.below H20.out).et)
            have Hr := Lib.hid hr; have Hbe := Lib.hid hbe
            have HRb2 := Lib.hid (HRb.out.below H20.out (Nat.le_refl _))
            clear hr hbe hu hv hg b20 HGb
            go_wp2_with fail
            refine HPu.out.mono ?_
            rintro e w21 ⟨b21, ⟨hr, -⟩ | ⟨hr, A9, N9, c9, rfl, hN9, ho9⟩⟩
            · rw [Hr.out] at hr; cases hr
            have H21 := Lib.hid (H20.out.trans (b21.mono H20.out.size))
            have hrb9 := ho9.rb
            rw [← Hbe.out] at hrb9 hN9
            have cv1 := hrb9.conv
            have cv2 := (HRb2.out.below b21 (Nat.le_refl _)).conv
            clear hr ho9 hrb9 b21 hN9
            go_wp2_with fail
            go_ret
            exact ⟨rfl, H21.out⟩
          · have H20 := Lib.hid (HZ.out.trans (b20.mono HZ.out.size))
            clear b20 hg HGb
            go_wp2_with fail
            go_ret
            exact ⟨rfl, H20.out⟩
        · have h2 : ¬ (c.toNat : Int) = (y.toNat : Int) := fun h => hc (UInt8.toNat_inj.1 (by omega))
          have h3 : ¬ c.toNat = y.toNat := fun h => hc (UInt8.toNat_inj.1 h)
          rcases hgo with ⟨b11, ⟨hg11, rfl⟩ | ⟨u11, A11, N11, c11, hg11, rfl, hu11⟩⟩
          · clear hg11
            have H11 := Lib.hid (H10.out.trans (b11.mono H10.out.size))
            have hxk : w11.cell? ⟨g, k, none⟩ = some (.int .u8 (y.toNat : Int)) := by
              have hlt := Hgl.out
              have h1 := Hb310.out.trans (b11.mono Hb310.out.size)
              rw [h1.cell (p := ⟨g, k, none⟩) hlt]
              exact Hcell.out
            clear b11 hck
            have HZ := H11
            have HGb := Lib.hid (Get_any (HRb.out.below HZ.out (Nat.le_refl _)) (by have := HMM.out; omega) (Hw.out.below HZ.out).ob.pr (Hw.out.below HZ.out).et)
            go_wp2_with fail
            refine HGb.out.mono ?_
            rintro e w20 ⟨b20, ⟨lu, vu, hg, rfl, hv⟩ | ⟨hg, rfl⟩⟩
            · have hr := (getP_iff.1 hg).1
              have hbe := (getP_iff.1 hg).2.1
              have hu := hv.rd
              obtain ⟨Au, cu, rfl⟩ := hu.shape
              have H20 := Lib.hid (HZ.out.trans (b20.mono HZ.out.size))
              have HPu := Lib.hid (Put_any hu (right_smal hr) (fun _ => by rw [← hbe]; have := HMM.out; omega) (Hw.out.below H20.out).ob.pr (Hw.out.below H20.out).et)
              have Hr := Lib.hid hr; have Hbe := Lib.hid hbe
              have HRb2 := Lib.hid (HRb.out.below H20.out (Nat.le_refl _))
              clear hr hbe hu hv hg b20 HGb
              go_wp2_with fail
              refine HPu.out.mono ?_
              rintro e w21 ⟨b21, ⟨hr, -⟩ | ⟨hr, A9, N9, c9, rfl, hN9, ho9⟩⟩
              · rw [Hr.out] at hr; cases hr
              have H21 := Lib.hid (H20.out.trans (b21.mono H20.out.size))
              have hrb9 := ho9.rb
              rw [← Hbe.out] at hrb9 hN9
              have cv1 := hrb9.conv
              have cv2 := (HRb2.out.below b21 (Nat.le_refl _)).conv
              clear hr ho9 hrb9 b21 hN9
              go_wp2_with fail
              go_ret
              exact ⟨rfl, H21.out⟩
            · have H20 := Lib.hid (HZ.out.trans (b20.mono HZ.out.size))
              clear b20 hg HGb
              go_wp2_with fail
              go_ret
              exact ⟨rfl, H20.out⟩
          have hul : u11 ≠ l' := by
            have hc' := hc
            rw [HY.out] at hc'
            rw [HX.out] at hg11 hc'
            exact other_get (l := l') (by have h1 := HN.out.1; have h2 := HkN.out; rw [HX.out] at h1; omega) hc' hg11
          have H11 := Lib.hid (H10.out.trans (b11.mono H10.out.size))
          have hxk : w11.cell? ⟨g, k, none⟩ = some (.int .u8 (y.toNat : Int)) := by
            have hlt := Hgl.out
            have h1 := Hb310.out.trans (b11.mono Hb310.out.size)
            rw [h1.cell (p := ⟨g, k, none⟩) hlt]
            exact Hcell.out
          have HS11 := Lib.hid (fun W (hW : Below w11.heap.size w11 W) => Same_any' (hu11.below hW (Nat.le_refl _)) (Hx.out.below (H11.out.trans (hW.mono H11.out.size)) (Nat.le_refl _)) (got_len hg11))
          rw [decide_eq_false hul] at HS11
          clear hul hg11 hu11
          clear b11 hck
          have HS2 := Lib.hid (HS11.out w11 (Below.refl _ _))
          go_wp2_with fail
          refine HS2.out.mono ?_
          rintro e w13 ⟨rfl, b13⟩
          have HZ := Lib.hid (H11.out.trans (b13.mono H11.out.size))
          have hxk := cell_to hxk b13
          clear b13 HS2
          have HGb := Lib.hid (Get_any (HRb.out.below HZ.out (Nat.le_refl _)) (by have := HMM.out; omega) (Hw.out.below HZ.out).ob.pr (Hw.out.below HZ.out).et)
          go_wp2_with fail
          refine HGb.out.mono ?_
          rintro e w20 ⟨b20, ⟨lu, vu, hg, rfl, hv⟩ | ⟨hg, rfl⟩⟩
          · have hr := (getP_iff.1 hg).1
            have hbe := (getP_iff.1 hg).2.1
            have hu := hv.rd
            obtain ⟨Au, cu, rfl⟩ := hu.shape
            have H20 := Lib.hid (HZ.out.trans (b20.mono HZ.out.size))
            have HPu := Lib.hid (Put_any hu (right_smal hr) (fun _ => by rw [← hbe]; have := HMM.out; omega) (Hw.out.below H20.out).ob.pr (Hw.out.below H20.out).et)
            have Hr := Lib.hid hr; have Hbe := Lib.hid hbe
            have HRb2 := Lib.hid (HRb.out.below H20.out (Nat.le_refl _))
            clear hr hbe hu hv hg b20 HGb
            go_wp2_with fail
            refine HPu.out.mono ?_
            rintro e w21 ⟨b21, ⟨hr, -⟩ | ⟨hr, A9, N9, c9, rfl, hN9, ho9⟩⟩
            · rw [Hr.out] at hr; cases hr
            have H21 := Lib.hid (H20.out.trans (b21.mono H20.out.size))
            have hrb9 := ho9.rb
            rw [← Hbe.out] at hrb9 hN9
            have cv1 := hrb9.conv
            have cv2 := (HRb2.out.below b21 (Nat.le_refl _)).conv
            clear hr ho9 hrb9 b21 hN9
            go_wp2_with fail
            go_ret
            exact ⟨rfl, H21.out⟩
          · have H20 := Lib.hid (HZ.out.trans (b20.mono HZ.out.size))
            clear b20 hg HGb
            go_wp2_with fail
            go_ret
            exact ⟨rfl, H20.out⟩
      · have H7 := Lib.hid (H6.out.trans (b7.mono H6.out.size))
        have Ho7 := Lib.hid (Ho6.out.below b7 (Nat.le_refl _))
        have Hb37 := Lib.hid (Hb36.out.trans (b7.mono Hb36.out.size))
        have HU7 := Lib.hid hu7; have Hul7 := Lib.hid (And.intro (cut_get (l := l') (k := k) (by rw [← HX.out]; have := HN.out; have := HkN.out; omega) (by rw [HX.out] at hg7; exact hg7)) (got_len hg7))
        clear hu7 hg7
        obtain ⟨w8, hw8⟩ : ∃ z, z = w7.alloc (.cells #[] 5) := ⟨_, rfl⟩
        have hn8 : Dl.Ow w8 w7.heap.size (.slice (some ⟨w7.heap.size, 0, none⟩) 0 0) [] := by rw [hw8]; exact ow_new0 w7 _ (Nat.le_refl _)
        have b8 : Below w7.heap.size w7 w8 := by rw [hw8]; exact below_new w7 _
        have HW8 := Lib.hid hw8; have HN8 := Lib.hid hn8; have HB8 := Lib.hid b8; have HR8 := Lib.hid (Ho7.out.below b8 (Nat.le_refl _))
        have HXl : Hid (x.length ≤ 40000) := Lib.hid (by have := HN.out; omega)
        clear b7 hw8 hn8 b8
        go_wp2_with (first | rw [← HW8.out] | (at_builtin; refine Dl.wpList_app rfl _ _ rfl w7.heap.size (.slice (some ⟨w7.heap.size, 0, none⟩) 0 0) (.slice (some ⟨g, 0, none⟩) N c3) [] x rfl rfl HN8.out HR8.out ?c1 ?c2 ?_))
        case c1 => have := HXl.out; simp; omega
        case c2 => exact HB8.out.size
        intro v9 w9 ho9 b9
        obtain ⟨g9, c9, rfl, hg9, hl9, hc9, hz9⟩ := ow_shape ho9 (by have := HN.out; simp; omega)
        have hz9k := hz9 k
        have hc9k := hc9 k (by have := HN.out; have := HkN.out; simp; omega)
        have e9 : x.length = N := HN.out.1.symm
        have hos := ow_set ho9 k c
        try simp only [List.nil_append] at hos ⊢
        rw [e9] at hos ⊢
        obtain ⟨w10, hw10⟩ : ∃ z, z = w9.setCell ⟨g9, k, none⟩ (.int .u8 (c.toNat : Int)) := ⟨_, rfl⟩
        have b79 : Below w7.heap.size w7 w9 := HB8.out.trans b9
        have b710 : Below w7.heap.size w7 w10 := by rw [hw10]; exact b79.setCell (p := ⟨g9, k, none⟩) hg9 _
        have hos : Dl.Ow w10 w7.heap.size (.slice (some ⟨g9, 0, none⟩) N c9) (x.set k c) := by rw [hw10]; exact hos
        have H10 := Lib.hid (H7.out.trans (b710.mono H7.out.size))
        have Hb310 := Lib.hid (Hb37.out.trans (b710.mono Hb37.out.size))
        have HU10 := Lib.hid (HU7.out.below b710 (Nat.le_refl _))
        have hx9 := fun W => at_u8 W g9 N c9 k HkN.out
        have hx0 := fun W => at_u8 W g N c3 k HkN.out
        have HGo := Lib.hid (Get_any hos.rb (by rw [List.length_set]; have := HN.out; omega) (Hw.out.below H10.out).ob.pr (Hw.out.below H10.out).et)
        have HW10 := Lib.hid hw10
        clear ho9 b9 hg9 hl9 hc9 hz9 e9 hos b79 b710 hw10 HN8 HB8 HR8 HW8
        go_upto_region 15 with fail
        rw [← HW10.out]
        clear HW10 hz9k hc9k hx9
        go_wp2_with fail
        refine HGo.out.mono ?_
        intro e w11 hh
        have hgo := got hh
        clear hh HGo
        have hck := Hb310.out
        by_cases hc : c = y
        · rcases hgo with ⟨b11, ⟨hg11, rfl⟩ | ⟨u11, A11, N11, c11, hg11, rfl, hu11⟩⟩
          · rw [hc, HY.out, set_same (by have := HN.out; have := HkN.out; omega), HX.out, put_get Hr.out (by have := HN.out; rw [HX.out] at this; omega)] at hg11; cases hg11
          have hul : u11 = l' := by
            rw [hc, HY.out, set_same (by have := HN.out; have := HkN.out; omega), HX.out, put_get Hr.out (by have := HN.out; rw [HX.out] at this; omega)] at hg11
            exact (Option.some.inj hg11).symm
          have hcy := hc
          clear hg11
          subst hcy
          have H11 := Lib.hid (H10.out.trans (b11.mono H10.out.size))
          have hxk : w11.cell? ⟨g, k, none⟩ = some (.int .u8 (c.toNat : Int)) := by
            have hlt := Hgl.out
            have h1 := Hb310.out.trans (b11.mono Hb310.out.size)
            rw [h1.cell (p := ⟨g, k, none⟩) hlt]
            exact Hcell.out
          have HS11 := Lib.hid (fun W (hW : Below w11.heap.size w11 W) => Same_any' (hu11.below hW (Nat.le_refl _)) (Hx.out.below (H11.out.trans (hW.mono H11.out.size)) (Nat.le_refl _)) (by rw [hul]; have := Hsm.out.len; omega))
          rw [decide_eq_true hul] at HS11
          clear hul hu11
          have HS7 := Lib.hid (Same_any' (HU10.out.below b11 (Nat.le_refl _)) (Hx.out.below H11.out (Nat.le_refl _)) Hul7.out.2)
          rw [decide_eq_false Hul7.out.1] at HS7
          have Hxk := Lib.hid hxk
          clear b11 hxk hck
          go_wp2_with fail
          refine HS7.out.mono ?_
          rintro e w12 ⟨rfl, b12⟩
          have H12 := Lib.hid (H11.out.trans (b12.mono H11.out.size))
          have hxk := cell_to Hxk.out b12
          have HS2 := Lib.hid (HS11.out w12 b12)
          clear HS7 Hxk b12
          go_wp2_with fail
          refine HS2.out.mono ?_
          rintro e w13 ⟨rfl, b13⟩
          have HZ := Lib.hid (H12.out.trans (b13.mono H12.out.size))
          have hxk := cell_to hxk b13
          clear b13 HS2
          have HGb := Lib.hid (Get_any (HRb.out.below HZ.out (Nat.le_refl _)) (by have := HMM.out; omega) (Hw.out.below HZ.out).ob.pr (Hw.out.below HZ.out).et)
          go_wp2_with fail
          refine HGb.out.mono ?_
          rintro e w20 ⟨b20, ⟨lu, vu, hg, rfl, hv⟩ | ⟨hg, rfl⟩⟩
          · have hr := (getP_iff.1 hg).1
            have hbe := (getP_iff.1 hg).2.1
            have hu := hv.rd
            obtain ⟨Au, cu, rfl⟩ := hu.shape
            have H20 := Lib.hid (HZ.out.trans (b20.mono HZ.out.size))
            have HPu := Lib.hid (Put_any hu (right_smal hr) (fun _ => by rw [← hbe]; have := HMM.out; omega) (Hw.out.below H20.out).ob.pr (Hw.out.below H20.out).et)
            have Hr := Lib.hid hr; have Hbe := Lib.hid hbe
            have HRb2 := Lib.hid (HRb.out.below H20.out (Nat.le_refl _))
            clear hr hbe hu hv hg b20 HGb
            go_wp2_with fail
            refine HPu.out.mono ?_
            rintro e w21 ⟨b21, ⟨hr, -⟩ | ⟨hr, A9, N9, c9, rfl, hN9, ho9⟩⟩
            · rw [Hr.out] at hr; cases hr
            have H21 := Lib.hid (H20.out.trans (b21.mono H20.out.size))
            have hrb9 := ho9.rb
            rw [← Hbe.out] at hrb9 hN9
            have cv1 := hrb9.conv
            have cv2 := (HRb2.out.below b21 (Nat.le_refl _)).conv
            clear hr ho9 hrb9 b21 hN9
            go_wp2_with fail
            go_ret
            exact ⟨rfl, H21.out⟩
          · have H20 := Lib.hid (HZ.out.trans (b20.mono HZ.out.size))
            clear b20 hg HGb
            go_wp2_with fail
            go_ret
            exact ⟨rfl, H20.out⟩
        · have h2 : ¬ (c.toNat : Int) = (y.toNat : Int) := fun h => hc (UInt8.toNat_inj.1 (by omega))
          have h3 : ¬ c.toNat = y.toNat := fun h => hc (UInt8.toNat_inj.1 h)
          rcases hgo with ⟨b11, ⟨hg11, rfl⟩ | ⟨u11, A11, N11, c11, hg11, rfl, hu11⟩⟩
          · clear hg11
            have H11 := Lib.hid (H10.out.trans (b11.mono H10.out.size))
            have hxk : w11.cell? ⟨g, k, none⟩ = some (.int .u8 (y.toNat : Int)) := by
              have hlt := Hgl.out
              have h1 := Hb310.out.trans (b11.mono Hb310.out.size)
              rw [h1.cell (p := ⟨g, k, none⟩) hlt]
              exact Hcell.out
            have HS7 := Lib.hid (Same_any' (HU10.out.below b11 (Nat.le_refl _)) (Hx.out.below H11.out (Nat.le_refl _)) Hul7.out.2)
            rw [decide_eq_false Hul7.out.1] at HS7
            have Hxk := Lib.hid hxk
            clear b11 hxk hck
            go_wp2_with fail
            refine HS7.out.mono ?_
            rintro e w12 ⟨rfl, b12⟩
            have H12 := Lib.hid (H11.out.trans (b12.mono H11.out.size))
            have hxk := cell_to Hxk.out b12
            clear HS7 Hxk b12
            have HZ := H12
            have HGb := Lib.hid (Get_any (HRb.out.below HZ.out (Nat.le_refl _)) (by have := HMM.out; omega) (Hw.out.below HZ.out).ob.pr (Hw.out.below HZ.out).et)
            go_wp2_with fail
            refine HGb.out.mono ?_
            rintro e w20 ⟨b20, ⟨lu, vu, hg, rfl, hv⟩ | ⟨hg, rfl⟩⟩
            · have hr := (getP_iff.1 hg).1
              have hbe := (getP_iff.1 hg).2.1
              have hu := hv.rd
              obtain ⟨Au, cu, rfl⟩ := hu.shape
              have H20 := Lib.hid (HZ.out.trans (b20.mono HZ.out.size))
              have HPu := Lib.hid (Put_any hu (right_smal hr) (fun _ => by rw [← hbe]; have := HMM.out; omega) (Hw.out.below H20.out).ob.pr (Hw.out.below H20.out).et)
              have Hr := Lib.hid hr; have Hbe := Lib.hid hbe
              have HRb2 := Lib.hid (HRb.out.below H20.out (Nat.le_refl _))
              clear hr hbe hu hv hg b20 HGb
              go_wp2_with fail
              refine HPu.out.mono ?_
              rintro e w21 ⟨b21, ⟨hr, -⟩ | ⟨hr, A9, N9, c9, rfl, hN9, ho9⟩⟩
              · rw [Hr.out] at hr; cases hr
              have H21 := Lib.hid (H20.out.trans (b21.mono H20.out.size))
              have hrb9 := ho9.rb
              rw [← Hbe.out] at hrb9 hN9
              have cv1 := hrb9.conv
              have cv2 := (HRb2.out.below b21 (Nat.le_refl _)).conv
              clear hr ho9 hrb9 b21 hN9
              go_wp2_with fail
              go_ret
              exact ⟨rfl, H21.out⟩
            · have H20 := Lib.hid (HZ.out.trans (b20.mono HZ.out.size))
              clear b20 hg HGb
              go_wp2_with fail
              go_ret
              exact ⟨rfl, H20.out⟩
          have hul : u11 ≠ l' := by
            have hc' := hc
            rw [HY.out] at hc'
            rw [HX.out] at hg11 hc'
            exact other_get (l := l') (by have h1 := HN.out.1; have h2 := HkN.out; rw [HX.out] at h1; omega) hc' hg11
          have H11 := Lib.hid (H10.out.trans (b11.mono H10.out.size))
          have hxk : w11.cell? ⟨g, k, none⟩ = some (.int .u8 (y.toNat : Int)) := by
            have hlt := Hgl.out
            have h1 := Hb310.out.trans (b11.mono Hb310.out.size)
            rw [h1.cell (p := ⟨g, k, none⟩) hlt]
            exact Hcell.out
          have HS11 := Lib.hid (fun W (hW : Below w11.heap.size w11 W) => Same_any' (hu11.below hW (Nat.le_refl _)) (Hx.out.below (H11.out.trans (hW.mono H11.out.size)) (Nat.le_refl _)) (got_len hg11))
          rw [decide_eq_false hul] at HS11
          clear hul hg11 hu11
          have HS7 := Lib.hid (Same_any' (HU10.out.below b11 (Nat.le_refl _)) (Hx.out.below H11.out (Nat.le_refl _)) Hul7.out.2)
          rw [decide_eq_false Hul7.out.1] at HS7
          have Hxk := Lib.hid hxk
          clear b11 hxk hck
          go_wp2_with fail
          refine HS7.out.mono ?_
          rintro e w12 ⟨rfl, b12⟩
          have H12 := Lib.hid (H11.out.trans (b12.mono H11.out.size))
          have hxk := cell_to Hxk.out b12
          have HS2 := Lib.hid (HS11.out w12 b12)
          clear HS7 Hxk b12
          go_wp2_with fail
          refine HS2.out.mono ?_
          rintro e w13 ⟨rfl, b13⟩
          have HZ := Lib.hid (H12.out.trans (b13.mono H12.out.size))
          have hxk := cell_to hxk b13
          clear b13 HS2
          have HGb := Lib.hid (Get_any (HRb.out.below HZ.out (Nat.le_refl _)) (by have := HMM.out; omega) (Hw.out.below HZ.out).ob.pr (Hw.out.below HZ.out).et)
          go_wp2_with fail
          refine HGb.out.mono ?_
          rintro e w20 ⟨b20, ⟨lu, vu, hg, rfl, hv⟩ | ⟨hg, rfl⟩⟩
          · have hr := (getP_iff.1 hg).1
            have hbe := (getP_iff.1 hg).2.1
            have hu := hv.rd
            obtain ⟨Au, cu, rfl⟩ := hu.shape
            have H20 := Lib.hid (HZ.out.trans (b20.mono HZ.out.size))
            have HPu := Lib.hid (Put_any hu (right_smal hr) (fun _ => by rw [← hbe]; have := HMM.out; omega) (Hw.out.below H20.out).ob.pr (Hw.out.below H20.out).et)
            have Hr := Lib.hid hr; have Hbe := Lib.hid hbe
            have HRb2 := Lib.hid (HRb.out.below H20.out (Nat.le_refl _))
            clear hr hbe hu hv hg b20 HGb
            go_wp2_with fail
            refine HPu.out.mono ?_
            rintro e w21 ⟨b21, ⟨hr, -⟩ | ⟨hr, A9, N9, c9, rfl, hN9, ho9⟩⟩
            · rw [Hr.out] at hr; cases hr
            have H21 := Lib.hid (H20.out.trans (b21.mono H20.out.size))
            have hrb9 := ho9.rb
            rw [← Hbe.out] at hrb9 hN9
            have cv1 := hrb9.conv
            have cv2 := (HRb2.out.below b21 (Nat.le_refl _)).conv
            clear hr ho9 hrb9 b21 hN9
            go_wp2_with fail
            go_ret
            exact ⟨rfl, H21.out⟩
          · have H20 := Lib.hid (HZ.out.trans (b20.mono HZ.out.size))
            clear b20 hg HGb
            go_wp2_with fail
            go_ret
            exact ⟨rfl, H20.out⟩
end Go.Proofs.YtgjddkeogboojaaGreatDoor.Pk
