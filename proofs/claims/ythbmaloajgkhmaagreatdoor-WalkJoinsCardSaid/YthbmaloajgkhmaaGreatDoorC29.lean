/-
  WalkJoins.
-/
import Derived.Test.YthbmaloajgkhmaaGreatDoorC23
import Derived.Test.YthbmaloajgkhmaaGreatDoorC24
import Derived.Test.YthbmaloajgkhmaaGreatDoorC27
import Derived.Test.YthbmaloajgkhmaaGreatDoorC25

namespace Go.Proofs.YthbmaloajgkhmaaGreatDoor
open Go Go.RowKit Go.Maps

theorem neq_obj (W : World) (k : Int) (d : ByteArray) : (binOp .neq 26 (.agg #[.int .i64 k, .string d]) (.agg #[.int .i64 k, .string d])).run Tryz.prog W = .ok (.bool false) W := by
  simp [go_sem]
theorem grd_obj (W : World) (x y : Operand) (k : Int) (d : ByteArray) : (eqGuard .neq 26 x y (.agg #[.int .i64 k, .string d]) (.agg #[.int .i64 k, .string d])).run Tryz.prog W = .ok () W := by
  simp [eqGuard, go_sem]
theorem geq_lt (W : World) (x y : Bs) (h : x < y) : (binOp .geq 9 (.string ⟨x.toArray⟩) (.string ⟨y.toArray⟩)).run Tryz.prog W = .ok (.bool false) W := by
  show (Op.stringOp .geq _ _).run _ _ = _
  have e := Go.Proofs.bytesLess_eq x y
  rw [decide_eq_true h] at e
  simp [go_sem, Op.stringOp, e]
theorem neq_same (W : World) (x : Bs) : (binOp .neq 9 (.string ⟨x.toArray⟩) (.string ⟨x.toArray⟩)).run Tryz.prog W = .ok (.bool false) W := by
  show (Op.stringOp .neq _ _).run _ _ = _
  simp [go_sem, Op.stringOp]
theorem gtr_k (W : World) (k : Nat) (b : Bool) (h : decide (0 < k) = b) : (binOp .gtr 3 (.int .i64 (k : Int)) (.int .i64 0)).run Tryz.prog W = .ok (.bool b) W := by
  cases b with
  | true =>
    have h1 : (0 : Int) < (k : Int) := by have := of_decide_eq_true h; omega
    simp [go_sem]; omega
  | false =>
    have h1 : ¬ (0 : Int) < (k : Int) := by have := of_decide_eq_false h; omega
    simp [go_sem]; omega
theorem sub_1 (W : World) (j : Nat) (h : j ≤ 1000000) : (binOp .sub 3 (.int .i64 ((j + 1 : Nat) : Int)) (.int .i64 1)).run Tryz.prog W = .ok (.int .i64 (j : Int)) W := by
  have e : IntKind.i64.wrap (j : Int) = (j : Int) := IntWalk.i64_in _ (by omega)
  simp [go_sem, e]
theorem fh_0 (W : World) (b o : Nat) : (Instr.fieldAt 35 (.pointer (some ⟨b, o, none⟩)) 0).run Tryz.prog W = .ok (.pointer (some ⟨b, o, none⟩)) W := by simp [go_sem]
theorem fh_1 (W : World) (b o : Nat) : (Instr.fieldAt 35 (.pointer (some ⟨b, o, none⟩)) 1).run Tryz.prog W = .ok (.pointer (some ⟨b, o + 1, none⟩)) W := by simp [go_sem]
theorem isD_nm (c : UInt8) : isD (hexD (c / 16)) = true ∧ isD (hexD (c % 16)) = true := by
  have key : ∀ n : Fin 256, (isD (hexD (UInt8.ofFin n / 16)) && isD (hexD (UInt8.ofFin n % 16))) = true := by decide +kernel
  have h := key c.toFin
  simpa using h
theorem named_nm (l : List UInt8) : namedB (nameL l) = true := by
  unfold namedB
  rw [nameL_length]
  simp only [beq_self_eq_true, Bool.true_and]
  unfold nameL
  generalize sumL l = s
  induction s with
  | nil => rfl
  | cons c s ih => simp only [List.flatMap_cons, List.all_append, ih, List.all_cons, List.all_nil, (isD_nm c).1, (isD_nm c).2, Bool.and_true]
theorem named_one (k : Int) (d : Bs) (h : idL k d ≠ []) : namedB (idL k d) = true := by
  unfold idL at h ⊢
  split
  · exact named_nm _
  · rename_i h2; rw [if_neg h2] at h; exact absurd rfl h
theorem set_each {o : List (Int × Bs)} {r : List Hld} (h : IsSet (setL o) r) {z : Hld} (hz : z ∈ r) : idL z.kind z.data = z.id ∧ namedB z.id = true := by
  have hm := findL_mem ((h.mem z).1 hz)
  unfold setL at hm
  obtain ⟨x, _, hx⟩ := List.mem_flatMap.1 hm
  by_cases e : idL x.1 x.2 = []
  · rw [if_pos e] at hx; cases hx
  · rw [if_neg e] at hx
    rw [List.mem_singleton.1 hx]
    exact ⟨rfl, named_one _ _ e⟩
theorem set_data {o : List (Int × Bs)} {r : List Hld} (h : IsSet (setL o) r) {z : Hld} (hz : z ∈ r) : ∃ x ∈ o, x.2 = z.data := by
  have hm := findL_mem ((h.mem z).1 hz)
  unfold setL at hm
  obtain ⟨x, hx0, hx⟩ := List.mem_flatMap.1 hm
  by_cases e : idL x.1 x.2 = []
  · rw [if_pos e] at hx; cases hx
  · rw [if_neg e] at hx
    rw [List.mem_singleton.1 hx]
    exact ⟨x, hx0, rfl⟩
theorem join_each {a b r : List Hld} (h : IsSet (a ++ b) r) {z : Hld} (hz : z ∈ r) : findL a z.id = some z ∨ (findL a z.id = none ∧ findL b z.id = some z) := by
  have hm := (h.mem z).1 hz
  rw [findL_append] at hm
  cases ha : findL a z.id with
  | some y => rw [ha, Option.some_or] at hm; exact .inl hm
  | none => rw [ha, Option.none_or] at hm; exact .inr ⟨rfl, hm⟩
theorem join_has {a b r : List Hld} (h : IsSet (a ++ b) r) {k : Nat} (hk : k < a.length) : thB r (a.getD k noHld).id = true := by
  unfold thB
  rw [h.find, findL_append]
  have hs : (findL a (a.getD k noHld).id).isSome = true := by
    unfold findL
    rw [List.find?_isSome]
    exact ⟨a.getD k noHld, getD_mem a noHld k hk, by simp⟩
  obtain ⟨y, hy⟩ := Option.isSome_iff_exists.1 hs
  rw [hy]; rfl
theorem objC_agg (o : Option Hld) : ∃ k d, objC o = .agg #[.int .i64 k, .string ⟨(d : Bs).toArray⟩] := by
  cases o with
  | none => exact ⟨0, [], rfl⟩
  | some h => exact ⟨h.kind, h.data, rfl⟩
theorem rise_at {r : List Hld} (h : r.Pairwise fun x y => x.id < y.id) {j : Nat} (hj : j + 1 < r.length) : (r.getD j noHld).id < (r.getD (j + 1) noHld).id := by
  rw [List.getD_eq_getElem?_getD, List.getD_eq_getElem?_getD, List.getElem?_eq_getElem (by omega : j < r.length), List.getElem?_eq_getElem hj]
  exact List.pairwise_iff_getElem.1 h j (j + 1) (by omega) hj (by omega)
set_option maxHeartbeats 16000000 in
set_option maxRecDepth 100000 in
theorem Joins_law (w : World) (ho : Ob w) {va vb v : Value} {a b : List Hld} {ob : List (Int × Bs)} (h1 : HldsR w va a) (hl1 : a.length ≤ limW) (h2 : HldsR w vb b) (hl2 : b.length ≤ limW) (h : ObjsR w v ob) (hl : ob.length ≤ limW) :
    Calls Tryz.prog 4 #[va, vb, v] w (RetBelow (.bool true) w) := by
  obtain ⟨A, c, rfl⟩ := h.shape
  obtain ⟨Aa, ca, rfl⟩ := h1.shape
  obtain ⟨Ab, cb, rfl⟩ := h2.shape
  obtain ⟨N, hN⟩ : ∃ N, N = ob.length := ⟨_, rfl⟩
  have hNl : N ≤ 140737488355328 := by unfold limW at hl; omega
  rw [← hN] at h ⊢
  have HH := Lib.hid (head_any ho); have HOb := Lib.hid ho; have HO := Lib.hid h; have Ha := Lib.hid h1; have Hb := Lib.hid h2; have HN := Lib.hid hN; have Hl1 := Lib.hid hl1; have Hl2 := Lib.hid hl2
  clear h h1 h2 hl hl1 hl2 ho hN
  go_enter Tryz.func4, Tryz.ntmps4
  go_wp2_with fail
  refine HH.out.mono ?_
  rintro e w1 ⟨rfl, l9⟩
  have L1 := Lib.hid l9
  clear l9
  go_wp2_with fail
  refine (Great_any (Ha.out.below L1.out (Nat.le_refl _)) Hl1.out).mono ?_
  rintro e w2 ⟨gr, rfl, l9, hg⟩
  have L2 := Lib.hid (L1.out.trans (l9.mono L1.out.size))
  clear l9
  cases gr with
  | true =>
    clear hg
    go_wp2_with fail
    go_ret
    exact ⟨rfl, L2.out⟩
  | false =>
  have HG2 := Lib.hid (hg rfl)
  clear hg
  go_wp2_with fail
  refine (Great_any (Hb.out.below L2.out (Nat.le_refl _)) Hl2.out).mono ?_
  rintro e w3 ⟨gr, rfl, l9, hg⟩
  have L3 := Lib.hid (L2.out.trans (l9.mono L2.out.size))
  clear l9
  cases gr with
  | true =>
    clear hg
    go_wp2_with fail
    go_ret
    exact ⟨rfl, L3.out⟩
  | false =>
  have HG3 := Lib.hid (hg rfl)
  clear hg
  by_cases hN4 : 40 < N
  · have hNI : (40 : Int) < (N : Int) := by omega
    go_wp2_with fail
    go_ret
    exact ⟨rfl, L3.out⟩
  have hNI : ¬ (40 : Int) < (N : Int) := by omega
  have hN40 : N ≤ 40 := by omega
  clear hN4
  have HJn := Lib.hid (Join_any (w := w3) (Ha.out.below L3.out (Nat.le_refl _)) (Hb.out.below L3.out (Nat.le_refl _)) (small_len HG2.out) (small_len HG3.out) fun B v' w' hn => sort_any hn (by rw [List.length_append]; have := small_len HG2.out; have := small_len HG3.out; omega))
  go_wp2_with fail
  refine HJn.out.mono ?_
  rintro e w4 ⟨u4, r, rfl, s4, k4, n4, b4⟩
  obtain ⟨AJ, cJ, rfl⟩ := own_slice n4
  obtain ⟨R, hR⟩ : ∃ R, R = r.length := ⟨_, rfl⟩
  have hRl : R ≤ 200000 := by rw [List.length_append] at k4; have := small_len HG2.out; have := small_len HG3.out; omega
  have hrd := n4.rd
  rw [← hR] at hrd ⊢
  have L4 := Lib.hid (L3.out.trans (b4.mono L3.out.size)); have HS := Lib.hid s4; have HJ : Hid (HldsR w4 (.slice AJ R cJ) r) := Lib.hid hrd; have HR := Lib.hid hR
  clear s4 k4 n4 b4 HJn hrd hR
  have W40 := Lib.hid (Below.refl w4.heap.size w4)
  go_wp2_with fail
  go_loopw [9, 10, 11, 12, 13] (fun i _ _ _ _ wr => ∃ k : Nat, k ≤ R ∧ i = .int .i64 k ∧ Hid (Below w4.heap.size w4 wr)) (fun i _ _ _ _ _ => R - (intOf i).toNat)
  case atStart => exact ⟨0, Nat.zero_le _, rfl, W40⟩
  case round =>
    clear W40
    obtain ⟨k, hk, rfl, hB⟩ := hrel
    by_cases hlt : k < R
    · obtain ⟨g, o, c', e, _, hg⟩ := HJ.out.pos (by have := HR.out; omega)
      obtain rfl : AJ = some ⟨g, o, none⟩ := by rw [← HR.out] at e; cases e; rfl
      clear e
      have hkr : k < r.length := by have := HR.out; omega
      have hcl := fun W (hW : Below w4.heap.size w4 W) j (hj : j < r.length) => HldsR.cells (HJ.out.below hW (Nat.le_refl _)) j hj
      have HCl := Lib.hid hcl
      obtain ⟨c0, c1, c2⟩ := hcl wr hB.out k hkr
      have hz := join_each HS.out (getD_mem r noHld k hkr)
      have hri : ∀ j, k = j + 1 → (r.getD j noHld).id < (r.getD k noHld).id := fun j e => by subst e; exact rise_at HS.out.rise hkr
      obtain ⟨z, hzz⟩ : ∃ z, z = r.getD k noHld := ⟨_, rfl⟩
      have HZ : Hid (∀ W, Below w4.heap.size w4 W → W.cell? ⟨g, o + k * 3, none⟩ = some (.string ⟨z.id.toArray⟩) ∧ W.cell? ⟨g, o + k * 3 + 1, none⟩ = some (.int .i64 z.kind) ∧ W.cell? ⟨g, o + k * 3 + 2, none⟩ = some (.string ⟨z.data.toArray⟩)) := Lib.hid fun W hW => by
        have h := hcl W hW k hkr
        rw [← hzz] at h; exact h
      rw [← hzz] at c0 c1 c2 hz hri
      have HRi := Lib.hid hri
      have HFa := Lib.hid (fun W (hW : Below w.heap.size w W) => Find_any (Ha.out.below hW (Nat.le_refl _)) (by have := small_len HG2.out; omega) z.id)
      have HFb := Lib.hid (fun W (hW : Below w.heap.size w W) => Find_any (Hb.out.below hW (Nat.le_refl _)) (by have := small_len HG3.out; omega) z.id)
      unfold findV at HFa HFb
      obtain ⟨zi, zk, zd⟩ := z
      unfold SV at c0 c2
      simp only at c0 c1 c2 hz HFa HFb HZ HRi
      have hzc : (∃ yk yd yb, findL a zi = some ⟨zi, zk, zd⟩ ∧ objC (findL a zi) = .agg #[.int .i64 zk, .string ⟨zd.toArray⟩] ∧ thB a zi = true ∧ objC (findL b zi) = .agg #[.int .i64 yk, .string ⟨(yd : Bs).toArray⟩] ∧ thB b zi = yb) ∨
          (objC (findL a zi) = .agg #[.int .i64 0, .string ⟨#[]⟩] ∧ thB a zi = false ∧ objC (findL b zi) = .agg #[.int .i64 zk, .string ⟨zd.toArray⟩] ∧ thB b zi = true) := by
        rcases hz with h | ⟨h, h'⟩
        · obtain ⟨yk, yd, e⟩ := objC_agg (findL b zi)
          exact .inl ⟨yk, yd, _, h, by rw [h]; rfl, by unfold thB; rw [h]; rfl, e, rfl⟩
        · exact .inr ⟨by rw [h]; rfl, by unfold thB; rw [h]; rfl, by rw [h']; rfl, by unfold thB; rw [h']; rfl⟩
      clear hz hzz hri hcl hg c1 c2
      rcases hzc with ⟨yk, yd, yb, -, ea, ta, eb, tb⟩ | ⟨ea, ta, eb, tb⟩
      · rw [ea, ta] at HFa
        rw [eb, tb] at HFb
        clear ea ta eb tb
        go_wp2_with fail
        refine (HFa.out wr (L4.out.trans (hB.out.mono L4.out.size))).mono ?_
        rintro e w5 ⟨rfl, l9⟩
        obtain ⟨w6, hw6⟩ : ∃ y, y = w5.alloc (.cells #[.int .i64 zk, .string ⟨zd.toArray⟩] 26) := ⟨_, rfl⟩
        have hk6 : w6.heap[w5.heap.size]? = some (.cells #[.int .i64 zk, .string ⟨zd.toArray⟩] 26 (0, 0)) := by rw [hw6]; exact heap_alloc_new w5 _
        have l6 : Below wr.heap.size wr w6 := by rw [hw6]; exact l9.alloc l9.size _
        have B6 := Lib.hid (hB.out.trans (l6.mono hB.out.size))
        have HK6 := Lib.hid hk6; have HW6 := Lib.hid hw6
        have c06 := (HZ.out w6 B6.out).1
        clear l9 l6 hk6 hw6 c0
        go_upto_region 9 with fail
        rw [← HW6.out]
        clear HW6
        go_wp2_with fail
        refine (HFb.out w6 (L4.out.trans (B6.out.mono L4.out.size))).mono ?_
        rintro e w7 ⟨rfl, l9⟩
        obtain ⟨w8, hw8⟩ : ∃ y, y = w7.alloc (.cells #[.int .i64 yk, .string ⟨yd.toArray⟩] 26) := ⟨_, rfl⟩
        have hk8 : w8.heap[w7.heap.size]? = some (.cells #[.int .i64 yk, .string ⟨yd.toArray⟩] 26 (0, 0)) := by rw [hw8]; exact heap_alloc_new w7 _
        have l8 : Below w6.heap.size w6 w8 := by rw [hw8]; exact l9.alloc l9.size _
        have B8 := Lib.hid (B6.out.trans (l8.mono B6.out.size))
        have HX1 : Hid (∀ W, Below w8.heap.size w8 W → W.heap[w5.heap.size]? = some (.cells #[.int .i64 zk, .string ⟨zd.toArray⟩] 26 (0, 0))) := Lib.hid fun W hW => (hW.block _ (Nat.lt_of_lt_of_le (lt_heap HK6.out) l8.size)).trans ((l8.block _ (lt_heap HK6.out)).trans HK6.out)
        have HX2 : Hid (∀ W, Below w8.heap.size w8 W → W.heap[w7.heap.size]? = some (.cells #[.int .i64 yk, .string ⟨yd.toArray⟩] 26 (0, 0))) := Lib.hid fun W hW => (hW.block _ (lt_heap hk8)).trans hk8
        have HW8 := Lib.hid hw8
        clear l9 l8 hk8 hw8 c06 HK6 HFa HFb
        go_upto_region 10 with fail
        rw [← HW8.out]
        clear HW8
        have LD : Hid (Below w8.heap.size w8 w8.drew) := Lib.hid (Below.refl _ _).drew
        rcases Nat.eq_zero_or_pos k with hk0' | hk0'
        · have hk0 : decide (0 < k) = false := by rw [hk0']; rfl
          clear HRi hk0'
          refine AnyB.start (by kernel_rfl) ?_
          refine AnyB.take 0 (.int .i64 (k : Int)) rfl (by kernel_rfl) (by kernel_rfl) (by kernel_rfl) (fun _ _ _ h => h) (by kernel_rfl) (fun W hW => by kernel_rfl) ?_
          refine AnyB.take 1 (.bool false) rfl (by kernel_rfl) (by kernel_rfl) (by kernel_rfl) (fun _ _ _ h => h) (by kernel_rfl) (fun W hW => y_bin (x := .int .i64 (k : Int)) (y := .int .i64 0) rfl (by kernel_rfl) (by kernel_rfl) rfl (gtr_k W k _ hk0)) ?_
          refine AnyB.take 2 (.bool false) rfl (by kernel_rfl) (by kernel_rfl) (by kernel_rfl) (fun _ _ _ h => h) (by kernel_rfl) (fun W hW => by kernel_rfl) ?_
          refine AnyB.skip 3 rfl (by kernel_rfl) (by kernel_rfl) (by kernel_rfl) (fun _ _ _ h => h) (by kernel_rfl) ?_
          refine AnyB.skip 4 rfl (by kernel_rfl) (by kernel_rfl) (by kernel_rfl) (fun _ _ _ h => h) (by kernel_rfl) ?_
          refine AnyB.skip 5 rfl (by kernel_rfl) (by kernel_rfl) (by kernel_rfl) (fun _ _ _ h => h) (by kernel_rfl) ?_
          refine AnyB.skip 6 rfl (by kernel_rfl) (by kernel_rfl) (by kernel_rfl) (fun _ _ _ h => h) (by kernel_rfl) ?_
          refine AnyB.skip 7 rfl (by kernel_rfl) (by kernel_rfl) (by kernel_rfl) (fun _ _ _ h => h) (by kernel_rfl) ?_
          refine AnyB.skip 8 rfl (by kernel_rfl) (by kernel_rfl) (by kernel_rfl) (fun _ _ _ h => h) (by kernel_rfl) ?_
          refine AnyB.skip 9 rfl (by kernel_rfl) (by kernel_rfl) (by kernel_rfl) (fun _ _ _ h => h) (by kernel_rfl) ?_
          refine AnyB.skip 10 rfl (by kernel_rfl) (by kernel_rfl) (by kernel_rfl) (fun _ _ _ h => h) (by kernel_rfl) ?_
          refine AnyB.skip 11 rfl (by kernel_rfl) (by kernel_rfl) (by kernel_rfl) (fun _ _ _ h => h) (by kernel_rfl) ?_
          refine AnyB.skip 12 rfl (by kernel_rfl) (by kernel_rfl) (by kernel_rfl) (fun _ _ _ h => h) (by kernel_rfl) ?_
          refine AnyB.skip 13 rfl (by kernel_rfl) (by kernel_rfl) (by kernel_rfl) (fun _ _ _ h => h) (by kernel_rfl) ?_
          refine AnyB.skip 14 rfl (by kernel_rfl) (by kernel_rfl) (by kernel_rfl) (fun _ _ _ h => h) (by kernel_rfl) ?_
          refine AnyB.take 15 (.bool false) rfl (by kernel_rfl) (by kernel_rfl) (by kernel_rfl) (fun _ _ _ h => h) (by kernel_rfl) (fun W hW => by kernel_rfl) ?_
          refine AnyB.take 16 (.bool false) rfl (by kernel_rfl) (by kernel_rfl) (by kernel_rfl) (fun _ _ _ h => h) (by kernel_rfl) (fun W hW => by kernel_rfl) ?_
          refine AnyB.take 17 (.bool true) rfl (by kernel_rfl) (by kernel_rfl) (by kernel_rfl) (fun _ _ _ h => h) (by kernel_rfl) (fun W hW => by kernel_rfl) ?_
          refine AnyB.take 18 (.bool false) rfl (by kernel_rfl) (by kernel_rfl) (by kernel_rfl) (fun _ _ _ h => h) (by kernel_rfl) (fun W hW => by kernel_rfl) ?_
          refine AnyB.take 19 (.bool false) rfl (by kernel_rfl) (by kernel_rfl) (by kernel_rfl) (fun _ _ _ h => h) (by kernel_rfl) (fun W hW => by kernel_rfl) ?_
          refine AnyB.skip 20 rfl (by kernel_rfl) (by kernel_rfl) (by kernel_rfl) (fun _ _ _ h => h) (by kernel_rfl) ?_
          refine AnyB.skip 21 rfl (by kernel_rfl) (by kernel_rfl) (by kernel_rfl) (fun _ _ _ h => h) (by kernel_rfl) ?_
          refine AnyB.take 22 (.bool false) rfl (by kernel_rfl) (by kernel_rfl) (by kernel_rfl) (fun _ _ _ h => h) (by kernel_rfl) (fun W hW => by kernel_rfl) ?_
          refine AnyB.take 23 (.bool false) rfl (by kernel_rfl) (by kernel_rfl) (by kernel_rfl) (fun _ _ _ h => h) (by kernel_rfl) (fun W hW => by kernel_rfl) ?_
          refine AnyB.take 24 (.bool false) rfl (by kernel_rfl) (by kernel_rfl) (by kernel_rfl) (fun _ _ _ h => h) (by kernel_rfl) (fun W hW => by kernel_rfl) ?_
          refine AnyB.take 25 (.bool true) rfl (by kernel_rfl) (by kernel_rfl) (by kernel_rfl) (fun _ _ _ h => h) (by kernel_rfl) (fun W hW => by kernel_rfl) ?_
          refine AnyB.take 26 (.bool true) rfl (by kernel_rfl) (by kernel_rfl) (by kernel_rfl) (fun _ _ _ h => h) (by kernel_rfl) (fun W hW => by kernel_rfl) ?_
          refine AnyB.take 27 (.agg #[.int .i64 zk, .string ⟨zd.toArray⟩]) rfl (by kernel_rfl) (by kernel_rfl) (by kernel_rfl) (fun _ _ _ h => h) (by kernel_rfl) (fun W hW => y_load (sv := .pointer (some ⟨w5.heap.size, 0, none⟩)) rfl (by kernel_rfl) (l_obj W w5.heap.size 0 _ _ (lookObj (HX1.out W (LD.out.trans (hW.mono LD.out.size)))).1 (lookObj (HX1.out W (LD.out.trans (hW.mono LD.out.size)))).2)) ?_
          refine AnyB.take 28 (.slice (some ⟨g, o, none⟩) R cJ) rfl (by kernel_rfl) (by kernel_rfl) (by kernel_rfl) (fun _ _ _ h => h) (by kernel_rfl) (fun W hW => by kernel_rfl) ?_
          refine AnyB.take 29 (.int .i64 (k : Int)) rfl (by kernel_rfl) (by kernel_rfl) (by kernel_rfl) (fun _ _ _ h => h) (by kernel_rfl) (fun W hW => by kernel_rfl) ?_
          refine AnyB.take 30 (.pointer (some ⟨g, o + k * 3, none⟩)) rfl (by kernel_rfl) (by kernel_rfl) (by kernel_rfl) (fun _ _ _ h => h) (by kernel_rfl) (fun W hW => y_index (sv := .slice (some ⟨g, o, none⟩) R cJ) (iv := .int .i64 (k : Int)) rfl (by kernel_rfl) (by kernel_rfl) (at_held W g o R cJ k hlt)) ?_
          refine AnyB.take 31 (.pointer (some ⟨g, o + k * 3 + 1, none⟩)) rfl (by kernel_rfl) (by kernel_rfl) (by kernel_rfl) (fun _ _ _ h => h) (by kernel_rfl) (fun W hW => y_field (sv := .pointer (some ⟨g, o + k * 3, none⟩)) rfl (by kernel_rfl) (fh_1 W g (o + k * 3))) ?_
          refine AnyB.take 32 (.agg #[.int .i64 zk, .string ⟨zd.toArray⟩]) rfl (by kernel_rfl) (by kernel_rfl) (by kernel_rfl) (fun _ _ _ h => h) (by kernel_rfl) (fun W hW => y_load (sv := .pointer (some ⟨g, o + k * 3 + 1, none⟩)) rfl (by kernel_rfl) (l_obj W g (o + k * 3 + 1) _ _ (HZ.out W (B8.out.trans ((LD.out.trans (hW.mono LD.out.size)).mono B8.out.size))).2.1 (HZ.out W (B8.out.trans ((LD.out.trans (hW.mono LD.out.size)).mono B8.out.size))).2.2)) ?_
          refine AnyB.take 33 (.bool false) rfl (by kernel_rfl) (by kernel_rfl) (by kernel_rfl) (fun _ _ _ h => h) (by kernel_rfl) (fun W hW => y_bin (x := .agg #[.int .i64 zk, .string ⟨zd.toArray⟩]) (y := .agg #[.int .i64 zk, .string ⟨zd.toArray⟩]) rfl (by kernel_rfl) (by kernel_rfl) (grd_obj W _ _ zk _) (neq_obj W zk _)) ?_
          refine AnyB.take 34 (.bool false) rfl (by kernel_rfl) (by kernel_rfl) (by kernel_rfl) (fun _ _ _ h => h) (by kernel_rfl) (fun W hW => by kernel_rfl) ?_
          refine AnyB.take 35 (.bool false) rfl (by kernel_rfl) (by kernel_rfl) (by kernel_rfl) (fun _ _ _ h => h) (by kernel_rfl) (fun W hW => by kernel_rfl) ?_
          refine AnyB.take 36 (.bool false) rfl (by kernel_rfl) (by kernel_rfl) (by kernel_rfl) (fun _ _ _ h => h) (by kernel_rfl) (fun W hW => by kernel_rfl) ?_
          refine AnyB.take 37 (.bool true) rfl (by kernel_rfl) (by kernel_rfl) (by kernel_rfl) (fun _ _ _ h => h) (by kernel_rfl) (fun W hW => by kernel_rfl) ?_
          refine AnyB.take 38 (.bool false) rfl (by kernel_rfl) (by kernel_rfl) (by kernel_rfl) (fun _ _ _ h => h) (by kernel_rfl) (fun W hW => by kernel_rfl) ?_
          refine AnyB.take 39 (.bool false) rfl (by kernel_rfl) (by kernel_rfl) (by kernel_rfl) (fun _ _ _ h => h) (by kernel_rfl) (fun W hW => by kernel_rfl) ?_
          refine AnyB.skip 40 rfl (by kernel_rfl) (by kernel_rfl) (by kernel_rfl) (fun _ _ _ h => h) (by kernel_rfl) ?_
          refine AnyB.skip 41 rfl (by kernel_rfl) (by kernel_rfl) (by kernel_rfl) (fun _ _ _ h => h) (by kernel_rfl) ?_
          refine AnyB.skip 42 rfl (by kernel_rfl) (by kernel_rfl) (by kernel_rfl) (fun _ _ _ h => h) (by kernel_rfl) ?_
          refine AnyB.skip 43 rfl (by kernel_rfl) (by kernel_rfl) (by kernel_rfl) (fun _ _ _ h => h) (by kernel_rfl) ?_
          refine AnyB.skip 44 rfl (by kernel_rfl) (by kernel_rfl) (by kernel_rfl) (fun _ _ _ h => h) (by kernel_rfl) ?_
          refine AnyB.skip 45 rfl (by kernel_rfl) (by kernel_rfl) (by kernel_rfl) (fun _ _ _ h => h) (by kernel_rfl) ?_
          refine AnyB.skip 46 rfl (by kernel_rfl) (by kernel_rfl) (by kernel_rfl) (fun _ _ _ h => h) (by kernel_rfl) ?_
          refine AnyB.take 47 (.bool false) rfl (by kernel_rfl) (by kernel_rfl) (by kernel_rfl) (fun _ _ _ h => h) (by kernel_rfl) (fun W hW => by kernel_rfl) ?_
          refine AnyB.take 48 (.bool false) rfl (by kernel_rfl) (by kernel_rfl) (by kernel_rfl) (fun _ _ _ h => h) (by kernel_rfl) (fun W hW => by kernel_rfl) ?_
          refine AnyB.done _ (by kernel_rfl) ?_
          go_simp
          have B9 : Hid (Below w4.heap.size w4 w8.drew) := Lib.hid B8.out.drew
          clear HX1 HX2 B8 LD
          go_wp2_with fail
          go_roundw
          case rel => exact ⟨k + 1, hlt, by go_num, B9⟩
          case measure => simp [intOf]; omega
        · obtain ⟨j, rfl⟩ : ∃ j, k = j + 1 := ⟨k - 1, by omega⟩
          have hk0 : decide (0 < j + 1) = true := decide_eq_true (by omega)
          have hxz := HRi.out j rfl
          have HXj : Hid (∀ W, Below w4.heap.size w4 W → W.cell? ⟨g, o + j * 3, none⟩ = some (.string ⟨(r.getD j noHld).id.toArray⟩)) := Lib.hid fun W hW => (HCl.out W hW j (by omega)).1
          obtain ⟨xi, hxi⟩ : ∃ x, x = (r.getD j noHld).id := ⟨_, rfl⟩
          rw [← hxi] at hxz HXj
          clear hxi HRi hk0'
          refine AnyB.start (by kernel_rfl) ?_
          refine AnyB.take 0 (.int .i64 ((j + 1 : Nat) : Int)) rfl (by kernel_rfl) (by kernel_rfl) (by kernel_rfl) (fun _ _ _ h => h) (by kernel_rfl) (fun W hW => by kernel_rfl) ?_
          refine AnyB.take 1 (.bool true) rfl (by kernel_rfl) (by kernel_rfl) (by kernel_rfl) (fun _ _ _ h => h) (by kernel_rfl) (fun W hW => y_bin (x := .int .i64 ((j + 1 : Nat) : Int)) (y := .int .i64 0) rfl (by kernel_rfl) (by kernel_rfl) rfl (gtr_k W (j + 1) _ hk0)) ?_
          refine AnyB.take 2 (.bool true) rfl (by kernel_rfl) (by kernel_rfl) (by kernel_rfl) (fun _ _ _ h => h) (by kernel_rfl) (fun W hW => by kernel_rfl) ?_
          refine AnyB.take 3 (.slice (some ⟨g, o, none⟩) R cJ) rfl (by kernel_rfl) (by kernel_rfl) (by kernel_rfl) (fun _ _ _ h => h) (by kernel_rfl) (fun W hW => by kernel_rfl) ?_
          refine AnyB.take 4 (.int .i64 ((j + 1 : Nat) : Int)) rfl (by kernel_rfl) (by kernel_rfl) (by kernel_rfl) (fun _ _ _ h => h) (by kernel_rfl) (fun W hW => by kernel_rfl) ?_
          refine AnyB.take 5 (.int .i64 (j : Int)) rfl (by kernel_rfl) (by kernel_rfl) (by kernel_rfl) (fun _ _ _ h => h) (by kernel_rfl) (fun W hW => y_bin (x := .int .i64 ((j + 1 : Nat) : Int)) (y := .int .i64 1) rfl (by kernel_rfl) (by kernel_rfl) rfl (sub_1 W j (by omega))) ?_
          refine AnyB.take 6 (.pointer (some ⟨g, o + j * 3, none⟩)) rfl (by kernel_rfl) (by kernel_rfl) (by kernel_rfl) (fun _ _ _ h => h) (by kernel_rfl) (fun W hW => y_index (sv := .slice (some ⟨g, o, none⟩) R cJ) (iv := .int .i64 (j : Int)) rfl (by kernel_rfl) (by kernel_rfl) (at_held W g o R cJ j (by omega))) ?_
          refine AnyB.take 7 (.pointer (some ⟨g, o + j * 3, none⟩)) rfl (by kernel_rfl) (by kernel_rfl) (by kernel_rfl) (fun _ _ _ h => h) (by kernel_rfl) (fun W hW => y_field (sv := .pointer (some ⟨g, o + j * 3, none⟩)) rfl (by kernel_rfl) (fh_0 W g (o + j * 3))) ?_
          refine AnyB.take 8 (.string ⟨xi.toArray⟩) rfl (by kernel_rfl) (by kernel_rfl) (by kernel_rfl) (fun _ _ _ h => h) (by kernel_rfl) (fun W hW => y_load (sv := .pointer (some ⟨g, o + j * 3, none⟩)) rfl (by kernel_rfl) (l_str W g (o + j * 3) _ (HXj.out W (B8.out.trans ((LD.out.trans (hW.mono LD.out.size)).mono B8.out.size))))) ?_
          refine AnyB.take 9 (.slice (some ⟨g, o, none⟩) R cJ) rfl (by kernel_rfl) (by kernel_rfl) (by kernel_rfl) (fun _ _ _ h => h) (by kernel_rfl) (fun W hW => by kernel_rfl) ?_
          refine AnyB.take 10 (.int .i64 ((j + 1 : Nat) : Int)) rfl (by kernel_rfl) (by kernel_rfl) (by kernel_rfl) (fun _ _ _ h => h) (by kernel_rfl) (fun W hW => by kernel_rfl) ?_
          refine AnyB.take 11 (.pointer (some ⟨g, o + (j + 1) * 3, none⟩)) rfl (by kernel_rfl) (by kernel_rfl) (by kernel_rfl) (fun _ _ _ h => h) (by kernel_rfl) (fun W hW => y_index (sv := .slice (some ⟨g, o, none⟩) R cJ) (iv := .int .i64 ((j + 1 : Nat) : Int)) rfl (by kernel_rfl) (by kernel_rfl) (at_held W g o R cJ (j + 1) hlt)) ?_
          refine AnyB.take 12 (.pointer (some ⟨g, o + (j + 1) * 3, none⟩)) rfl (by kernel_rfl) (by kernel_rfl) (by kernel_rfl) (fun _ _ _ h => h) (by kernel_rfl) (fun W hW => y_field (sv := .pointer (some ⟨g, o + (j + 1) * 3, none⟩)) rfl (by kernel_rfl) (fh_0 W g (o + (j + 1) * 3))) ?_
          refine AnyB.take 13 (.string ⟨zi.toArray⟩) rfl (by kernel_rfl) (by kernel_rfl) (by kernel_rfl) (fun _ _ _ h => h) (by kernel_rfl) (fun W hW => y_load (sv := .pointer (some ⟨g, o + (j + 1) * 3, none⟩)) rfl (by kernel_rfl) (l_str W g (o + (j + 1) * 3) _ (HZ.out W (B8.out.trans ((LD.out.trans (hW.mono LD.out.size)).mono B8.out.size))).1)) ?_
          refine AnyB.take 14 (.bool false) rfl (by kernel_rfl) (by kernel_rfl) (by kernel_rfl) (fun _ _ _ h => h) (by kernel_rfl) (fun W hW => y_bin (x := .string ⟨xi.toArray⟩) (y := .string ⟨zi.toArray⟩) rfl (by kernel_rfl) (by kernel_rfl) rfl (geq_lt W xi zi hxz)) ?_
          refine AnyB.take 15 (.bool false) rfl (by kernel_rfl) (by kernel_rfl) (by kernel_rfl) (fun _ _ _ h => h) (by kernel_rfl) (fun W hW => by kernel_rfl) ?_
          refine AnyB.take 16 (.bool false) rfl (by kernel_rfl) (by kernel_rfl) (by kernel_rfl) (fun _ _ _ h => h) (by kernel_rfl) (fun W hW => by kernel_rfl) ?_
          refine AnyB.take 17 (.bool true) rfl (by kernel_rfl) (by kernel_rfl) (by kernel_rfl) (fun _ _ _ h => h) (by kernel_rfl) (fun W hW => by kernel_rfl) ?_
          refine AnyB.take 18 (.bool false) rfl (by kernel_rfl) (by kernel_rfl) (by kernel_rfl) (fun _ _ _ h => h) (by kernel_rfl) (fun W hW => by kernel_rfl) ?_
          refine AnyB.take 19 (.bool false) rfl (by kernel_rfl) (by kernel_rfl) (by kernel_rfl) (fun _ _ _ h => h) (by kernel_rfl) (fun W hW => by kernel_rfl) ?_
          refine AnyB.skip 20 rfl (by kernel_rfl) (by kernel_rfl) (by kernel_rfl) (fun _ _ _ h => h) (by kernel_rfl) ?_
          refine AnyB.skip 21 rfl (by kernel_rfl) (by kernel_rfl) (by kernel_rfl) (fun _ _ _ h => h) (by kernel_rfl) ?_
          refine AnyB.take 22 (.bool false) rfl (by kernel_rfl) (by kernel_rfl) (by kernel_rfl) (fun _ _ _ h => h) (by kernel_rfl) (fun W hW => by kernel_rfl) ?_
          refine AnyB.take 23 (.bool false) rfl (by kernel_rfl) (by kernel_rfl) (by kernel_rfl) (fun _ _ _ h => h) (by kernel_rfl) (fun W hW => by kernel_rfl) ?_
          refine AnyB.take 24 (.bool false) rfl (by kernel_rfl) (by kernel_rfl) (by kernel_rfl) (fun _ _ _ h => h) (by kernel_rfl) (fun W hW => by kernel_rfl) ?_
          refine AnyB.take 25 (.bool true) rfl (by kernel_rfl) (by kernel_rfl) (by kernel_rfl) (fun _ _ _ h => h) (by kernel_rfl) (fun W hW => by kernel_rfl) ?_
          refine AnyB.take 26 (.bool true) rfl (by kernel_rfl) (by kernel_rfl) (by kernel_rfl) (fun _ _ _ h => h) (by kernel_rfl) (fun W hW => by kernel_rfl) ?_
          refine AnyB.take 27 (.agg #[.int .i64 zk, .string ⟨zd.toArray⟩]) rfl (by kernel_rfl) (by kernel_rfl) (by kernel_rfl) (fun _ _ _ h => h) (by kernel_rfl) (fun W hW => y_load (sv := .pointer (some ⟨w5.heap.size, 0, none⟩)) rfl (by kernel_rfl) (l_obj W w5.heap.size 0 _ _ (lookObj (HX1.out W (LD.out.trans (hW.mono LD.out.size)))).1 (lookObj (HX1.out W (LD.out.trans (hW.mono LD.out.size)))).2)) ?_
          refine AnyB.take 28 (.slice (some ⟨g, o, none⟩) R cJ) rfl (by kernel_rfl) (by kernel_rfl) (by kernel_rfl) (fun _ _ _ h => h) (by kernel_rfl) (fun W hW => by kernel_rfl) ?_
          refine AnyB.take 29 (.int .i64 ((j + 1 : Nat) : Int)) rfl (by kernel_rfl) (by kernel_rfl) (by kernel_rfl) (fun _ _ _ h => h) (by kernel_rfl) (fun W hW => by kernel_rfl) ?_
          refine AnyB.take 30 (.pointer (some ⟨g, o + (j + 1) * 3, none⟩)) rfl (by kernel_rfl) (by kernel_rfl) (by kernel_rfl) (fun _ _ _ h => h) (by kernel_rfl) (fun W hW => y_index (sv := .slice (some ⟨g, o, none⟩) R cJ) (iv := .int .i64 ((j + 1 : Nat) : Int)) rfl (by kernel_rfl) (by kernel_rfl) (at_held W g o R cJ (j + 1) hlt)) ?_
          refine AnyB.take 31 (.pointer (some ⟨g, o + (j + 1) * 3 + 1, none⟩)) rfl (by kernel_rfl) (by kernel_rfl) (by kernel_rfl) (fun _ _ _ h => h) (by kernel_rfl) (fun W hW => y_field (sv := .pointer (some ⟨g, o + (j + 1) * 3, none⟩)) rfl (by kernel_rfl) (fh_1 W g (o + (j + 1) * 3))) ?_
          refine AnyB.take 32 (.agg #[.int .i64 zk, .string ⟨zd.toArray⟩]) rfl (by kernel_rfl) (by kernel_rfl) (by kernel_rfl) (fun _ _ _ h => h) (by kernel_rfl) (fun W hW => y_load (sv := .pointer (some ⟨g, o + (j + 1) * 3 + 1, none⟩)) rfl (by kernel_rfl) (l_obj W g (o + (j + 1) * 3 + 1) _ _ (HZ.out W (B8.out.trans ((LD.out.trans (hW.mono LD.out.size)).mono B8.out.size))).2.1 (HZ.out W (B8.out.trans ((LD.out.trans (hW.mono LD.out.size)).mono B8.out.size))).2.2)) ?_
          refine AnyB.take 33 (.bool false) rfl (by kernel_rfl) (by kernel_rfl) (by kernel_rfl) (fun _ _ _ h => h) (by kernel_rfl) (fun W hW => y_bin (x := .agg #[.int .i64 zk, .string ⟨zd.toArray⟩]) (y := .agg #[.int .i64 zk, .string ⟨zd.toArray⟩]) rfl (by kernel_rfl) (by kernel_rfl) (grd_obj W _ _ zk _) (neq_obj W zk _)) ?_
          refine AnyB.take 34 (.bool false) rfl (by kernel_rfl) (by kernel_rfl) (by kernel_rfl) (fun _ _ _ h => h) (by kernel_rfl) (fun W hW => by kernel_rfl) ?_
          refine AnyB.take 35 (.bool false) rfl (by kernel_rfl) (by kernel_rfl) (by kernel_rfl) (fun _ _ _ h => h) (by kernel_rfl) (fun W hW => by kernel_rfl) ?_
          refine AnyB.take 36 (.bool false) rfl (by kernel_rfl) (by kernel_rfl) (by kernel_rfl) (fun _ _ _ h => h) (by kernel_rfl) (fun W hW => by kernel_rfl) ?_
          refine AnyB.take 37 (.bool true) rfl (by kernel_rfl) (by kernel_rfl) (by kernel_rfl) (fun _ _ _ h => h) (by kernel_rfl) (fun W hW => by kernel_rfl) ?_
          refine AnyB.take 38 (.bool false) rfl (by kernel_rfl) (by kernel_rfl) (by kernel_rfl) (fun _ _ _ h => h) (by kernel_rfl) (fun W hW => by kernel_rfl) ?_
          refine AnyB.take 39 (.bool false) rfl (by kernel_rfl) (by kernel_rfl) (by kernel_rfl) (fun _ _ _ h => h) (by kernel_rfl) (fun W hW => by kernel_rfl) ?_
          refine AnyB.skip 40 rfl (by kernel_rfl) (by kernel_rfl) (by kernel_rfl) (fun _ _ _ h => h) (by kernel_rfl) ?_
          refine AnyB.skip 41 rfl (by kernel_rfl) (by kernel_rfl) (by kernel_rfl) (fun _ _ _ h => h) (by kernel_rfl) ?_
          refine AnyB.skip 42 rfl (by kernel_rfl) (by kernel_rfl) (by kernel_rfl) (fun _ _ _ h => h) (by kernel_rfl) ?_
          refine AnyB.skip 43 rfl (by kernel_rfl) (by kernel_rfl) (by kernel_rfl) (fun _ _ _ h => h) (by kernel_rfl) ?_
          refine AnyB.skip 44 rfl (by kernel_rfl) (by kernel_rfl) (by kernel_rfl) (fun _ _ _ h => h) (by kernel_rfl) ?_
          refine AnyB.skip 45 rfl (by kernel_rfl) (by kernel_rfl) (by kernel_rfl) (fun _ _ _ h => h) (by kernel_rfl) ?_
          refine AnyB.skip 46 rfl (by kernel_rfl) (by kernel_rfl) (by kernel_rfl) (fun _ _ _ h => h) (by kernel_rfl) ?_
          refine AnyB.take 47 (.bool false) rfl (by kernel_rfl) (by kernel_rfl) (by kernel_rfl) (fun _ _ _ h => h) (by kernel_rfl) (fun W hW => by kernel_rfl) ?_
          refine AnyB.take 48 (.bool false) rfl (by kernel_rfl) (by kernel_rfl) (by kernel_rfl) (fun _ _ _ h => h) (by kernel_rfl) (fun W hW => by kernel_rfl) ?_
          refine AnyB.done _ (by kernel_rfl) ?_
          go_simp
          have B9 : Hid (Below w4.heap.size w4 w8.drew) := Lib.hid B8.out.drew
          clear HX1 HX2 B8 LD
          go_wp2_with fail
          go_roundw
          case rel => exact ⟨(j + 1) + 1, hlt, by go_num, B9⟩
          case measure => simp [intOf]; omega
      · rw [ea, ta] at HFa
        rw [eb, tb] at HFb
        clear ea ta eb tb
        go_wp2_with fail
        refine (HFa.out wr (L4.out.trans (hB.out.mono L4.out.size))).mono ?_
        rintro e w5 ⟨rfl, l9⟩
        obtain ⟨w6, hw6⟩ : ∃ y, y = w5.alloc (.cells #[.int .i64 0, .string ⟨#[]⟩] 26) := ⟨_, rfl⟩
        have hk6 : w6.heap[w5.heap.size]? = some (.cells #[.int .i64 0, .string ⟨#[]⟩] 26 (0, 0)) := by rw [hw6]; exact heap_alloc_new w5 _
        have l6 : Below wr.heap.size wr w6 := by rw [hw6]; exact l9.alloc l9.size _
        have B6 := Lib.hid (hB.out.trans (l6.mono hB.out.size))
        have HK6 := Lib.hid hk6; have HW6 := Lib.hid hw6
        have c06 := (HZ.out w6 B6.out).1
        clear l9 l6 hk6 hw6 c0
        go_upto_region 9 with fail
        rw [← HW6.out]
        clear HW6
        go_wp2_with fail
        refine (HFb.out w6 (L4.out.trans (B6.out.mono L4.out.size))).mono ?_
        rintro e w7 ⟨rfl, l9⟩
        obtain ⟨w8, hw8⟩ : ∃ y, y = w7.alloc (.cells #[.int .i64 zk, .string ⟨zd.toArray⟩] 26) := ⟨_, rfl⟩
        have hk8 : w8.heap[w7.heap.size]? = some (.cells #[.int .i64 zk, .string ⟨zd.toArray⟩] 26 (0, 0)) := by rw [hw8]; exact heap_alloc_new w7 _
        have l8 : Below w6.heap.size w6 w8 := by rw [hw8]; exact l9.alloc l9.size _
        have B8 := Lib.hid (B6.out.trans (l8.mono B6.out.size))
        have HX1 : Hid (∀ W, Below w8.heap.size w8 W → W.heap[w5.heap.size]? = some (.cells #[.int .i64 0, .string ⟨#[]⟩] 26 (0, 0))) := Lib.hid fun W hW => (hW.block _ (Nat.lt_of_lt_of_le (lt_heap HK6.out) l8.size)).trans ((l8.block _ (lt_heap HK6.out)).trans HK6.out)
        have HX2 : Hid (∀ W, Below w8.heap.size w8 W → W.heap[w7.heap.size]? = some (.cells #[.int .i64 zk, .string ⟨zd.toArray⟩] 26 (0, 0))) := Lib.hid fun W hW => (hW.block _ (lt_heap hk8)).trans hk8
        have HW8 := Lib.hid hw8
        clear l9 l8 hk8 hw8 c06 HK6 HFa HFb
        go_upto_region 10 with fail
        rw [← HW8.out]
        clear HW8
        have LD : Hid (Below w8.heap.size w8 w8.drew) := Lib.hid (Below.refl _ _).drew
        rcases Nat.eq_zero_or_pos k with hk0' | hk0'
        · have hk0 : decide (0 < k) = false := by rw [hk0']; rfl
          clear HRi hk0'
          refine AnyB.start (by kernel_rfl) ?_
          refine AnyB.take 0 (.int .i64 (k : Int)) rfl (by kernel_rfl) (by kernel_rfl) (by kernel_rfl) (fun _ _ _ h => h) (by kernel_rfl) (fun W hW => by kernel_rfl) ?_
          refine AnyB.take 1 (.bool false) rfl (by kernel_rfl) (by kernel_rfl) (by kernel_rfl) (fun _ _ _ h => h) (by kernel_rfl) (fun W hW => y_bin (x := .int .i64 (k : Int)) (y := .int .i64 0) rfl (by kernel_rfl) (by kernel_rfl) rfl (gtr_k W k _ hk0)) ?_
          refine AnyB.take 2 (.bool false) rfl (by kernel_rfl) (by kernel_rfl) (by kernel_rfl) (fun _ _ _ h => h) (by kernel_rfl) (fun W hW => by kernel_rfl) ?_
          refine AnyB.skip 3 rfl (by kernel_rfl) (by kernel_rfl) (by kernel_rfl) (fun _ _ _ h => h) (by kernel_rfl) ?_
          refine AnyB.skip 4 rfl (by kernel_rfl) (by kernel_rfl) (by kernel_rfl) (fun _ _ _ h => h) (by kernel_rfl) ?_
          refine AnyB.skip 5 rfl (by kernel_rfl) (by kernel_rfl) (by kernel_rfl) (fun _ _ _ h => h) (by kernel_rfl) ?_
          refine AnyB.skip 6 rfl (by kernel_rfl) (by kernel_rfl) (by kernel_rfl) (fun _ _ _ h => h) (by kernel_rfl) ?_
          refine AnyB.skip 7 rfl (by kernel_rfl) (by kernel_rfl) (by kernel_rfl) (fun _ _ _ h => h) (by kernel_rfl) ?_
          refine AnyB.skip 8 rfl (by kernel_rfl) (by kernel_rfl) (by kernel_rfl) (fun _ _ _ h => h) (by kernel_rfl) ?_
          refine AnyB.skip 9 rfl (by kernel_rfl) (by kernel_rfl) (by kernel_rfl) (fun _ _ _ h => h) (by kernel_rfl) ?_
          refine AnyB.skip 10 rfl (by kernel_rfl) (by kernel_rfl) (by kernel_rfl) (fun _ _ _ h => h) (by kernel_rfl) ?_
          refine AnyB.skip 11 rfl (by kernel_rfl) (by kernel_rfl) (by kernel_rfl) (fun _ _ _ h => h) (by kernel_rfl) ?_
          refine AnyB.skip 12 rfl (by kernel_rfl) (by kernel_rfl) (by kernel_rfl) (fun _ _ _ h => h) (by kernel_rfl) ?_
          refine AnyB.skip 13 rfl (by kernel_rfl) (by kernel_rfl) (by kernel_rfl) (fun _ _ _ h => h) (by kernel_rfl) ?_
          refine AnyB.skip 14 rfl (by kernel_rfl) (by kernel_rfl) (by kernel_rfl) (fun _ _ _ h => h) (by kernel_rfl) ?_
          refine AnyB.take 15 (.bool false) rfl (by kernel_rfl) (by kernel_rfl) (by kernel_rfl) (fun _ _ _ h => h) (by kernel_rfl) (fun W hW => by kernel_rfl) ?_
          refine AnyB.take 16 (.bool false) rfl (by kernel_rfl) (by kernel_rfl) (by kernel_rfl) (fun _ _ _ h => h) (by kernel_rfl) (fun W hW => by kernel_rfl) ?_
          refine AnyB.take 17 (.bool false) rfl (by kernel_rfl) (by kernel_rfl) (by kernel_rfl) (fun _ _ _ h => h) (by kernel_rfl) (fun W hW => by kernel_rfl) ?_
          refine AnyB.take 18 (.bool true) rfl (by kernel_rfl) (by kernel_rfl) (by kernel_rfl) (fun _ _ _ h => h) (by kernel_rfl) (fun W hW => by kernel_rfl) ?_
          refine AnyB.take 19 (.bool true) rfl (by kernel_rfl) (by kernel_rfl) (by kernel_rfl) (fun _ _ _ h => h) (by kernel_rfl) (fun W hW => by kernel_rfl) ?_
          refine AnyB.take 20 (.bool true) rfl (by kernel_rfl) (by kernel_rfl) (by kernel_rfl) (fun _ _ _ h => h) (by kernel_rfl) (fun W hW => by kernel_rfl) ?_
          refine AnyB.take 21 (.bool false) rfl (by kernel_rfl) (by kernel_rfl) (by kernel_rfl) (fun _ _ _ h => h) (by kernel_rfl) (fun W hW => by kernel_rfl) ?_
          refine AnyB.take 22 (.bool false) rfl (by kernel_rfl) (by kernel_rfl) (by kernel_rfl) (fun _ _ _ h => h) (by kernel_rfl) (fun W hW => by kernel_rfl) ?_
          refine AnyB.take 23 (.bool false) rfl (by kernel_rfl) (by kernel_rfl) (by kernel_rfl) (fun _ _ _ h => h) (by kernel_rfl) (fun W hW => by kernel_rfl) ?_
          refine AnyB.take 24 (.bool false) rfl (by kernel_rfl) (by kernel_rfl) (by kernel_rfl) (fun _ _ _ h => h) (by kernel_rfl) (fun W hW => by kernel_rfl) ?_
          refine AnyB.take 25 (.bool false) rfl (by kernel_rfl) (by kernel_rfl) (by kernel_rfl) (fun _ _ _ h => h) (by kernel_rfl) (fun W hW => by kernel_rfl) ?_
          refine AnyB.take 26 (.bool false) rfl (by kernel_rfl) (by kernel_rfl) (by kernel_rfl) (fun _ _ _ h => h) (by kernel_rfl) (fun W hW => by kernel_rfl) ?_
          refine AnyB.skip 27 rfl (by kernel_rfl) (by kernel_rfl) (by kernel_rfl) (fun _ _ _ h => h) (by kernel_rfl) ?_
          refine AnyB.skip 28 rfl (by kernel_rfl) (by kernel_rfl) (by kernel_rfl) (fun _ _ _ h => h) (by kernel_rfl) ?_
          refine AnyB.skip 29 rfl (by kernel_rfl) (by kernel_rfl) (by kernel_rfl) (fun _ _ _ h => h) (by kernel_rfl) ?_
          refine AnyB.skip 30 rfl (by kernel_rfl) (by kernel_rfl) (by kernel_rfl) (fun _ _ _ h => h) (by kernel_rfl) ?_
          refine AnyB.skip 31 rfl (by kernel_rfl) (by kernel_rfl) (by kernel_rfl) (fun _ _ _ h => h) (by kernel_rfl) ?_
          refine AnyB.skip 32 rfl (by kernel_rfl) (by kernel_rfl) (by kernel_rfl) (fun _ _ _ h => h) (by kernel_rfl) ?_
          refine AnyB.skip 33 rfl (by kernel_rfl) (by kernel_rfl) (by kernel_rfl) (fun _ _ _ h => h) (by kernel_rfl) ?_
          refine AnyB.take 34 (.bool false) rfl (by kernel_rfl) (by kernel_rfl) (by kernel_rfl) (fun _ _ _ h => h) (by kernel_rfl) (fun W hW => by kernel_rfl) ?_
          refine AnyB.take 35 (.bool false) rfl (by kernel_rfl) (by kernel_rfl) (by kernel_rfl) (fun _ _ _ h => h) (by kernel_rfl) (fun W hW => by kernel_rfl) ?_
          refine AnyB.take 36 (.bool false) rfl (by kernel_rfl) (by kernel_rfl) (by kernel_rfl) (fun _ _ _ h => h) (by kernel_rfl) (fun W hW => by kernel_rfl) ?_
          refine AnyB.take 37 (.bool false) rfl (by kernel_rfl) (by kernel_rfl) (by kernel_rfl) (fun _ _ _ h => h) (by kernel_rfl) (fun W hW => by kernel_rfl) ?_
          refine AnyB.take 38 (.bool true) rfl (by kernel_rfl) (by kernel_rfl) (by kernel_rfl) (fun _ _ _ h => h) (by kernel_rfl) (fun W hW => by kernel_rfl) ?_
          refine AnyB.take 39 (.bool true) rfl (by kernel_rfl) (by kernel_rfl) (by kernel_rfl) (fun _ _ _ h => h) (by kernel_rfl) (fun W hW => by kernel_rfl) ?_
          refine AnyB.take 40 (.agg #[.int .i64 zk, .string ⟨zd.toArray⟩]) rfl (by kernel_rfl) (by kernel_rfl) (by kernel_rfl) (fun _ _ _ h => h) (by kernel_rfl) (fun W hW => y_load (sv := .pointer (some ⟨w7.heap.size, 0, none⟩)) rfl (by kernel_rfl) (l_obj W w7.heap.size 0 _ _ (lookObj (HX2.out W (LD.out.trans (hW.mono LD.out.size)))).1 (lookObj (HX2.out W (LD.out.trans (hW.mono LD.out.size)))).2)) ?_
          refine AnyB.take 41 (.slice (some ⟨g, o, none⟩) R cJ) rfl (by kernel_rfl) (by kernel_rfl) (by kernel_rfl) (fun _ _ _ h => h) (by kernel_rfl) (fun W hW => by kernel_rfl) ?_
          refine AnyB.take 42 (.int .i64 (k : Int)) rfl (by kernel_rfl) (by kernel_rfl) (by kernel_rfl) (fun _ _ _ h => h) (by kernel_rfl) (fun W hW => by kernel_rfl) ?_
          refine AnyB.take 43 (.pointer (some ⟨g, o + k * 3, none⟩)) rfl (by kernel_rfl) (by kernel_rfl) (by kernel_rfl) (fun _ _ _ h => h) (by kernel_rfl) (fun W hW => y_index (sv := .slice (some ⟨g, o, none⟩) R cJ) (iv := .int .i64 (k : Int)) rfl (by kernel_rfl) (by kernel_rfl) (at_held W g o R cJ k hlt)) ?_
          refine AnyB.take 44 (.pointer (some ⟨g, o + k * 3 + 1, none⟩)) rfl (by kernel_rfl) (by kernel_rfl) (by kernel_rfl) (fun _ _ _ h => h) (by kernel_rfl) (fun W hW => y_field (sv := .pointer (some ⟨g, o + k * 3, none⟩)) rfl (by kernel_rfl) (fh_1 W g (o + k * 3))) ?_
          refine AnyB.take 45 (.agg #[.int .i64 zk, .string ⟨zd.toArray⟩]) rfl (by kernel_rfl) (by kernel_rfl) (by kernel_rfl) (fun _ _ _ h => h) (by kernel_rfl) (fun W hW => y_load (sv := .pointer (some ⟨g, o + k * 3 + 1, none⟩)) rfl (by kernel_rfl) (l_obj W g (o + k * 3 + 1) _ _ (HZ.out W (B8.out.trans ((LD.out.trans (hW.mono LD.out.size)).mono B8.out.size))).2.1 (HZ.out W (B8.out.trans ((LD.out.trans (hW.mono LD.out.size)).mono B8.out.size))).2.2)) ?_
          refine AnyB.take 46 (.bool false) rfl (by kernel_rfl) (by kernel_rfl) (by kernel_rfl) (fun _ _ _ h => h) (by kernel_rfl) (fun W hW => y_bin (x := .agg #[.int .i64 zk, .string ⟨zd.toArray⟩]) (y := .agg #[.int .i64 zk, .string ⟨zd.toArray⟩]) rfl (by kernel_rfl) (by kernel_rfl) (grd_obj W _ _ zk _) (neq_obj W zk _)) ?_
          refine AnyB.take 47 (.bool false) rfl (by kernel_rfl) (by kernel_rfl) (by kernel_rfl) (fun _ _ _ h => h) (by kernel_rfl) (fun W hW => by kernel_rfl) ?_
          refine AnyB.take 48 (.bool false) rfl (by kernel_rfl) (by kernel_rfl) (by kernel_rfl) (fun _ _ _ h => h) (by kernel_rfl) (fun W hW => by kernel_rfl) ?_
          refine AnyB.done _ (by kernel_rfl) ?_
          go_simp
          have B9 : Hid (Below w4.heap.size w4 w8.drew) := Lib.hid B8.out.drew
          clear HX1 HX2 B8 LD
          go_wp2_with fail
          go_roundw
          case rel => exact ⟨k + 1, hlt, by go_num, B9⟩
          case measure => simp [intOf]; omega
        · obtain ⟨j, rfl⟩ : ∃ j, k = j + 1 := ⟨k - 1, by omega⟩
          have hk0 : decide (0 < j + 1) = true := decide_eq_true (by omega)
          have hxz := HRi.out j rfl
          have HXj : Hid (∀ W, Below w4.heap.size w4 W → W.cell? ⟨g, o + j * 3, none⟩ = some (.string ⟨(r.getD j noHld).id.toArray⟩)) := Lib.hid fun W hW => (HCl.out W hW j (by omega)).1
          obtain ⟨xi, hxi⟩ : ∃ x, x = (r.getD j noHld).id := ⟨_, rfl⟩
          rw [← hxi] at hxz HXj
          clear hxi HRi hk0'
          refine AnyB.start (by kernel_rfl) ?_
          refine AnyB.take 0 (.int .i64 ((j + 1 : Nat) : Int)) rfl (by kernel_rfl) (by kernel_rfl) (by kernel_rfl) (fun _ _ _ h => h) (by kernel_rfl) (fun W hW => by kernel_rfl) ?_
          refine AnyB.take 1 (.bool true) rfl (by kernel_rfl) (by kernel_rfl) (by kernel_rfl) (fun _ _ _ h => h) (by kernel_rfl) (fun W hW => y_bin (x := .int .i64 ((j + 1 : Nat) : Int)) (y := .int .i64 0) rfl (by kernel_rfl) (by kernel_rfl) rfl (gtr_k W (j + 1) _ hk0)) ?_
          refine AnyB.take 2 (.bool true) rfl (by kernel_rfl) (by kernel_rfl) (by kernel_rfl) (fun _ _ _ h => h) (by kernel_rfl) (fun W hW => by kernel_rfl) ?_
          refine AnyB.take 3 (.slice (some ⟨g, o, none⟩) R cJ) rfl (by kernel_rfl) (by kernel_rfl) (by kernel_rfl) (fun _ _ _ h => h) (by kernel_rfl) (fun W hW => by kernel_rfl) ?_
          refine AnyB.take 4 (.int .i64 ((j + 1 : Nat) : Int)) rfl (by kernel_rfl) (by kernel_rfl) (by kernel_rfl) (fun _ _ _ h => h) (by kernel_rfl) (fun W hW => by kernel_rfl) ?_
          refine AnyB.take 5 (.int .i64 (j : Int)) rfl (by kernel_rfl) (by kernel_rfl) (by kernel_rfl) (fun _ _ _ h => h) (by kernel_rfl) (fun W hW => y_bin (x := .int .i64 ((j + 1 : Nat) : Int)) (y := .int .i64 1) rfl (by kernel_rfl) (by kernel_rfl) rfl (sub_1 W j (by omega))) ?_
          refine AnyB.take 6 (.pointer (some ⟨g, o + j * 3, none⟩)) rfl (by kernel_rfl) (by kernel_rfl) (by kernel_rfl) (fun _ _ _ h => h) (by kernel_rfl) (fun W hW => y_index (sv := .slice (some ⟨g, o, none⟩) R cJ) (iv := .int .i64 (j : Int)) rfl (by kernel_rfl) (by kernel_rfl) (at_held W g o R cJ j (by omega))) ?_
          refine AnyB.take 7 (.pointer (some ⟨g, o + j * 3, none⟩)) rfl (by kernel_rfl) (by kernel_rfl) (by kernel_rfl) (fun _ _ _ h => h) (by kernel_rfl) (fun W hW => y_field (sv := .pointer (some ⟨g, o + j * 3, none⟩)) rfl (by kernel_rfl) (fh_0 W g (o + j * 3))) ?_
          refine AnyB.take 8 (.string ⟨xi.toArray⟩) rfl (by kernel_rfl) (by kernel_rfl) (by kernel_rfl) (fun _ _ _ h => h) (by kernel_rfl) (fun W hW => y_load (sv := .pointer (some ⟨g, o + j * 3, none⟩)) rfl (by kernel_rfl) (l_str W g (o + j * 3) _ (HXj.out W (B8.out.trans ((LD.out.trans (hW.mono LD.out.size)).mono B8.out.size))))) ?_
          refine AnyB.take 9 (.slice (some ⟨g, o, none⟩) R cJ) rfl (by kernel_rfl) (by kernel_rfl) (by kernel_rfl) (fun _ _ _ h => h) (by kernel_rfl) (fun W hW => by kernel_rfl) ?_
          refine AnyB.take 10 (.int .i64 ((j + 1 : Nat) : Int)) rfl (by kernel_rfl) (by kernel_rfl) (by kernel_rfl) (fun _ _ _ h => h) (by kernel_rfl) (fun W hW => by kernel_rfl) ?_
          refine AnyB.take 11 (.pointer (some ⟨g, o + (j + 1) * 3, none⟩)) rfl (by kernel_rfl) (by kernel_rfl) (by kernel_rfl) (fun _ _ _ h => h) (by kernel_rfl) (fun W hW => y_index (sv := .slice (some ⟨g, o, none⟩) R cJ) (iv := .int .i64 ((j + 1 : Nat) : Int)) rfl (by kernel_rfl) (by kernel_rfl) (at_held W g o R cJ (j + 1) hlt)) ?_
          refine AnyB.take 12 (.pointer (some ⟨g, o + (j + 1) * 3, none⟩)) rfl (by kernel_rfl) (by kernel_rfl) (by kernel_rfl) (fun _ _ _ h => h) (by kernel_rfl) (fun W hW => y_field (sv := .pointer (some ⟨g, o + (j + 1) * 3, none⟩)) rfl (by kernel_rfl) (fh_0 W g (o + (j + 1) * 3))) ?_
          refine AnyB.take 13 (.string ⟨zi.toArray⟩) rfl (by kernel_rfl) (by kernel_rfl) (by kernel_rfl) (fun _ _ _ h => h) (by kernel_rfl) (fun W hW => y_load (sv := .pointer (some ⟨g, o + (j + 1) * 3, none⟩)) rfl (by kernel_rfl) (l_str W g (o + (j + 1) * 3) _ (HZ.out W (B8.out.trans ((LD.out.trans (hW.mono LD.out.size)).mono B8.out.size))).1)) ?_
          refine AnyB.take 14 (.bool false) rfl (by kernel_rfl) (by kernel_rfl) (by kernel_rfl) (fun _ _ _ h => h) (by kernel_rfl) (fun W hW => y_bin (x := .string ⟨xi.toArray⟩) (y := .string ⟨zi.toArray⟩) rfl (by kernel_rfl) (by kernel_rfl) rfl (geq_lt W xi zi hxz)) ?_
          refine AnyB.take 15 (.bool false) rfl (by kernel_rfl) (by kernel_rfl) (by kernel_rfl) (fun _ _ _ h => h) (by kernel_rfl) (fun W hW => by kernel_rfl) ?_
          refine AnyB.take 16 (.bool false) rfl (by kernel_rfl) (by kernel_rfl) (by kernel_rfl) (fun _ _ _ h => h) (by kernel_rfl) (fun W hW => by kernel_rfl) ?_
          refine AnyB.take 17 (.bool false) rfl (by kernel_rfl) (by kernel_rfl) (by kernel_rfl) (fun _ _ _ h => h) (by kernel_rfl) (fun W hW => by kernel_rfl) ?_
          refine AnyB.take 18 (.bool true) rfl (by kernel_rfl) (by kernel_rfl) (by kernel_rfl) (fun _ _ _ h => h) (by kernel_rfl) (fun W hW => by kernel_rfl) ?_
          refine AnyB.take 19 (.bool true) rfl (by kernel_rfl) (by kernel_rfl) (by kernel_rfl) (fun _ _ _ h => h) (by kernel_rfl) (fun W hW => by kernel_rfl) ?_
          refine AnyB.take 20 (.bool true) rfl (by kernel_rfl) (by kernel_rfl) (by kernel_rfl) (fun _ _ _ h => h) (by kernel_rfl) (fun W hW => by kernel_rfl) ?_
          refine AnyB.take 21 (.bool false) rfl (by kernel_rfl) (by kernel_rfl) (by kernel_rfl) (fun _ _ _ h => h) (by kernel_rfl) (fun W hW => by kernel_rfl) ?_
          refine AnyB.take 22 (.bool false) rfl (by kernel_rfl) (by kernel_rfl) (by kernel_rfl) (fun _ _ _ h => h) (by kernel_rfl) (fun W hW => by kernel_rfl) ?_
          refine AnyB.take 23 (.bool false) rfl (by kernel_rfl) (by kernel_rfl) (by kernel_rfl) (fun _ _ _ h => h) (by kernel_rfl) (fun W hW => by kernel_rfl) ?_
          refine AnyB.take 24 (.bool false) rfl (by kernel_rfl) (by kernel_rfl) (by kernel_rfl) (fun _ _ _ h => h) (by kernel_rfl) (fun W hW => by kernel_rfl) ?_
          refine AnyB.take 25 (.bool false) rfl (by kernel_rfl) (by kernel_rfl) (by kernel_rfl) (fun _ _ _ h => h) (by kernel_rfl) (fun W hW => by kernel_rfl) ?_
          refine AnyB.take 26 (.bool false) rfl (by kernel_rfl) (by kernel_rfl) (by kernel_rfl) (fun _ _ _ h => h) (by kernel_rfl) (fun W hW => by kernel_rfl) ?_
          refine AnyB.skip 27 rfl (by kernel_rfl) (by kernel_rfl) (by kernel_rfl) (fun _ _ _ h => h) (by kernel_rfl) ?_
          refine AnyB.skip 28 rfl (by kernel_rfl) (by kernel_rfl) (by kernel_rfl) (fun _ _ _ h => h) (by kernel_rfl) ?_
          refine AnyB.skip 29 rfl (by kernel_rfl) (by kernel_rfl) (by kernel_rfl) (fun _ _ _ h => h) (by kernel_rfl) ?_
          refine AnyB.skip 30 rfl (by kernel_rfl) (by kernel_rfl) (by kernel_rfl) (fun _ _ _ h => h) (by kernel_rfl) ?_
          refine AnyB.skip 31 rfl (by kernel_rfl) (by kernel_rfl) (by kernel_rfl) (fun _ _ _ h => h) (by kernel_rfl) ?_
          refine AnyB.skip 32 rfl (by kernel_rfl) (by kernel_rfl) (by kernel_rfl) (fun _ _ _ h => h) (by kernel_rfl) ?_
          refine AnyB.skip 33 rfl (by kernel_rfl) (by kernel_rfl) (by kernel_rfl) (fun _ _ _ h => h) (by kernel_rfl) ?_
          refine AnyB.take 34 (.bool false) rfl (by kernel_rfl) (by kernel_rfl) (by kernel_rfl) (fun _ _ _ h => h) (by kernel_rfl) (fun W hW => by kernel_rfl) ?_
          refine AnyB.take 35 (.bool false) rfl (by kernel_rfl) (by kernel_rfl) (by kernel_rfl) (fun _ _ _ h => h) (by kernel_rfl) (fun W hW => by kernel_rfl) ?_
          refine AnyB.take 36 (.bool false) rfl (by kernel_rfl) (by kernel_rfl) (by kernel_rfl) (fun _ _ _ h => h) (by kernel_rfl) (fun W hW => by kernel_rfl) ?_
          refine AnyB.take 37 (.bool false) rfl (by kernel_rfl) (by kernel_rfl) (by kernel_rfl) (fun _ _ _ h => h) (by kernel_rfl) (fun W hW => by kernel_rfl) ?_
          refine AnyB.take 38 (.bool true) rfl (by kernel_rfl) (by kernel_rfl) (by kernel_rfl) (fun _ _ _ h => h) (by kernel_rfl) (fun W hW => by kernel_rfl) ?_
          refine AnyB.take 39 (.bool true) rfl (by kernel_rfl) (by kernel_rfl) (by kernel_rfl) (fun _ _ _ h => h) (by kernel_rfl) (fun W hW => by kernel_rfl) ?_
          refine AnyB.take 40 (.agg #[.int .i64 zk, .string ⟨zd.toArray⟩]) rfl (by kernel_rfl) (by kernel_rfl) (by kernel_rfl) (fun _ _ _ h => h) (by kernel_rfl) (fun W hW => y_load (sv := .pointer (some ⟨w7.heap.size, 0, none⟩)) rfl (by kernel_rfl) (l_obj W w7.heap.size 0 _ _ (lookObj (HX2.out W (LD.out.trans (hW.mono LD.out.size)))).1 (lookObj (HX2.out W (LD.out.trans (hW.mono LD.out.size)))).2)) ?_
          refine AnyB.take 41 (.slice (some ⟨g, o, none⟩) R cJ) rfl (by kernel_rfl) (by kernel_rfl) (by kernel_rfl) (fun _ _ _ h => h) (by kernel_rfl) (fun W hW => by kernel_rfl) ?_
          refine AnyB.take 42 (.int .i64 ((j + 1 : Nat) : Int)) rfl (by kernel_rfl) (by kernel_rfl) (by kernel_rfl) (fun _ _ _ h => h) (by kernel_rfl) (fun W hW => by kernel_rfl) ?_
          refine AnyB.take 43 (.pointer (some ⟨g, o + (j + 1) * 3, none⟩)) rfl (by kernel_rfl) (by kernel_rfl) (by kernel_rfl) (fun _ _ _ h => h) (by kernel_rfl) (fun W hW => y_index (sv := .slice (some ⟨g, o, none⟩) R cJ) (iv := .int .i64 ((j + 1 : Nat) : Int)) rfl (by kernel_rfl) (by kernel_rfl) (at_held W g o R cJ (j + 1) hlt)) ?_
          refine AnyB.take 44 (.pointer (some ⟨g, o + (j + 1) * 3 + 1, none⟩)) rfl (by kernel_rfl) (by kernel_rfl) (by kernel_rfl) (fun _ _ _ h => h) (by kernel_rfl) (fun W hW => y_field (sv := .pointer (some ⟨g, o + (j + 1) * 3, none⟩)) rfl (by kernel_rfl) (fh_1 W g (o + (j + 1) * 3))) ?_
          refine AnyB.take 45 (.agg #[.int .i64 zk, .string ⟨zd.toArray⟩]) rfl (by kernel_rfl) (by kernel_rfl) (by kernel_rfl) (fun _ _ _ h => h) (by kernel_rfl) (fun W hW => y_load (sv := .pointer (some ⟨g, o + (j + 1) * 3 + 1, none⟩)) rfl (by kernel_rfl) (l_obj W g (o + (j + 1) * 3 + 1) _ _ (HZ.out W (B8.out.trans ((LD.out.trans (hW.mono LD.out.size)).mono B8.out.size))).2.1 (HZ.out W (B8.out.trans ((LD.out.trans (hW.mono LD.out.size)).mono B8.out.size))).2.2)) ?_
          refine AnyB.take 46 (.bool false) rfl (by kernel_rfl) (by kernel_rfl) (by kernel_rfl) (fun _ _ _ h => h) (by kernel_rfl) (fun W hW => y_bin (x := .agg #[.int .i64 zk, .string ⟨zd.toArray⟩]) (y := .agg #[.int .i64 zk, .string ⟨zd.toArray⟩]) rfl (by kernel_rfl) (by kernel_rfl) (grd_obj W _ _ zk _) (neq_obj W zk _)) ?_
          refine AnyB.take 47 (.bool false) rfl (by kernel_rfl) (by kernel_rfl) (by kernel_rfl) (fun _ _ _ h => h) (by kernel_rfl) (fun W hW => by kernel_rfl) ?_
          refine AnyB.take 48 (.bool false) rfl (by kernel_rfl) (by kernel_rfl) (by kernel_rfl) (fun _ _ _ h => h) (by kernel_rfl) (fun W hW => by kernel_rfl) ?_
          refine AnyB.done _ (by kernel_rfl) ?_
          go_simp
          have B9 : Hid (Below w4.heap.size w4 w8.drew) := Lib.hid B8.out.drew
          clear HX1 HX2 B8 LD
          go_wp2_with fail
          go_roundw
          case rel => exact ⟨(j + 1) + 1, hlt, by go_num, B9⟩
          case measure => simp [intOf]; omega
    have hkI : ¬ (k : Int) < (R : Int) := by omega
    have HB4 := Lib.hid hB.out
    obtain ⟨na, hna⟩ : ∃ n, n = a.length := ⟨_, rfl⟩
    have hna9 : na ≤ 100000 := by have := small_len HG2.out; omega
    have HNa := Lib.hid hna
    rw [← hna] at Ha ⊢
    clear hB hlt hna
    go_wp2_with fail
    go_loopw [14, 15, 16] (fun i _ _ wr => ∃ q : Nat, q ≤ na ∧ i = .int .i64 q ∧ Hid (Below w4.heap.size w4 wr)) (fun i _ _ _ => na - (intOf i).toNat)
    case atStart => exact ⟨0, Nat.zero_le _, rfl, HB4⟩
    case round =>
      clear HB4
      obtain ⟨q, hq, rfl, hB⟩ := hrel
      by_cases hlt : q < na
      · obtain ⟨g, o, c', e, _, hg⟩ := Ha.out.pos (by have := HNa.out; omega)
        obtain rfl : Aa = some ⟨g, o, none⟩ := by rw [← HNa.out] at e; cases e; rfl
        clear e
        have hqa : q < a.length := by have := HNa.out; omega
        have HBw : Hid (Below w.heap.size w wr) := Lib.hid (L4.out.trans (hB.out.mono L4.out.size))
        obtain ⟨c0, c1, c2⟩ := HldsR.cells (Ha.out.below HBw.out (Nat.le_refl _)) q hqa
        have hth := join_has HS.out hqa
        obtain ⟨xi, hxi⟩ : ∃ x, x = (a.getD q noHld).id := ⟨_, rfl⟩
        rw [← hxi] at c0 hth
        unfold SV at c0
        have hf := Find_any (HJ.out.below hB.out (Nat.le_refl _)) (by have := HR.out; omega) xi
        unfold findV at hf
        obtain ⟨yk, yd, ey⟩ := objC_agg (findL r xi)
        rw [ey, hth] at hf
        have HF := Lib.hid hf
        clear hf ey hth hxi c1 c2 hg hqa
        go_wp2_with fail
        refine HF.out.mono ?_
        rintro e w5 ⟨rfl, l9⟩
        have B5 : Hid (Below w4.heap.size w4 (w5.alloc (.cells #[.int .i64 yk, .string ⟨yd.toArray⟩] 26))) := Lib.hid ((hB.out.trans (l9.mono hB.out.size)).alloc (hB.out.trans (l9.mono hB.out.size)).size _)
        clear l9 HF HBw c0
        go_wp2_with fail
        go_roundw
        case rel => exact ⟨q + 1, hlt, by go_num, B5⟩
        case measure => simp [intOf]; omega
      have hqI : ¬ (q : Int) < (na : Int) := by omega
      have HBw : Hid (Below w.heap.size w wr) := Lib.hid (L4.out.trans (hB.out.mono L4.out.size))
      clear hB hlt
      go_wp2_with fail
      go_loopw [17, 18] (fun nv iv wr => Hid (Below w.heap.size w wr) ∧ ∃ k m : Nat, k ≤ N ∧ m ≤ N + 20000 ∧ iv = .int .i64 k ∧ nv = .int .i64 m ∧ Hid (∀ x ∈ ob.take k, min x.2.length 9000 ≤ m)) (fun _ iv _ => N - (intOf iv).toNat)
      case atStart => exact ⟨HBw, 0, 0, Nat.zero_le _, by omega, rfl, rfl, Lib.hid (fun x hx => by simp at hx)⟩
      case round =>
        obtain ⟨hB, k, m, hk, hm, rfl, rfl, hS⟩ := hrel
        by_cases hm9 : m < 9000
        · by_cases hlt : k < N
          · obtain ⟨g, o, c', e, _, hg⟩ := HO.out.pos (by have := HN.out; omega)
            obtain rfl : A = some ⟨g, o, none⟩ := by rw [← HN.out] at e; cases e; rfl
            clear e
            have hkl : k < ob.length := by have := HN.out; omega
            obtain ⟨c0, c1⟩ := ObjsR.cells (HO.out.below hB.out (Nat.le_refl _)) k hkl
            have hsn := take_getD ob (0, []) k hkl
            obtain ⟨d, hd⟩ : ∃ d, d = (ob.getD k (0, [])).2 := ⟨_, rfl⟩
            rw [← hd] at c1
            unfold SV at c1
            obtain ⟨m2, hm2⟩ : ∃ m2, m2 = m + min d.length 9000 := ⟨_, rfl⟩
            have HS2 : Hid (∀ x ∈ ob.take (k + 1), min x.2.length 9000 ≤ m2) := Lib.hid (by
              rw [hsn]
              intro x hx
              rcases List.mem_append.1 hx with hx | hx
              · have := hS.out x hx; omega
              · rw [List.mem_singleton.1 hx, ← hd]; omega)
            have t1 : IntKind.i64.wrap ((m : Int) + min (d.length : Int) 9000) = (m2 : Int) := by rw [show ((m : Int) + min (d.length : Int) 9000) = (m2 : Int) by omega]; exact IntWalk.i64_in _ (by omega)
            have t2 : (m : Int) + min (d.length : Int) 9000 = (m2 : Int) := by omega
            have hm2b : m2 ≤ N + 20000 := by omega
            have hmI : (m : Int) < 9000 := by omega
            have T2 := Lib.hid t2
            clear t2 hsn hd hm2 hg hkl c0 hS
            go_wp2_with fail
            go_roundw
            case rel => exact ⟨hB, k + 1, m2, hlt, hm2b, by go_num, by first | rfl | (rw [T2.out]) | go_num, HS2⟩
            case measure => simp [intOf]; omega
          have hSm : ∀ x ∈ ob, x.2.length < 9000 := fun x hx => by
            have h := hS.out x (by rw [show k = N by omega, HN.out, List.take_length]; exact hx)
            omega
          have HSm := Lib.hid hSm
          have hmI : (m : Int) < 9000 := by omega
          have hmI2 : ¬ (9000 : Int) ≤ (m : Int) := by omega
          have hkI : ¬ (k : Int) < (N : Int) := by omega
          have HB5 := Lib.hid hB.out
          clear hS hSm hB hm9
          have HSet := Lib.hid (Set_any (w := wr) (HO.out.below HB5.out (Nat.le_refl _)) (HOb.out.below HB5.out) (by have := HN.out; omega) (fun x hx => by have := HSm.out x hx; omega) fun B v' w' hn => sort_any hn (by have := setL_len ob; have := HN.out; omega))

          go_wp2_with fail
          refine HSet.out.mono ?_
          rintro e w6 ⟨u6, s, rfl, s6, k6, n6, b6⟩
          obtain ⟨A6, c6, rfl⟩ := own_slice n6
          obtain ⟨T, hT⟩ : ∃ T, T = s.length := ⟨_, rfl⟩
          have hTN : T ≤ N := by have := setL_len ob; have := HN.out; omega
          have hrd6 := n6.rd
          rw [← hT] at hrd6 ⊢
          have L6 := Lib.hid (HB5.out.trans (b6.mono HB5.out.size)); have HS6 := Lib.hid s6; have HQ : Hid (HldsR w6 (.slice A6 T c6) s) := Lib.hid hrd6; have HT := Lib.hid hT
          have HDt : Hid (∀ z ∈ s, z.data.length ≤ 70000 ∧ idL z.kind z.data = z.id ∧ namedB z.id = true) := Lib.hid fun z hz => by
            obtain ⟨x, hx, e⟩ := set_data s6 hz
            have := HSm.out x hx
            exact ⟨by rw [← e]; omega, (set_each s6 hz).1, (set_each s6 hz).2⟩
          clear s6 k6 n6 b6 HSet hrd6 hT
          have W60 := Lib.hid (Below.refl w6.heap.size w6)
          go_wp2_with fail
          go_loopw [20] (fun i wr => ∃ k : Nat, k ≤ T ∧ i = .int .i64 k ∧ Hid (Below w6.heap.size w6 wr)) (fun i _ => T - (intOf i).toNat)
          case atStart => exact ⟨0, Nat.zero_le _, rfl, W60⟩
          case round =>
            clear W60
            obtain ⟨k, hk, rfl, hB⟩ := hrel
            by_cases hlt : k < T
            · obtain ⟨g, o, c', e, _, hg⟩ := HQ.out.pos (by have := HT.out; omega)
              obtain rfl : A6 = some ⟨g, o, none⟩ := by rw [← HT.out] at e; cases e; rfl
              clear e
              have hks : k < s.length := by have := HT.out; omega
              have HCl := Lib.hid (fun W (hW : Below w6.heap.size w6 W) j (hj : j < s.length) => HldsR.cells (HQ.out.below hW (Nat.le_refl _)) j hj)
              have hri : ∀ j, k = j + 1 → (s.getD j noHld).id < (s.getD k noHld).id := fun j e => by subst e; exact rise_at HS6.out.rise hks
              obtain ⟨hz1, hz2, hz3⟩ := HDt.out _ (getD_mem s noHld k hks)
              obtain ⟨z, hzz⟩ : ∃ z, z = s.getD k noHld := ⟨_, rfl⟩
              have HZ : Hid (∀ W, Below w6.heap.size w6 W → W.cell? ⟨g, o + k * 3, none⟩ = some (.string ⟨z.id.toArray⟩) ∧ W.cell? ⟨g, o + k * 3 + 1, none⟩ = some (.int .i64 z.kind) ∧ W.cell? ⟨g, o + k * 3 + 2, none⟩ = some (.string ⟨z.data.toArray⟩)) := Lib.hid fun W hW => by
                have h := HCl.out W hW k hks
                rw [← hzz] at h; exact h
              rw [← hzz] at hz1 hz2 hz3 hri
              have HRi := Lib.hid hri
              have HId := Lib.hid (fun W => RId_any z.kind z.data hz1 W)
              have HNm := Lib.hid (fun W => RNamed_any z.id W (by have h64 : z.id.length = 64 := (by unfold namedB at hz3; simp at hz3; exact hz3.1); unfold maxLen; omega))
              rw [hz2] at HId
              rw [hz3] at HNm
              obtain ⟨zi, zk, zd⟩ := z
              unfold SV at HId HNm
              simp only at HId HNm HZ HRi
              have LD : Hid (Below w6.heap.size w6 wr.drew) := Lib.hid hB.out.drew
              clear hz1 hz2 hz3 hzz hri hg hks hB
              go_upto_region 29 with fail
              rcases Nat.eq_zero_or_pos k with hk0' | hk0'
              · have hk0 : decide (0 < k) = false := by rw [hk0']; rfl
                clear HRi hk0'
                refine AnyB.start (by kernel_rfl) ?_
                refine AnyB.take 0 (.slice (some ⟨g, o, none⟩) T c6) rfl (by kernel_rfl) (by kernel_rfl) (by kernel_rfl) (fun _ _ _ h => h) (by kernel_rfl) (fun W hW => by kernel_rfl) ?_
                refine AnyB.take 1 (.int .i64 (k : Int)) rfl (by kernel_rfl) (by kernel_rfl) (by kernel_rfl) (fun _ _ _ h => h) (by kernel_rfl) (fun W hW => by kernel_rfl) ?_
                refine AnyB.take 2 (.pointer (some ⟨g, o + k * 3, none⟩)) rfl (by kernel_rfl) (by kernel_rfl) (by kernel_rfl) (fun _ _ _ h => h) (by kernel_rfl) (fun W hW => y_index (sv := .slice (some ⟨g, o, none⟩) T c6) (iv := .int .i64 (k : Int)) rfl (by kernel_rfl) (by kernel_rfl) (at_held W g o T c6 k hlt)) ?_
                refine AnyB.take 3 (.pointer (some ⟨g, o + k * 3, none⟩)) rfl (by kernel_rfl) (by kernel_rfl) (by kernel_rfl) (fun _ _ _ h => h) (by kernel_rfl) (fun W hW => y_field (sv := .pointer (some ⟨g, o + k * 3, none⟩)) rfl (by kernel_rfl) (fh_0 W g (o + k * 3))) ?_
                refine AnyB.take 4 (.string ⟨zi.toArray⟩) rfl (by kernel_rfl) (by kernel_rfl) (by kernel_rfl) (fun _ _ _ h => h) (by kernel_rfl) (fun W hW => y_load (sv := .pointer (some ⟨g, o + k * 3, none⟩)) rfl (by kernel_rfl) (l_str W g (o + k * 3) _ (HZ.out W (LD.out.trans (hW.mono LD.out.size))).1)) ?_
                refine AnyB.call 5 13 #[.string ⟨zi.toArray⟩] (by kernel_rfl) rfl (by kernel_rfl) (by kernel_rfl) ?_
                refine (HNm.out wr.drew).mono ?_
                rintro e w7 ⟨rfl, hw7⟩
                refine ⟨_, rfl, (by rw [← hw7]; exact Below.refl _ _), ?_⟩
                subst hw7
                refine AnyB.take 6 (.bool false) rfl (by kernel_rfl) (by kernel_rfl) (by kernel_rfl) (fun _ _ _ h => h) (by kernel_rfl) (fun W hW => by kernel_rfl) ?_
                refine AnyB.take 7 (.bool false) rfl (by kernel_rfl) (by kernel_rfl) (by kernel_rfl) (fun _ _ _ h => h) (by kernel_rfl) (fun W hW => by kernel_rfl) ?_
                refine AnyB.take 8 (.slice (some ⟨g, o, none⟩) T c6) rfl (by kernel_rfl) (by kernel_rfl) (by kernel_rfl) (fun _ _ _ h => h) (by kernel_rfl) (fun W hW => by kernel_rfl) ?_
                refine AnyB.take 9 (.int .i64 (k : Int)) rfl (by kernel_rfl) (by kernel_rfl) (by kernel_rfl) (fun _ _ _ h => h) (by kernel_rfl) (fun W hW => by kernel_rfl) ?_
                refine AnyB.take 10 (.pointer (some ⟨g, o + k * 3, none⟩)) rfl (by kernel_rfl) (by kernel_rfl) (by kernel_rfl) (fun _ _ _ h => h) (by kernel_rfl) (fun W hW => y_index (sv := .slice (some ⟨g, o, none⟩) T c6) (iv := .int .i64 (k : Int)) rfl (by kernel_rfl) (by kernel_rfl) (at_held W g o T c6 k hlt)) ?_
                refine AnyB.take 11 (.pointer (some ⟨g, o + k * 3 + 1, none⟩)) rfl (by kernel_rfl) (by kernel_rfl) (by kernel_rfl) (fun _ _ _ h => h) (by kernel_rfl) (fun W hW => y_field (sv := .pointer (some ⟨g, o + k * 3, none⟩)) rfl (by kernel_rfl) (fh_1 W g (o + k * 3))) ?_
                refine AnyB.take 12 (.agg #[.int .i64 zk, .string ⟨zd.toArray⟩]) rfl (by kernel_rfl) (by kernel_rfl) (by kernel_rfl) (fun _ _ _ h => h) (by kernel_rfl) (fun W hW => y_load (sv := .pointer (some ⟨g, o + k * 3 + 1, none⟩)) rfl (by kernel_rfl) (l_obj W g (o + k * 3 + 1) _ _ (HZ.out W (LD.out.trans (hW.mono LD.out.size))).2.1 (HZ.out W (LD.out.trans (hW.mono LD.out.size))).2.2)) ?_
                refine AnyB.take 14 (.slice (some ⟨g, o, none⟩) T c6) rfl (by kernel_rfl) (by kernel_rfl) (by kernel_rfl) (fun _ _ _ h => h) (by kernel_rfl) (fun W hW => by kernel_rfl) ?_
                refine AnyB.take 15 (.int .i64 (k : Int)) rfl (by kernel_rfl) (by kernel_rfl) (by kernel_rfl) (fun _ _ _ h => h) (by kernel_rfl) (fun W hW => by kernel_rfl) ?_
                refine AnyB.take 16 (.pointer (some ⟨g, o + k * 3, none⟩)) rfl (by kernel_rfl) (by kernel_rfl) (by kernel_rfl) (fun _ _ _ h => h) (by kernel_rfl) (fun W hW => y_index (sv := .slice (some ⟨g, o, none⟩) T c6) (iv := .int .i64 (k : Int)) rfl (by kernel_rfl) (by kernel_rfl) (at_held W g o T c6 k hlt)) ?_
                refine AnyB.take 17 (.pointer (some ⟨g, o + k * 3, none⟩)) rfl (by kernel_rfl) (by kernel_rfl) (by kernel_rfl) (fun _ _ _ h => h) (by kernel_rfl) (fun W hW => y_field (sv := .pointer (some ⟨g, o + k * 3, none⟩)) rfl (by kernel_rfl) (fh_0 W g (o + k * 3))) ?_
                refine AnyB.take 18 (.string ⟨zi.toArray⟩) rfl (by kernel_rfl) (by kernel_rfl) (by kernel_rfl) (fun _ _ _ h => h) (by kernel_rfl) (fun W hW => y_load (sv := .pointer (some ⟨g, o + k * 3, none⟩)) rfl (by kernel_rfl) (l_str W g (o + k * 3) _ (HZ.out W (LD.out.trans (hW.mono LD.out.size))).1)) ?_
                refine AnyB.call 13 14 #[.agg #[.int .i64 zk, .string ⟨zd.toArray⟩]] (by kernel_rfl) rfl (by kernel_rfl) (by kernel_rfl) ?_
                refine (HId.out wr.drew).mono ?_
                rintro e w8 ⟨rfl, hb8⟩
                have LE := Lib.hid (LD.out.trans (hb8.mono LD.out.size))
                refine ⟨_, rfl, hb8, ?_⟩
                refine AnyB.take 19 (.bool false) rfl (by kernel_rfl) (by kernel_rfl) (by kernel_rfl) (fun _ _ _ h => h) (by kernel_rfl) (fun W hW => y_bin (x := .string ⟨zi.toArray⟩) (y := .string ⟨zi.toArray⟩) rfl (by kernel_rfl) (by kernel_rfl) rfl (neq_same W zi)) ?_
                refine AnyB.take 20 (.bool false) rfl (by kernel_rfl) (by kernel_rfl) (by kernel_rfl) (fun _ _ _ h => h) (by kernel_rfl) (fun W hW => by kernel_rfl) ?_
                refine AnyB.take 21 (.bool false) rfl (by kernel_rfl) (by kernel_rfl) (by kernel_rfl) (fun _ _ _ h => h) (by kernel_rfl) (fun W hW => by kernel_rfl) ?_
                refine AnyB.take 22 (.int .i64 (k : Int)) rfl (by kernel_rfl) (by kernel_rfl) (by kernel_rfl) (fun _ _ _ h => h) (by kernel_rfl) (fun W hW => by kernel_rfl) ?_
                refine AnyB.take 23 (.bool false) rfl (by kernel_rfl) (by kernel_rfl) (by kernel_rfl) (fun _ _ _ h => h) (by kernel_rfl) (fun W hW => y_bin (x := .int .i64 (k : Int)) (y := .int .i64 0) rfl (by kernel_rfl) (by kernel_rfl) rfl (gtr_k W k _ hk0)) ?_
                refine AnyB.take 24 (.bool false) rfl (by kernel_rfl) (by kernel_rfl) (by kernel_rfl) (fun _ _ _ h => h) (by kernel_rfl) (fun W hW => by kernel_rfl) ?_
                refine AnyB.skip 25 rfl (by kernel_rfl) (by kernel_rfl) (by kernel_rfl) (fun _ _ _ h => h) (by kernel_rfl) ?_
                refine AnyB.skip 26 rfl (by kernel_rfl) (by kernel_rfl) (by kernel_rfl) (fun _ _ _ h => h) (by kernel_rfl) ?_
                refine AnyB.skip 27 rfl (by kernel_rfl) (by kernel_rfl) (by kernel_rfl) (fun _ _ _ h => h) (by kernel_rfl) ?_
                refine AnyB.skip 28 rfl (by kernel_rfl) (by kernel_rfl) (by kernel_rfl) (fun _ _ _ h => h) (by kernel_rfl) ?_
                refine AnyB.skip 29 rfl (by kernel_rfl) (by kernel_rfl) (by kernel_rfl) (fun _ _ _ h => h) (by kernel_rfl) ?_
                refine AnyB.skip 30 rfl (by kernel_rfl) (by kernel_rfl) (by kernel_rfl) (fun _ _ _ h => h) (by kernel_rfl) ?_
                refine AnyB.skip 31 rfl (by kernel_rfl) (by kernel_rfl) (by kernel_rfl) (fun _ _ _ h => h) (by kernel_rfl) ?_
                refine AnyB.skip 32 rfl (by kernel_rfl) (by kernel_rfl) (by kernel_rfl) (fun _ _ _ h => h) (by kernel_rfl) ?_
                refine AnyB.skip 33 rfl (by kernel_rfl) (by kernel_rfl) (by kernel_rfl) (fun _ _ _ h => h) (by kernel_rfl) ?_
                refine AnyB.skip 34 rfl (by kernel_rfl) (by kernel_rfl) (by kernel_rfl) (fun _ _ _ h => h) (by kernel_rfl) ?_
                refine AnyB.skip 35 rfl (by kernel_rfl) (by kernel_rfl) (by kernel_rfl) (fun _ _ _ h => h) (by kernel_rfl) ?_
                refine AnyB.skip 36 rfl (by kernel_rfl) (by kernel_rfl) (by kernel_rfl) (fun _ _ _ h => h) (by kernel_rfl) ?_
                refine AnyB.take 37 (.bool false) rfl (by kernel_rfl) (by kernel_rfl) (by kernel_rfl) (fun _ _ _ h => h) (by kernel_rfl) (fun W hW => by kernel_rfl) ?_
                refine AnyB.take 38 (.bool false) rfl (by kernel_rfl) (by kernel_rfl) (by kernel_rfl) (fun _ _ _ h => h) (by kernel_rfl) (fun W hW => by kernel_rfl) ?_
                refine AnyB.done _ (by kernel_rfl) ?_
                go_simp
                clear hb8 LD HZ
                go_wp2_with fail
                go_roundw
                case rel => exact ⟨k + 1, hlt, by go_num, LE⟩
                case measure => simp [intOf]; omega
              · obtain ⟨j, rfl⟩ : ∃ j, k = j + 1 := ⟨k - 1, by omega⟩
                have hk0 : decide (0 < j + 1) = true := decide_eq_true (by omega)
                have hxz := HRi.out j rfl
                have HXj : Hid (∀ W, Below w6.heap.size w6 W → W.cell? ⟨g, o + j * 3, none⟩ = some (.string ⟨(s.getD j noHld).id.toArray⟩)) := Lib.hid fun W hW => (HCl.out W hW j (by have := HT.out; omega)).1
                obtain ⟨xi, hxi⟩ : ∃ x, x = (s.getD j noHld).id := ⟨_, rfl⟩
                rw [← hxi] at hxz HXj
                clear hxi HRi hk0'
                refine AnyB.start (by kernel_rfl) ?_
                refine AnyB.take 0 (.slice (some ⟨g, o, none⟩) T c6) rfl (by kernel_rfl) (by kernel_rfl) (by kernel_rfl) (fun _ _ _ h => h) (by kernel_rfl) (fun W hW => by kernel_rfl) ?_
                refine AnyB.take 1 (.int .i64 ((j + 1 : Nat) : Int)) rfl (by kernel_rfl) (by kernel_rfl) (by kernel_rfl) (fun _ _ _ h => h) (by kernel_rfl) (fun W hW => by kernel_rfl) ?_
                refine AnyB.take 2 (.pointer (some ⟨g, o + (j + 1) * 3, none⟩)) rfl (by kernel_rfl) (by kernel_rfl) (by kernel_rfl) (fun _ _ _ h => h) (by kernel_rfl) (fun W hW => y_index (sv := .slice (some ⟨g, o, none⟩) T c6) (iv := .int .i64 ((j + 1 : Nat) : Int)) rfl (by kernel_rfl) (by kernel_rfl) (at_held W g o T c6 (j + 1) hlt)) ?_
                refine AnyB.take 3 (.pointer (some ⟨g, o + (j + 1) * 3, none⟩)) rfl (by kernel_rfl) (by kernel_rfl) (by kernel_rfl) (fun _ _ _ h => h) (by kernel_rfl) (fun W hW => y_field (sv := .pointer (some ⟨g, o + (j + 1) * 3, none⟩)) rfl (by kernel_rfl) (fh_0 W g (o + (j + 1) * 3))) ?_
                refine AnyB.take 4 (.string ⟨zi.toArray⟩) rfl (by kernel_rfl) (by kernel_rfl) (by kernel_rfl) (fun _ _ _ h => h) (by kernel_rfl) (fun W hW => y_load (sv := .pointer (some ⟨g, o + (j + 1) * 3, none⟩)) rfl (by kernel_rfl) (l_str W g (o + (j + 1) * 3) _ (HZ.out W (LD.out.trans (hW.mono LD.out.size))).1)) ?_
                refine AnyB.call 5 13 #[.string ⟨zi.toArray⟩] (by kernel_rfl) rfl (by kernel_rfl) (by kernel_rfl) ?_
                refine (HNm.out wr.drew).mono ?_
                rintro e w7 ⟨rfl, hw7⟩
                refine ⟨_, rfl, (by rw [← hw7]; exact Below.refl _ _), ?_⟩
                subst hw7
                refine AnyB.take 6 (.bool false) rfl (by kernel_rfl) (by kernel_rfl) (by kernel_rfl) (fun _ _ _ h => h) (by kernel_rfl) (fun W hW => by kernel_rfl) ?_
                refine AnyB.take 7 (.bool false) rfl (by kernel_rfl) (by kernel_rfl) (by kernel_rfl) (fun _ _ _ h => h) (by kernel_rfl) (fun W hW => by kernel_rfl) ?_
                refine AnyB.take 8 (.slice (some ⟨g, o, none⟩) T c6) rfl (by kernel_rfl) (by kernel_rfl) (by kernel_rfl) (fun _ _ _ h => h) (by kernel_rfl) (fun W hW => by kernel_rfl) ?_
                refine AnyB.take 9 (.int .i64 ((j + 1 : Nat) : Int)) rfl (by kernel_rfl) (by kernel_rfl) (by kernel_rfl) (fun _ _ _ h => h) (by kernel_rfl) (fun W hW => by kernel_rfl) ?_
                refine AnyB.take 10 (.pointer (some ⟨g, o + (j + 1) * 3, none⟩)) rfl (by kernel_rfl) (by kernel_rfl) (by kernel_rfl) (fun _ _ _ h => h) (by kernel_rfl) (fun W hW => y_index (sv := .slice (some ⟨g, o, none⟩) T c6) (iv := .int .i64 ((j + 1 : Nat) : Int)) rfl (by kernel_rfl) (by kernel_rfl) (at_held W g o T c6 (j + 1) hlt)) ?_
                refine AnyB.take 11 (.pointer (some ⟨g, o + (j + 1) * 3 + 1, none⟩)) rfl (by kernel_rfl) (by kernel_rfl) (by kernel_rfl) (fun _ _ _ h => h) (by kernel_rfl) (fun W hW => y_field (sv := .pointer (some ⟨g, o + (j + 1) * 3, none⟩)) rfl (by kernel_rfl) (fh_1 W g (o + (j + 1) * 3))) ?_
                refine AnyB.take 12 (.agg #[.int .i64 zk, .string ⟨zd.toArray⟩]) rfl (by kernel_rfl) (by kernel_rfl) (by kernel_rfl) (fun _ _ _ h => h) (by kernel_rfl) (fun W hW => y_load (sv := .pointer (some ⟨g, o + (j + 1) * 3 + 1, none⟩)) rfl (by kernel_rfl) (l_obj W g (o + (j + 1) * 3 + 1) _ _ (HZ.out W (LD.out.trans (hW.mono LD.out.size))).2.1 (HZ.out W (LD.out.trans (hW.mono LD.out.size))).2.2)) ?_
                refine AnyB.take 14 (.slice (some ⟨g, o, none⟩) T c6) rfl (by kernel_rfl) (by kernel_rfl) (by kernel_rfl) (fun _ _ _ h => h) (by kernel_rfl) (fun W hW => by kernel_rfl) ?_
                refine AnyB.take 15 (.int .i64 ((j + 1 : Nat) : Int)) rfl (by kernel_rfl) (by kernel_rfl) (by kernel_rfl) (fun _ _ _ h => h) (by kernel_rfl) (fun W hW => by kernel_rfl) ?_
                refine AnyB.take 16 (.pointer (some ⟨g, o + (j + 1) * 3, none⟩)) rfl (by kernel_rfl) (by kernel_rfl) (by kernel_rfl) (fun _ _ _ h => h) (by kernel_rfl) (fun W hW => y_index (sv := .slice (some ⟨g, o, none⟩) T c6) (iv := .int .i64 ((j + 1 : Nat) : Int)) rfl (by kernel_rfl) (by kernel_rfl) (at_held W g o T c6 (j + 1) hlt)) ?_
                refine AnyB.take 17 (.pointer (some ⟨g, o + (j + 1) * 3, none⟩)) rfl (by kernel_rfl) (by kernel_rfl) (by kernel_rfl) (fun _ _ _ h => h) (by kernel_rfl) (fun W hW => y_field (sv := .pointer (some ⟨g, o + (j + 1) * 3, none⟩)) rfl (by kernel_rfl) (fh_0 W g (o + (j + 1) * 3))) ?_
                refine AnyB.take 18 (.string ⟨zi.toArray⟩) rfl (by kernel_rfl) (by kernel_rfl) (by kernel_rfl) (fun _ _ _ h => h) (by kernel_rfl) (fun W hW => y_load (sv := .pointer (some ⟨g, o + (j + 1) * 3, none⟩)) rfl (by kernel_rfl) (l_str W g (o + (j + 1) * 3) _ (HZ.out W (LD.out.trans (hW.mono LD.out.size))).1)) ?_
                refine AnyB.call 13 14 #[.agg #[.int .i64 zk, .string ⟨zd.toArray⟩]] (by kernel_rfl) rfl (by kernel_rfl) (by kernel_rfl) ?_
                refine (HId.out wr.drew).mono ?_
                rintro e w8 ⟨rfl, hb8⟩
                have LE := Lib.hid (LD.out.trans (hb8.mono LD.out.size))
                refine ⟨_, rfl, hb8, ?_⟩
                refine AnyB.take 19 (.bool false) rfl (by kernel_rfl) (by kernel_rfl) (by kernel_rfl) (fun _ _ _ h => h) (by kernel_rfl) (fun W hW => y_bin (x := .string ⟨zi.toArray⟩) (y := .string ⟨zi.toArray⟩) rfl (by kernel_rfl) (by kernel_rfl) rfl (neq_same W zi)) ?_
                refine AnyB.take 20 (.bool false) rfl (by kernel_rfl) (by kernel_rfl) (by kernel_rfl) (fun _ _ _ h => h) (by kernel_rfl) (fun W hW => by kernel_rfl) ?_
                refine AnyB.take 21 (.bool false) rfl (by kernel_rfl) (by kernel_rfl) (by kernel_rfl) (fun _ _ _ h => h) (by kernel_rfl) (fun W hW => by kernel_rfl) ?_
                refine AnyB.take 22 (.int .i64 ((j + 1 : Nat) : Int)) rfl (by kernel_rfl) (by kernel_rfl) (by kernel_rfl) (fun _ _ _ h => h) (by kernel_rfl) (fun W hW => by kernel_rfl) ?_
                refine AnyB.take 23 (.bool true) rfl (by kernel_rfl) (by kernel_rfl) (by kernel_rfl) (fun _ _ _ h => h) (by kernel_rfl) (fun W hW => y_bin (x := .int .i64 ((j + 1 : Nat) : Int)) (y := .int .i64 0) rfl (by kernel_rfl) (by kernel_rfl) rfl (gtr_k W (j + 1) _ hk0)) ?_
                refine AnyB.take 24 (.bool true) rfl (by kernel_rfl) (by kernel_rfl) (by kernel_rfl) (fun _ _ _ h => h) (by kernel_rfl) (fun W hW => by kernel_rfl) ?_
                refine AnyB.take 25 (.slice (some ⟨g, o, none⟩) T c6) rfl (by kernel_rfl) (by kernel_rfl) (by kernel_rfl) (fun _ _ _ h => h) (by kernel_rfl) (fun W hW => by kernel_rfl) ?_
                refine AnyB.take 26 (.int .i64 ((j + 1 : Nat) : Int)) rfl (by kernel_rfl) (by kernel_rfl) (by kernel_rfl) (fun _ _ _ h => h) (by kernel_rfl) (fun W hW => by kernel_rfl) ?_
                refine AnyB.take 27 (.int .i64 (j : Int)) rfl (by kernel_rfl) (by kernel_rfl) (by kernel_rfl) (fun _ _ _ h => h) (by kernel_rfl) (fun W hW => y_bin (x := .int .i64 ((j + 1 : Nat) : Int)) (y := .int .i64 1) rfl (by kernel_rfl) (by kernel_rfl) rfl (sub_1 W j (by omega))) ?_
                refine AnyB.take 28 (.pointer (some ⟨g, o + j * 3, none⟩)) rfl (by kernel_rfl) (by kernel_rfl) (by kernel_rfl) (fun _ _ _ h => h) (by kernel_rfl) (fun W hW => y_index (sv := .slice (some ⟨g, o, none⟩) T c6) (iv := .int .i64 (j : Int)) rfl (by kernel_rfl) (by kernel_rfl) (at_held W g o T c6 j (by omega))) ?_
                refine AnyB.take 29 (.pointer (some ⟨g, o + j * 3, none⟩)) rfl (by kernel_rfl) (by kernel_rfl) (by kernel_rfl) (fun _ _ _ h => h) (by kernel_rfl) (fun W hW => y_field (sv := .pointer (some ⟨g, o + j * 3, none⟩)) rfl (by kernel_rfl) (fh_0 W g (o + j * 3))) ?_
                refine AnyB.take 30 (.string ⟨xi.toArray⟩) rfl (by kernel_rfl) (by kernel_rfl) (by kernel_rfl) (fun _ _ _ h => h) (by kernel_rfl) (fun W hW => y_load (sv := .pointer (some ⟨g, o + j * 3, none⟩)) rfl (by kernel_rfl) (l_str W g (o + j * 3) _ (HXj.out W (LE.out.trans (hW.mono LE.out.size))))) ?_
                refine AnyB.take 31 (.slice (some ⟨g, o, none⟩) T c6) rfl (by kernel_rfl) (by kernel_rfl) (by kernel_rfl) (fun _ _ _ h => h) (by kernel_rfl) (fun W hW => by kernel_rfl) ?_
                refine AnyB.take 32 (.int .i64 ((j + 1 : Nat) : Int)) rfl (by kernel_rfl) (by kernel_rfl) (by kernel_rfl) (fun _ _ _ h => h) (by kernel_rfl) (fun W hW => by kernel_rfl) ?_
                refine AnyB.take 33 (.pointer (some ⟨g, o + (j + 1) * 3, none⟩)) rfl (by kernel_rfl) (by kernel_rfl) (by kernel_rfl) (fun _ _ _ h => h) (by kernel_rfl) (fun W hW => y_index (sv := .slice (some ⟨g, o, none⟩) T c6) (iv := .int .i64 ((j + 1 : Nat) : Int)) rfl (by kernel_rfl) (by kernel_rfl) (at_held W g o T c6 (j + 1) hlt)) ?_
                refine AnyB.take 34 (.pointer (some ⟨g, o + (j + 1) * 3, none⟩)) rfl (by kernel_rfl) (by kernel_rfl) (by kernel_rfl) (fun _ _ _ h => h) (by kernel_rfl) (fun W hW => y_field (sv := .pointer (some ⟨g, o + (j + 1) * 3, none⟩)) rfl (by kernel_rfl) (fh_0 W g (o + (j + 1) * 3))) ?_
                refine AnyB.take 35 (.string ⟨zi.toArray⟩) rfl (by kernel_rfl) (by kernel_rfl) (by kernel_rfl) (fun _ _ _ h => h) (by kernel_rfl) (fun W hW => y_load (sv := .pointer (some ⟨g, o + (j + 1) * 3, none⟩)) rfl (by kernel_rfl) (l_str W g (o + (j + 1) * 3) _ (HZ.out W (LE.out.trans (hW.mono LE.out.size))).1)) ?_
                refine AnyB.take 36 (.bool false) rfl (by kernel_rfl) (by kernel_rfl) (by kernel_rfl) (fun _ _ _ h => h) (by kernel_rfl) (fun W hW => y_bin (x := .string ⟨xi.toArray⟩) (y := .string ⟨zi.toArray⟩) rfl (by kernel_rfl) (by kernel_rfl) rfl (geq_lt W xi zi hxz)) ?_
                refine AnyB.take 37 (.bool false) rfl (by kernel_rfl) (by kernel_rfl) (by kernel_rfl) (fun _ _ _ h => h) (by kernel_rfl) (fun W hW => by kernel_rfl) ?_
                refine AnyB.take 38 (.bool false) rfl (by kernel_rfl) (by kernel_rfl) (by kernel_rfl) (fun _ _ _ h => h) (by kernel_rfl) (fun W hW => by kernel_rfl) ?_
                refine AnyB.done _ (by kernel_rfl) ?_
                go_simp
                clear hb8 LD HZ
                go_wp2_with fail
                go_roundw
                case rel => exact ⟨(j + 1) + 1, hlt, by go_num, LE⟩
                case measure => simp [intOf]; omega
            have hkT : ¬ (k : Int) < (T : Int) := by omega
            have hTI : (T : Int) ≤ (N : Int) := by omega
            have L7 := Lib.hid (L6.out.trans (hB.out.mono L6.out.size))
            clear hB
            go_wp2_with fail
            go_ret
            exact ⟨rfl, L7.out⟩
        · have hmI : ¬ (m : Int) < 9000 := by omega
          have hmI2 : (9000 : Int) ≤ (m : Int) := by omega
          have HB5 := Lib.hid hB.out
          clear hS hB hm9
          by_cases hlt : k < N
          · have hkI : (k : Int) < (N : Int) := by omega
            go_wp2_with fail
            go_ret
            exact ⟨rfl, HB5.out⟩
          · have hkI : ¬ (k : Int) < (N : Int) := by omega
            go_wp2_with fail
            go_ret
            exact ⟨rfl, HB5.out⟩
end Go.Proofs.YthbmaloajgkhmaaGreatDoor
