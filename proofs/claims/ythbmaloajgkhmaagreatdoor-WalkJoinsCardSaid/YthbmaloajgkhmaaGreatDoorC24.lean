/-
  The document's put and Set.
  The document's Join.
  The two names that the head's objects have, reckoned.
-/
import Derived.Test.YthbmaloajgkhmaaGreatDoorC23
import Derived.Test.YthbmaloajgkhmaaGreatDoorC20
import Derived.Test.YthbmaloajgkhmaaGreatDoorC01
import Derived.Test.YthbmaloajgkhmaaGreatDoorC12
import Derived.Test.YthbmaloajgkhmaaGreatDoorC14

namespace Go.Proofs.YthbmaloajgkhmaaGreatDoor.Ct
open Go.Proofs.YthbmaloajgkhmaaGreatDoor
open Go Go.RowKit Go.Maps

def PutPo (l : List Hld) (w : World) (e : Ending) (w' : World) : Prop := ∃ v, e = .returned v ∧ HldsR w' v l ∧ Below w.heap.size w w'
theorem eqlS (W : World) (x y : Bs) (b : Bool) (h : decide (x = y) = b) : (binOp .eql 9 (.string ⟨x.toArray⟩) (.string ⟨y.toArray⟩)).run Tryz.prog W = .ok (.bool b) W := by
  show (Op.stringOp .eql _ _).run _ _ = _
  cases b with
  | true =>
    have h1 : x = y := of_decide_eq_true h
    simp [go_sem, Op.stringOp, h1]
  | false =>
    have h1 : ¬ x = y := of_decide_eq_false h
    simp [go_sem, Op.stringOp, h1]
theorem gtrS (W : World) (x y : Bs) (b : Bool) (h : decide (y < x) = b) : (binOp .gtr 9 (.string ⟨x.toArray⟩) (.string ⟨y.toArray⟩)).run Tryz.prog W = .ok (.bool b) W := by
  show (Op.stringOp .gtr _ _).run _ _ = _
  have e := Go.Proofs.bytesLess_eq x y
  have e2 : (!decide (x < y) && !(x == y)) = b := by
    rw [← h, Bool.eq_iff_iff]
    simp only [Bool.and_eq_true, Bool.not_eq_true', decide_eq_false_iff_not, decide_eq_true_eq, beq_eq_false_iff_ne, ne_eq]
    constructor
    · rintro ⟨h1, h2⟩
      rcases lt_cases x y with h3 | h3 | h3
      · exact absurd h3 h1
      · exact absurd h3 h2
      · exact h3
    · intro h3
      exact ⟨fun h1 => lt_irr _ (lt_tr h1 h3), fun h2 => by rw [h2] at h3; exact lt_irr _ h3⟩
  simp [go_sem, Op.stringOp, e, ← e2]
theorem at_h (W : World) (g o n c k : Nat) (hk : k < n) : (Instr.indexAt 23 (.slice (some ⟨g, o, none⟩) n c) (.int .i64 (k : Int))).run Tryz.prog W = .ok (.pointer (some ⟨g, o + k * 3, none⟩)) W := by
  have h : (k : Int) < (n : Int) := by omega
  simp [go_sem, h]
theorem f_h0 (W : World) (b o : Nat) : (Instr.fieldAt 35 (.pointer (some ⟨b, o, none⟩)) 0).run Tryz.prog W = .ok (.pointer (some ⟨b, o, none⟩)) W := by simp [go_sem]
theorem l_St (W : World) (b o : Nat) (s : Bs) (h : W.cell? ⟨b, o, none⟩ = some (.string ⟨s.toArray⟩)) : (Instr.loadAt 9 (.pointer (some ⟨b, o, none⟩))).run Tryz.prog W = .ok (.string ⟨s.toArray⟩) W := by simp [go_sem, h]
structure InvT (l : List Hld) (x : Hld) (k : Nat) (O : List Hld) : Prop where
  eq : O ++ l.drop k = putH l x
  lt : ∀ y ∈ l.drop k, x.id < y.id
structure InvF (l : List Hld) (x : Hld) (k : Nat) (O : List Hld) : Prop where
  out : O = l.take k
  eq : l.take k ++ putH (l.drop k) x = putH l x
theorem drop_getD {l : List Hld} {k : Nat} (hk : k < l.length) : l.drop k = l.getD k noHld :: l.drop (k + 1) := by
  rw [List.drop_eq_getElem_cons hk, List.getD_eq_getElem?_getD, List.getElem?_eq_getElem hk]; rfl
theorem InvT.step {l : List Hld} {x : Hld} {k : Nat} {O : List Hld} (h : InvT l x k O) (hk : k < l.length) : InvT l x (k + 1) (O ++ [l.getD k noHld]) := by
  have e := drop_getD hk
  refine ⟨by rw [← h.eq, e]; simp, fun y hy => h.lt y (by rw [e]; exact List.mem_cons_of_mem _ hy)⟩
theorem InvF.same {l : List Hld} {x : Hld} {k : Nat} {O : List Hld} (h : InvF l x k O) (hk : k < l.length) (e : (l.getD k noHld).id = x.id) : putH l x = l := by
  rw [← h.eq, drop_getD hk, putH, if_pos e, ← drop_getD hk, List.take_append_drop]
theorem InvF.ins {l : List Hld} {x : Hld} {k : Nat} {O : List Hld} (h : InvF l x k O) (hr : l.Pairwise fun a b => a.id < b.id) (hk : k < l.length) (hn : ¬ (l.getD k noHld).id = x.id) (hlt : x.id < (l.getD k noHld).id) : InvT l x (k + 1) (O ++ [x] ++ [l.getD k noHld]) := by
  have hd := drop_getD hk
  refine ⟨?_, fun y hy => ?_⟩
  · rw [← h.eq, hd, putH, if_neg hn, if_pos hlt, h.out]; simp
  · have h2 := hr.sublist (List.drop_sublist k l)
    rw [hd] at h2
    exact lt_tr hlt ((List.pairwise_cons.1 h2).1 y hy)
theorem InvF.step {l : List Hld} {x : Hld} {k : Nat} {O : List Hld} (h : InvF l x k O) (hk : k < l.length) (hn : ¬ (l.getD k noHld).id = x.id) (hlt : ¬ x.id < (l.getD k noHld).id) : InvF l x (k + 1) (O ++ [l.getD k noHld]) := by
  have hd := drop_getD hk
  have ht := take_getD l noHld k hk
  refine ⟨by rw [ht, h.out], ?_⟩
  rw [← h.eq, hd, putH, if_neg hn, if_neg hlt, ht]; simp
theorem getD_memH {l : List Hld} {k : Nat} (hk : k < l.length) : l.getD k noHld ∈ l.drop k := by rw [drop_getD hk]; exact List.mem_cons_self
set_option maxHeartbeats 8000000 in
set_option maxRecDepth 100000 in
theorem put_p {w : World} {v : Value} {l : List Hld} {x : Hld} (h : HldsR w v l) (hr : l.Pairwise fun a b => a.id < b.id) (hl : l.length ≤ 900000) :
    Calls Tryz.prog 21 #[v, .agg #[SV x.id, .int .i64 x.kind, SV x.data]] w (PutPo (putH l x) w) := by
  obtain ⟨A, c, rfl⟩ := h.shape
  obtain ⟨n, hn⟩ : ∃ n, n = l.length := ⟨_, rfl⟩
  have hnl : n ≤ 900000 := by omega
  rw [← hn] at h ⊢
  obtain ⟨xi, hxi⟩ : ∃ y, y = x.id := ⟨_, rfl⟩
  obtain ⟨xk, hxk⟩ : ∃ y, y = x.kind := ⟨_, rfl⟩
  obtain ⟨xd, hxd⟩ : ∃ y, y = x.data := ⟨_, rfl⟩
  have hX : heldC x = [SV xi, .int .i64 xk, SV xd] := by unfold heldC; rw [hxi, hxk, hxd]
  rw [← hxi, ← hxk, ← hxd]
  unfold SV at hX ⊢
  obtain ⟨wa, hwa⟩ : ∃ y, y = w.alloc (.cells #[.string ⟨xi.toArray⟩, .int .i64 xk, .string ⟨xd.toArray⟩] 35) := ⟨_, rfl⟩
  have la : Below w.heap.size w wa := by rw [hwa]; exact below_new _ _
  have sa : w.heap.size < wa.heap.size := by rw [hwa]; simp
  have cl := fun (i : Nat) (u : Value) (hi : (#[.string ⟨xi.toArray⟩, .int .i64 xk, .string ⟨xd.toArray⟩] : Array Value)[i]? = some u) => (show Hid (∀ W, Below wa.heap.size wa W → W.cell? ⟨w.heap.size, i, none⟩ = some u) from Lib.hid fun W h =>
    (h.cell (p := ⟨w.heap.size, i, none⟩) sa).trans (by rw [hwa, cell_of_row _ _ _ _ _ _ (heap_alloc_new w _)]; exact hi))
  have C0 := cl 0 _ rfl; have C1 := cl 1 _ rfl; have C2 := cl 2 _ rfl
  have H := Lib.hid h; have HR := Lib.hid hr; have HN := Lib.hid hn; have LA := Lib.hid la; have HW := Lib.hid hwa; have HX := Lib.hid hX; have HXi := Lib.hid hxi
  clear h hr hn la sa cl hwa hl hX hxi hxk hxd
  go_enter Tryz.func21, Tryz.ntmps21
  go_upto_region 1 with fail
  rw [← HW.out]
  clear HW
  go_wp2_with fail
  go_loopw [5, 6, 7] (fun z dv i wr => Hid (Below wa.heap.size wa wr) ∧ ∃ (k : Nat) (d : Bool) (O : List Hld), k ≤ n ∧ i = .int .i64 k ∧ dv = .bool d ∧ Hid (NewH wa.heap.size wr z O) ∧ O.length ≤ k + 1 ∧ Hid (d = true → InvT l x k O) ∧ Hid (d = false → InvF l x k O)) (fun _ _ i _ => n - (intOf i).toNat)
  case atStart => exact ⟨Lib.hid (Below.refl _ _), 0, false, [], Nat.zero_le _, rfl, rfl, Lib.hid (OwK.nil _ _ _ _ _), Nat.zero_le _, Lib.hid (fun h => by cases h), Lib.hid (fun _ => ⟨rfl, rfl⟩)⟩
  case round =>
    obtain ⟨hB, k, d, O, hk, rfl, rfl, hO, hOl, hT, hF⟩ := hrel
    by_cases hlt : k < n
    case neg =>
      have hkn : k = n := by omega
      have HO := Lib.hid hO.out
      cases d with
      | true =>
        have HE : Hid (O = putH l x) := Lib.hid (by
          have h := (hT.out rfl).eq
          rw [hkn, HN.out, List.drop_length, List.append_nil] at h; exact h)
        clear hkn hT hF hO
        go_wp2_with fail
        go_ret
        exact ⟨_, rfl, by rw [← HE.out]; exact OwK.rd heldC_len HO.out, LA.out.trans (hB.out.mono LA.out.size)⟩
      | false =>
        have HE : Hid (O ++ [x] = putH l x) := Lib.hid (by
          have h := hF.out rfl
          have h2 := h.eq
          rw [hkn, HN.out, List.drop_length, List.take_length] at h2
          rw [h.out, hkn, HN.out, List.take_length, ← h2]; rfl)
        have f0 := C0.out wr hB.out; have f1 := C1.out wr hB.out; have f2 := C2.out wr hB.out
        have HBs : Hid (wa.heap.size ≤ wr.heap.size) := Lib.hid hB.out.size
        clear hkn hT hF hO
        go_wp2_with (at_builtin; refine wpList_one heldK rfl _ _ rfl wa.heap.size u5 O x _ (by rw [HX.out]) rfl rfl HO.out ?c1 (by decide) HBs.out ?_)
        case c1 => omega
        intro z' w2 hN2 hb2
        have HN2 := Lib.hid hN2; have HB2 := Lib.hid (hB.out.trans hb2)
        clear hN2 hb2 f0 f1 f2
        go_wp2_with fail
        go_ret
        exact ⟨_, rfl, by rw [← HE.out]; exact OwK.rd heldC_len HN2.out, LA.out.trans (HB2.out.mono LA.out.size)⟩
    obtain ⟨g, o, c', e, _, hg⟩ := H.out.pos (by have := HN.out; omega)
    obtain rfl : A = some ⟨g, o, none⟩ := by rw [← HN.out] at e; cases e; rfl
    clear e
    have hkl : k < l.length := by have := HN.out; omega
    have hcl := fun W (hW : Below wa.heap.size wa W) => HldsR.cells (H.out.below (LA.out.trans (hW.mono LA.out.size)) (Nat.le_refl _)) k hkl
    obtain ⟨y, hy⟩ : ∃ y, y = l.getD k noHld := ⟨_, rfl⟩
    rw [← hy] at hcl
    have HTs : Hid (d = true → InvT l x (k + 1) (O ++ [y])) := Lib.hid fun h => by rw [hy]; exact (hT.out h).step hkl
    have HTn : Hid (d = true → ¬ y.id = xi) := Lib.hid fun h e => by
      have h2 := (hT.out h).lt y (by rw [hy]; exact getD_memH hkl)
      rw [e, HXi.out] at h2; exact lt_irr _ h2
    have HFs : Hid (d = false → y.id = xi → putH l x = l) := Lib.hid fun h e => (hF.out h).same hkl (by rw [← hy, e, HXi.out])
    have hOk : d = false → O.length ≤ k := fun h => by rw [(hF.out h).out, List.length_take]; omega
    have HFi : Hid (d = false → ¬ y.id = xi → xi < y.id → InvT l x (k + 1) (O ++ [x, y])) := Lib.hid fun h h1 h2 => by
      rw [hy] at h1 h2 ⊢
      rw [HXi.out] at h1 h2
      have h3 := (hF.out h).ins HR.out hkl h1 h2
      rw [List.append_assoc] at h3
      exact h3
    have HFn : Hid (d = false → ¬ y.id = xi → ¬ xi < y.id → InvF l x (k + 1) (O ++ [y])) := Lib.hid fun h h1 h2 => by
      rw [hy] at h1 h2 ⊢
      rw [HXi.out] at h1 h2
      exact (hF.out h).step hkl h1 h2
    have hyC : heldC y = [SV y.id, .int .i64 y.kind, SV y.data] := rfl
    obtain ⟨yi, hyi⟩ : ∃ z, z = y.id := ⟨_, rfl⟩
    obtain ⟨yk, hyk⟩ : ∃ z, z = y.kind := ⟨_, rfl⟩
    obtain ⟨yd, hyd⟩ : ∃ z, z = y.data := ⟨_, rfl⟩
    rw [← hyi] at HTn HFs HFi HFn
    rw [← hyi, ← hyk, ← hyd] at hcl hyC
    unfold SV at hcl hyC
    have HY := Lib.hid hyC
    have Y0 := Lib.hid fun W hW => (hcl W hW).1; have Y1 := Lib.hid fun W hW => (hcl W hW).2.1; have Y2 := Lib.hid fun W hW => (hcl W hW).2.2
    have LD : Hid (Below wa.heap.size wa wr.drew) := Lib.hid hB.out.drew
    have HO : Hid (NewH wa.heap.size wr.drew.drew u5 O) := hO
    have HBd : Hid (Below wa.heap.size wa wr.drew.drew) := Lib.hid hB.out.drew.drew
    clear hcl hy hyi hyk hyd hyC hkl hg hT hF hO
    go_wp2_with fail
    by_cases e1 : yi = xi
    · have h1 : decide (yi = xi) = true := decide_eq_true e1
      cases d with
      | true => exact absurd e1 (HTn.out rfl)
      | false =>
      have HE := Lib.hid (HFs.out rfl e1)
      clear e1 HTn HFs HFi HFn
      refine AnyB.start (by kernel_rfl) ?_
      refine AnyB.take 0 (.slice (some ⟨g, o, none⟩) n c) rfl (by kernel_rfl) (by kernel_rfl) (by kernel_rfl) (fun _ _ _ h => h) (by kernel_rfl) (fun W hW => by kernel_rfl) ?_
      refine AnyB.take 1 (.int .i64 (k : Int)) rfl (by kernel_rfl) (by kernel_rfl) (by kernel_rfl) (fun _ _ _ h => h) (by kernel_rfl) (fun W hW => by kernel_rfl) ?_
      refine AnyB.take 2 (.pointer (some ⟨g, o + k * 3, none⟩)) rfl (by kernel_rfl) (by kernel_rfl) (by kernel_rfl) (fun _ _ _ h => h) (by kernel_rfl) (fun W hW => y_index (sv := .slice (some ⟨g, o, none⟩) n c) (iv := .int .i64 (k : Int)) rfl (by kernel_rfl) (by kernel_rfl) (at_h W g o n c k hlt)) ?_
      refine AnyB.take 3 (.pointer (some ⟨g, o + k * 3, none⟩)) rfl (by kernel_rfl) (by kernel_rfl) (by kernel_rfl) (fun _ _ _ h => h) (by kernel_rfl) (fun W hW => y_field (sv := .pointer (some ⟨g, o + k * 3, none⟩)) rfl (by kernel_rfl) (f_h0 W g (o + k * 3))) ?_
      refine AnyB.take 4 (.string ⟨yi.toArray⟩) rfl (by kernel_rfl) (by kernel_rfl) (by kernel_rfl) (fun _ _ _ h => h) (by kernel_rfl) (fun W hW => y_load (sv := .pointer (some ⟨g, o + k * 3, none⟩)) rfl (by kernel_rfl) (l_St W g (o + k * 3) yi (Y0.out W (LD.out.trans (hW.mono LD.out.size))))) ?_
      refine AnyB.take 5 (.pointer (some ⟨w.heap.size, 0, none⟩)) rfl (by kernel_rfl) (by kernel_rfl) (by kernel_rfl) (fun _ _ _ h => h) (by kernel_rfl) (fun W hW => y_field (sv := .pointer (some ⟨w.heap.size, 0, none⟩)) rfl (by kernel_rfl) (f_h0 W _ 0)) ?_
      refine AnyB.take 6 (.string ⟨xi.toArray⟩) rfl (by kernel_rfl) (by kernel_rfl) (by kernel_rfl) (fun _ _ _ h => h) (by kernel_rfl) (fun W hW => y_load (sv := .pointer (some ⟨w.heap.size, 0, none⟩)) rfl (by kernel_rfl) (l_St W _ 0 xi (C0.out W (LD.out.trans (hW.mono LD.out.size))))) ?_
      refine AnyB.take 7 (.bool true) rfl (by kernel_rfl) (by kernel_rfl) (by kernel_rfl) (fun _ _ _ h => h) (by kernel_rfl) (fun W hW => y_bin (x := .string ⟨yi.toArray⟩) (y := .string ⟨xi.toArray⟩) rfl (by kernel_rfl) (by kernel_rfl) rfl (eqlS W yi xi _ h1)) ?_
      refine AnyB.done _ (by kernel_rfl) ?_
      go_simp
      have HLw := Lib.hid (H.out.below (LA.out.trans (LD.out.mono LA.out.size)) (Nat.le_refl _))
      go_wp2_with fail
      go_ret
      exact ⟨_, rfl, by rw [HE.out]; exact HLw.out, LA.out.trans (LD.out.mono LA.out.size)⟩
    have h1 : decide (yi = xi) = false := decide_eq_false e1
    refine AnyB.start (by kernel_rfl) ?_
    refine AnyB.take 0 (.slice (some ⟨g, o, none⟩) n c) rfl (by kernel_rfl) (by kernel_rfl) (by kernel_rfl) (fun _ _ _ h => h) (by kernel_rfl) (fun W hW => by kernel_rfl) ?_
    refine AnyB.take 1 (.int .i64 (k : Int)) rfl (by kernel_rfl) (by kernel_rfl) (by kernel_rfl) (fun _ _ _ h => h) (by kernel_rfl) (fun W hW => by kernel_rfl) ?_
    refine AnyB.take 2 (.pointer (some ⟨g, o + k * 3, none⟩)) rfl (by kernel_rfl) (by kernel_rfl) (by kernel_rfl) (fun _ _ _ h => h) (by kernel_rfl) (fun W hW => y_index (sv := .slice (some ⟨g, o, none⟩) n c) (iv := .int .i64 (k : Int)) rfl (by kernel_rfl) (by kernel_rfl) (at_h W g o n c k hlt)) ?_
    refine AnyB.take 3 (.pointer (some ⟨g, o + k * 3, none⟩)) rfl (by kernel_rfl) (by kernel_rfl) (by kernel_rfl) (fun _ _ _ h => h) (by kernel_rfl) (fun W hW => y_field (sv := .pointer (some ⟨g, o + k * 3, none⟩)) rfl (by kernel_rfl) (f_h0 W g (o + k * 3))) ?_
    refine AnyB.take 4 (.string ⟨yi.toArray⟩) rfl (by kernel_rfl) (by kernel_rfl) (by kernel_rfl) (fun _ _ _ h => h) (by kernel_rfl) (fun W hW => y_load (sv := .pointer (some ⟨g, o + k * 3, none⟩)) rfl (by kernel_rfl) (l_St W g (o + k * 3) yi (Y0.out W (LD.out.trans (hW.mono LD.out.size))))) ?_
    refine AnyB.take 5 (.pointer (some ⟨w.heap.size, 0, none⟩)) rfl (by kernel_rfl) (by kernel_rfl) (by kernel_rfl) (fun _ _ _ h => h) (by kernel_rfl) (fun W hW => y_field (sv := .pointer (some ⟨w.heap.size, 0, none⟩)) rfl (by kernel_rfl) (f_h0 W _ 0)) ?_
    refine AnyB.take 6 (.string ⟨xi.toArray⟩) rfl (by kernel_rfl) (by kernel_rfl) (by kernel_rfl) (fun _ _ _ h => h) (by kernel_rfl) (fun W hW => y_load (sv := .pointer (some ⟨w.heap.size, 0, none⟩)) rfl (by kernel_rfl) (l_St W _ 0 xi (C0.out W (LD.out.trans (hW.mono LD.out.size))))) ?_
    refine AnyB.take 7 (.bool false) rfl (by kernel_rfl) (by kernel_rfl) (by kernel_rfl) (fun _ _ _ h => h) (by kernel_rfl) (fun W hW => y_bin (x := .string ⟨yi.toArray⟩) (y := .string ⟨xi.toArray⟩) rfl (by kernel_rfl) (by kernel_rfl) rfl (eqlS W yi xi _ h1)) ?_
    refine AnyB.done _ (by kernel_rfl) ?_
    go_simp
    have LE : Hid (Below wa.heap.size wa wr.drew.drew) := HBd
    go_wp2_with fail
    cases d with
    | true =>
      have HT2 := Lib.hid (HTs.out rfl)
      clear e1 h1 HTn HFs HFi HFn HTs
      refine AnyB.start (by kernel_rfl) ?_
      refine AnyB.take 0 (.bool true) rfl (by kernel_rfl) (by kernel_rfl) (by kernel_rfl) (fun _ _ _ h => h) (by kernel_rfl) (fun W hW => by kernel_rfl) ?_
      refine AnyB.take 1 (.bool false) rfl (by kernel_rfl) (by kernel_rfl) (by kernel_rfl) (fun _ _ _ h => h) (by kernel_rfl) (fun W hW => by kernel_rfl) ?_
      refine AnyB.take 2 (.bool false) rfl (by kernel_rfl) (by kernel_rfl) (by kernel_rfl) (fun _ _ _ h => h) (by kernel_rfl) (fun W hW => by kernel_rfl) ?_
      refine AnyB.skip 3 rfl (by kernel_rfl) (by kernel_rfl) (by kernel_rfl) (fun _ _ _ h => h) (by kernel_rfl) ?_
      refine AnyB.skip 4 rfl (by kernel_rfl) (by kernel_rfl) (by kernel_rfl) (fun _ _ _ h => h) (by kernel_rfl) ?_
      refine AnyB.skip 5 rfl (by kernel_rfl) (by kernel_rfl) (by kernel_rfl) (fun _ _ _ h => h) (by kernel_rfl) ?_
      refine AnyB.skip 6 rfl (by kernel_rfl) (by kernel_rfl) (by kernel_rfl) (fun _ _ _ h => h) (by kernel_rfl) ?_
      refine AnyB.skip 7 rfl (by kernel_rfl) (by kernel_rfl) (by kernel_rfl) (fun _ _ _ h => h) (by kernel_rfl) ?_
      refine AnyB.skip 8 rfl (by kernel_rfl) (by kernel_rfl) (by kernel_rfl) (fun _ _ _ h => h) (by kernel_rfl) ?_
      refine AnyB.skip 9 rfl (by kernel_rfl) (by kernel_rfl) (by kernel_rfl) (fun _ _ _ h => h) (by kernel_rfl) ?_
      refine AnyB.skip 10 rfl (by kernel_rfl) (by kernel_rfl) (by kernel_rfl) (fun _ _ _ h => h) (by kernel_rfl) ?_
      refine AnyB.take 11 (.bool false) rfl (by kernel_rfl) (by kernel_rfl) (by kernel_rfl) (fun _ _ _ h => h) (by kernel_rfl) (fun W hW => by kernel_rfl) ?_
      refine AnyB.done _ (by kernel_rfl) ?_
      go_simp
      obtain ⟨ww, hww⟩ : ∃ z, z = wr.drew.drew := ⟨_, rfl⟩
      rw [← hww] at HO HBd LE ⊢
      clear hww
      have HOw := HO; have HBw := HBd
      have p0 := Y0.out ww HBd.out; have p1 := Y1.out ww HBd.out; have p2 := Y2.out ww HBd.out
      go_wp2_with (at_builtin; refine wpList_one heldK rfl _ _ rfl wa.heap.size u5 O y _ (by rw [HY.out]) rfl rfl HOw.out ?c1 (by decide) HBw.out.size ?_)
      case c1 => omega
      intro z' w3 hN3 hb3
      have HN3 := Lib.hid hN3; have HB3 := Lib.hid (HBw.out.trans hb3)
      clear hN3 hb3 p0 p1 p2
      go_wp2_with fail
      go_roundw
      case rel => exact ⟨HB3, k + 1, true, O ++ [y], hlt, by go_num, rfl, HN3, by simp; omega, Lib.hid (fun _ => HT2.out), Lib.hid (fun h => by cases h)⟩
      case measure => simp [intOf]; omega
    | false =>
    by_cases e2 : xi < yi
    · have h2 : decide (xi < yi) = true := decide_eq_true e2
      have HT2 := Lib.hid (HFi.out rfl e1 e2)
      clear e1 h1 e2 HTn HFs HFi HFn HTs
      refine AnyB.start (by kernel_rfl) ?_
      refine AnyB.take 0 (.bool false) rfl (by kernel_rfl) (by kernel_rfl) (by kernel_rfl) (fun _ _ _ h => h) (by kernel_rfl) (fun W hW => by kernel_rfl) ?_
      refine AnyB.take 1 (.bool true) rfl (by kernel_rfl) (by kernel_rfl) (by kernel_rfl) (fun _ _ _ h => h) (by kernel_rfl) (fun W hW => by kernel_rfl) ?_
      refine AnyB.take 2 (.bool true) rfl (by kernel_rfl) (by kernel_rfl) (by kernel_rfl) (fun _ _ _ h => h) (by kernel_rfl) (fun W hW => by kernel_rfl) ?_
      refine AnyB.take 3 (.slice (some ⟨g, o, none⟩) n c) rfl (by kernel_rfl) (by kernel_rfl) (by kernel_rfl) (fun _ _ _ h => h) (by kernel_rfl) (fun W hW => by kernel_rfl) ?_
      refine AnyB.take 4 (.int .i64 (k : Int)) rfl (by kernel_rfl) (by kernel_rfl) (by kernel_rfl) (fun _ _ _ h => h) (by kernel_rfl) (fun W hW => by kernel_rfl) ?_
      refine AnyB.take 5 (.pointer (some ⟨g, o + k * 3, none⟩)) rfl (by kernel_rfl) (by kernel_rfl) (by kernel_rfl) (fun _ _ _ h => h) (by kernel_rfl) (fun W hW => y_index (sv := .slice (some ⟨g, o, none⟩) n c) (iv := .int .i64 (k : Int)) rfl (by kernel_rfl) (by kernel_rfl) (at_h W g o n c k hlt)) ?_
      refine AnyB.take 6 (.pointer (some ⟨g, o + k * 3, none⟩)) rfl (by kernel_rfl) (by kernel_rfl) (by kernel_rfl) (fun _ _ _ h => h) (by kernel_rfl) (fun W hW => y_field (sv := .pointer (some ⟨g, o + k * 3, none⟩)) rfl (by kernel_rfl) (f_h0 W g (o + k * 3))) ?_
      refine AnyB.take 7 (.string ⟨yi.toArray⟩) rfl (by kernel_rfl) (by kernel_rfl) (by kernel_rfl) (fun _ _ _ h => h) (by kernel_rfl) (fun W hW => y_load (sv := .pointer (some ⟨g, o + k * 3, none⟩)) rfl (by kernel_rfl) (l_St W g (o + k * 3) yi (Y0.out W (LE.out.trans (hW.mono LE.out.size))))) ?_
      refine AnyB.take 8 (.pointer (some ⟨w.heap.size, 0, none⟩)) rfl (by kernel_rfl) (by kernel_rfl) (by kernel_rfl) (fun _ _ _ h => h) (by kernel_rfl) (fun W hW => y_field (sv := .pointer (some ⟨w.heap.size, 0, none⟩)) rfl (by kernel_rfl) (f_h0 W _ 0)) ?_
      refine AnyB.take 9 (.string ⟨xi.toArray⟩) rfl (by kernel_rfl) (by kernel_rfl) (by kernel_rfl) (fun _ _ _ h => h) (by kernel_rfl) (fun W hW => y_load (sv := .pointer (some ⟨w.heap.size, 0, none⟩)) rfl (by kernel_rfl) (l_St W _ 0 xi (C0.out W (LE.out.trans (hW.mono LE.out.size))))) ?_
      refine AnyB.take 10 (.bool true) rfl (by kernel_rfl) (by kernel_rfl) (by kernel_rfl) (fun _ _ _ h => h) (by kernel_rfl) (fun W hW => y_bin (x := .string ⟨yi.toArray⟩) (y := .string ⟨xi.toArray⟩) rfl (by kernel_rfl) (by kernel_rfl) rfl (gtrS W yi xi _ h2)) ?_
      refine AnyB.take 11 (.bool true) rfl (by kernel_rfl) (by kernel_rfl) (by kernel_rfl) (fun _ _ _ h => h) (by kernel_rfl) (fun W hW => by kernel_rfl) ?_
      refine AnyB.done _ (by kernel_rfl) ?_
      go_simp
      obtain ⟨ww, hww⟩ : ∃ z, z = wr.drew.drew := ⟨_, rfl⟩
      rw [← hww] at HO HBd LE ⊢
      clear hww
      have f0 := C0.out ww HBd.out; have f1 := C1.out ww HBd.out; have f2 := C2.out ww HBd.out
      go_wp2_with (at_builtin; refine wpList_one heldK rfl _ _ rfl wa.heap.size u5 O x _ (by rw [HX.out]) rfl rfl HO.out ?c1 (by decide) HBd.out.size ?_)
      case c1 => omega
      intro zx w2 hN2 hb2
      have HOw := Lib.hid hN2; have HBw := Lib.hid (HBd.out.trans hb2)
      clear hN2 hb2 f0 f1 f2
      have p0 := Y0.out w2 HBw.out; have p1 := Y1.out w2 HBw.out; have p2 := Y2.out w2 HBw.out
      go_wp2_with (at_builtin; refine wpList_one heldK rfl _ _ rfl wa.heap.size zx (O ++ [x]) y _ (by rw [HY.out]) rfl rfl HOw.out ?c1 (by decide) HBw.out.size ?_)
      case c1 => simp; omega
      intro z' w3 hN3 hb3
      have HN3 := Lib.hid hN3; have HB3 := Lib.hid (HBw.out.trans hb3)
      clear hN3 hb3 p0 p1 p2
      go_wp2_with fail
      go_roundw
      case rel => exact ⟨HB3, k + 1, true, O ++ [x, y], hlt, by go_num, rfl, HN3, by simp; have := hOk (by simp); omega, Lib.hid (fun _ => HT2.out), Lib.hid (fun h => by cases h)⟩
      case measure => simp [intOf]; omega
    · have h2 : decide (xi < yi) = false := decide_eq_false e2
      have HF2 := Lib.hid (HFn.out rfl e1 e2)
      clear e1 h1 e2 HTn HFs HFi HFn HTs
      refine AnyB.start (by kernel_rfl) ?_
      refine AnyB.take 0 (.bool false) rfl (by kernel_rfl) (by kernel_rfl) (by kernel_rfl) (fun _ _ _ h => h) (by kernel_rfl) (fun W hW => by kernel_rfl) ?_
      refine AnyB.take 1 (.bool true) rfl (by kernel_rfl) (by kernel_rfl) (by kernel_rfl) (fun _ _ _ h => h) (by kernel_rfl) (fun W hW => by kernel_rfl) ?_
      refine AnyB.take 2 (.bool true) rfl (by kernel_rfl) (by kernel_rfl) (by kernel_rfl) (fun _ _ _ h => h) (by kernel_rfl) (fun W hW => by kernel_rfl) ?_
      refine AnyB.take 3 (.slice (some ⟨g, o, none⟩) n c) rfl (by kernel_rfl) (by kernel_rfl) (by kernel_rfl) (fun _ _ _ h => h) (by kernel_rfl) (fun W hW => by kernel_rfl) ?_
      refine AnyB.take 4 (.int .i64 (k : Int)) rfl (by kernel_rfl) (by kernel_rfl) (by kernel_rfl) (fun _ _ _ h => h) (by kernel_rfl) (fun W hW => by kernel_rfl) ?_
      refine AnyB.take 5 (.pointer (some ⟨g, o + k * 3, none⟩)) rfl (by kernel_rfl) (by kernel_rfl) (by kernel_rfl) (fun _ _ _ h => h) (by kernel_rfl) (fun W hW => y_index (sv := .slice (some ⟨g, o, none⟩) n c) (iv := .int .i64 (k : Int)) rfl (by kernel_rfl) (by kernel_rfl) (at_h W g o n c k hlt)) ?_
      refine AnyB.take 6 (.pointer (some ⟨g, o + k * 3, none⟩)) rfl (by kernel_rfl) (by kernel_rfl) (by kernel_rfl) (fun _ _ _ h => h) (by kernel_rfl) (fun W hW => y_field (sv := .pointer (some ⟨g, o + k * 3, none⟩)) rfl (by kernel_rfl) (f_h0 W g (o + k * 3))) ?_
      refine AnyB.take 7 (.string ⟨yi.toArray⟩) rfl (by kernel_rfl) (by kernel_rfl) (by kernel_rfl) (fun _ _ _ h => h) (by kernel_rfl) (fun W hW => y_load (sv := .pointer (some ⟨g, o + k * 3, none⟩)) rfl (by kernel_rfl) (l_St W g (o + k * 3) yi (Y0.out W (LE.out.trans (hW.mono LE.out.size))))) ?_
      refine AnyB.take 8 (.pointer (some ⟨w.heap.size, 0, none⟩)) rfl (by kernel_rfl) (by kernel_rfl) (by kernel_rfl) (fun _ _ _ h => h) (by kernel_rfl) (fun W hW => y_field (sv := .pointer (some ⟨w.heap.size, 0, none⟩)) rfl (by kernel_rfl) (f_h0 W _ 0)) ?_
      refine AnyB.take 9 (.string ⟨xi.toArray⟩) rfl (by kernel_rfl) (by kernel_rfl) (by kernel_rfl) (fun _ _ _ h => h) (by kernel_rfl) (fun W hW => y_load (sv := .pointer (some ⟨w.heap.size, 0, none⟩)) rfl (by kernel_rfl) (l_St W _ 0 xi (C0.out W (LE.out.trans (hW.mono LE.out.size))))) ?_
      refine AnyB.take 10 (.bool false) rfl (by kernel_rfl) (by kernel_rfl) (by kernel_rfl) (fun _ _ _ h => h) (by kernel_rfl) (fun W hW => y_bin (x := .string ⟨yi.toArray⟩) (y := .string ⟨xi.toArray⟩) rfl (by kernel_rfl) (by kernel_rfl) rfl (gtrS W yi xi _ h2)) ?_
      refine AnyB.take 11 (.bool false) rfl (by kernel_rfl) (by kernel_rfl) (by kernel_rfl) (fun _ _ _ h => h) (by kernel_rfl) (fun W hW => by kernel_rfl) ?_
      refine AnyB.done _ (by kernel_rfl) ?_
      go_simp
      obtain ⟨ww, hww⟩ : ∃ z, z = wr.drew.drew := ⟨_, rfl⟩
      rw [← hww] at HO HBd LE ⊢
      clear hww
      have HOw := HO; have HBw := HBd
      have p0 := Y0.out ww HBd.out; have p1 := Y1.out ww HBd.out; have p2 := Y2.out ww HBd.out
      go_wp2_with (at_builtin; refine wpList_one heldK rfl _ _ rfl wa.heap.size u5 O y _ (by rw [HY.out]) rfl rfl HOw.out ?c1 (by decide) HBw.out.size ?_)
      case c1 => omega
      intro z' w3 hN3 hb3
      have HN3 := Lib.hid hN3; have HB3 := Lib.hid (HBw.out.trans hb3)
      clear hN3 hb3 p0 p1 p2
      go_wp2_with fail
      go_roundw
      case rel => exact ⟨HB3, k + 1, false, O ++ [y], hlt, by go_num, rfl, HN3, by simp; omega, Lib.hid (fun h => by cases h), Lib.hid (fun _ => HF2.out)⟩
      case measure => simp [intOf]; omega
theorem setL_snocC {l : List (Int × Bs)} {k : Nat} (h : k < l.length) : setL (l.take (k + 1)) = setL (l.take k) ++ if idL (l.getD k (0, [])).1 (l.getD k (0, [])).2 = [] then [] else [⟨idL (l.getD k (0, [])).1 (l.getD k (0, [])).2, (l.getD k (0, [])).1, (l.getD k (0, [])).2⟩] := by
  unfold setL
  rw [take_getD l (0, []) k h, List.flatMap_append]; simp
def SetPo (l : List (Int × Bs)) (w : World) (e : Ending) (w' : World) : Prop := ∃ v r, e = .returned v ∧ HldsR w' v r ∧ IsSet (setL l) r ∧ r.length ≤ l.length ∧ Below w.heap.size w w'
theorem putH_len (l : List Hld) (x : Hld) : (putH l x).length ≤ l.length + 1 := by
  induction l with
  | nil => simp [putH]
  | cons y l ih =>
    unfold putH
    split
    · simp
    · split
      · simp
      · simp only [List.length_cons]; omega
set_option maxHeartbeats 8000000 in
set_option maxRecDepth 100000 in
theorem Set_p {w : World} {v : Value} {l : List (Int × Bs)} (h : ObjsR w v l) (hl : l.length ≤ 10000) (hd : ∀ x ∈ l, x.2.length ≤ 70000) : Calls Tryz.prog 9 #[v] w (SetPo l w) := by
  obtain ⟨A, c, rfl⟩ := h.shape
  obtain ⟨n, hn⟩ : ∃ n, n = l.length := ⟨_, rfl⟩
  have hnl : n ≤ 10000 := by omega
  rw [← hn] at h ⊢
  have H := Lib.hid h; have HN := Lib.hid hn; have HD := Lib.hid hd
  clear h hn hl hd
  go_enter Tryz.func9, Tryz.ntmps9
  go_wp2_with fail
  go_loopw [3, 4] (fun z i wr => Hid (Below w.heap.size w wr) ∧ ∃ (k : Nat) (r : List Hld), k ≤ n ∧ i = .int .i64 k ∧ Hid (HldsR wr z r) ∧ r.length ≤ k ∧ Hid (IsSet (setL (l.take k)) r)) (fun _ i _ => n - (intOf i).toNat)
  case atStart => exact ⟨Lib.hid (Below.refl _ _), 0, [], Nat.zero_le _, rfl, Lib.hid (.inl ⟨⟨_, _, rfl⟩, rfl⟩), Nat.zero_le _, Lib.hid IsSet.nil⟩
  case round =>
    obtain ⟨hB, k, r, hk, rfl, hR, hrl, hS⟩ := hrel
    obtain ⟨Az, cz, rfl⟩ := hR.out.shape
    obtain ⟨rl, hrl2⟩ : ∃ q, q = r.length := ⟨_, rfl⟩
    rw [← hrl2] at hR hrl ⊢
    have HRe := Lib.hid hrl2
    clear hrl2
    by_cases hlt : k < n
    case neg =>
      have hkn : k = n := by omega
      have HS : Hid (IsSet (setL l) r) := Lib.hid (by have h := hS.out; rw [hkn, HN.out, List.take_length] at h; exact h)
      have HRl : Hid (r.length ≤ l.length) := Lib.hid (by have := HN.out; have := HRe.out; omega)
      clear hkn hS hrl
      go_wp2_with fail
      go_ret
      exact ⟨_, r, rfl, hR.out, HS.out, HRl.out, hB.out⟩
    obtain ⟨g, o, c', e, _, hg⟩ := H.out.pos (by have := HN.out; omega)
    obtain rfl : A = some ⟨g, o, none⟩ := by rw [← HN.out] at e; cases e; rfl
    clear e
    have hkl : k < l.length := by have := HN.out; omega
    have hcl := fun W (hW : Below w.heap.size w W) => ObjsR.cells (H.out.below hW (Nat.le_refl _)) k hkl
    have hsn := setL_snocC hkl
    have hds := HD.out _ (getD_mem l (0, []) k hkl)
    obtain ⟨kd, hkd⟩ : ∃ y, y = (l.getD k (0, [])).1 := ⟨_, rfl⟩
    obtain ⟨dt, hdt⟩ : ∃ y, y = (l.getD k (0, [])).2 := ⟨_, rfl⟩
    rw [← hkd, ← hdt] at hcl hsn
    rw [← hdt] at hds
    unfold SV at hcl
    have hid := fun W => RId_any kd dt hds W
    unfold SV at hid
    obtain ⟨id, hidd⟩ : ∃ y, y = idL kd dt := ⟨_, rfl⟩
    rw [← hidd] at hid hsn
    have HI := Lib.hid hid; have HCl := Lib.hid hcl; have HSn := Lib.hid hsn
    obtain ⟨c0, c1⟩ := hcl wr hB.out
    clear hid hcl hsn hds hkd hdt hidd hg
    go_wp2_with fail
    refine (HI.out _).mono ?_
    rintro e w2 ⟨rfl, hb2⟩
    have HB2 := Lib.hid (hB.out.trans (hb2.mono hB.out.size))
    have HR2 := Lib.hid (hR.out.below hb2 (Nat.le_refl _))
    obtain ⟨c0, c1⟩ := HCl.out w2 HB2.out
    clear hb2 hR HI
    by_cases h0 : id = []
    · have hb0 : (id == []) = true := by simp [h0]
      have HS2 : Hid (IsSet (setL (l.take (k + 1))) r) := Lib.hid (by rw [HSn.out, if_pos h0, List.append_nil]; exact hS.out)
      subst h0
      clear HSn hS
      go_wp2_with fail
      go_roundw
      case rel => exact ⟨HB2, k + 1, r, hlt, by go_num, HR2, by have := HRe.out; omega, HS2⟩
      case measure => simp [intOf]; omega
    · have hb0 : (id == []) = false := by simp [h0]
      have HS2 : Hid (IsSet (setL (l.take (k + 1))) (putH r ⟨id, kd, dt⟩)) := Lib.hid (by rw [HSn.out, if_neg h0]; exact hS.out.put _)
      have HP := Lib.hid (put_p (x := ⟨id, kd, dt⟩) HR2.out hS.out.rise (by have := HRe.out; omega))
      have hpl := putH_len r ⟨id, kd, dt⟩
      unfold SV at HP
      simp only at HP
      have hpk : (putH r ⟨id, kd, dt⟩).length ≤ k + 1 := by have := HRe.out; omega
      have HPk := Lib.hid hpk
      clear HSn hS hrl hpl hpk
      go_wp2_with fail
      refine HP.out.mono ?_
      rintro e w3 ⟨v3, rfl, hr3, hb3⟩
      have HB3 := Lib.hid (HB2.out.trans (hb3.mono HB2.out.size))
      have HR3 := Lib.hid hr3
      clear hb3 hr3 HP c0 c1
      go_wp2_with fail
      go_roundw
      case rel => exact ⟨HB3, k + 1, _, hlt, by go_num, HR3, HPk.out, HS2⟩
      case measure => simp [intOf]; omega
end Go.Proofs.YthbmaloajgkhmaaGreatDoor.Ct


namespace Go.Proofs.YthbmaloajgkhmaaGreatDoor.Ct
open Go.Proofs.YthbmaloajgkhmaaGreatDoor
open Go Go.RowKit Go.Maps

def JoinPo (l : List Hld) (w : World) (e : Ending) (w' : World) : Prop := ∃ v r, e = .returned v ∧ HldsR w' v r ∧ IsSet l r ∧ r.length ≤ l.length ∧ Below w.heap.size w w'
set_option maxHeartbeats 8000000 in
set_option maxRecDepth 100000 in
theorem Join_p {w : World} {va vb : Value} {a b : List Hld} (ha : HldsR w va a) (hb : HldsR w vb b) (hla : a.length ≤ 100000) (hlb : b.length ≤ 100000) : Calls Tryz.prog 11 #[va, vb] w (JoinPo (a ++ b) w) := by
  obtain ⟨A, ca, rfl⟩ := ha.shape
  obtain ⟨Bb, cb, rfl⟩ := hb.shape
  obtain ⟨na, hna⟩ : ∃ n, n = a.length := ⟨_, rfl⟩
  obtain ⟨nb, hnb⟩ : ∃ n, n = b.length := ⟨_, rfl⟩
  have hna2 : na ≤ 100000 := by omega
  have hnb2 : nb ≤ 100000 := by omega
  rw [← hna] at ha ⊢
  rw [← hnb] at hb ⊢
  have HA := Lib.hid ha; have HBv := Lib.hid hb; have HNa := Lib.hid hna; have HNb := Lib.hid hnb
  clear ha hb hna hnb hla hlb
  go_enter Tryz.func11, Tryz.ntmps11
  go_wp2_with fail
  go_loopw [5, 6] (fun z i wr => Hid (Below w.heap.size w wr) ∧ ∃ (k : Nat) (r : List Hld), k ≤ na ∧ i = .int .i64 k ∧ Hid (HldsR wr z r) ∧ r.length ≤ k ∧ Hid (IsSet (a.take k) r)) (fun _ i _ => na - (intOf i).toNat)
  case atStart => exact ⟨Lib.hid (Below.refl _ _), 0, [], Nat.zero_le _, rfl, Lib.hid (.inl ⟨⟨_, _, rfl⟩, rfl⟩), Nat.zero_le _, Lib.hid IsSet.nil⟩
  case round =>
    skip
    obtain ⟨hB, k, r, hk, rfl, hR, hrl, hS⟩ := hrel
    obtain ⟨Az, cz, rfl⟩ := hR.out.shape
    obtain ⟨rl, hrl2⟩ : ∃ q, q = r.length := ⟨_, rfl⟩
    rw [← hrl2] at hR hrl ⊢
    have HRe := Lib.hid hrl2
    clear hrl2
    by_cases hlt : k < na
    · obtain ⟨g, o, c', e, _, hg⟩ := HA.out.pos (by have := HNa.out; omega)
      obtain rfl : A = some ⟨g, o, none⟩ := by rw [← HNa.out] at e; cases e; rfl
      clear e
      have hkl : k < a.length := by have := HNa.out; omega
      obtain ⟨c0, c1, c2⟩ := HldsR.cells (HA.out.below hB.out (Nat.le_refl _)) k hkl
      have hsn := take_getD a noHld k hkl
      obtain ⟨x, hx⟩ : ∃ x, x = a.getD k noHld := ⟨_, rfl⟩
      rw [← hx] at c0 c1 c2 hsn
      have HS2 : Hid (IsSet (a.take (k + 1)) (putH r x)) := Lib.hid (by rw [hsn]; exact hS.out.put x)
      have HP := Lib.hid (put_p (x := x) hR.out hS.out.rise (by have := HRe.out; omega))
      have hpl := putH_len r x
      have hpk : (putH r x).length ≤ k + 1 := by have := HRe.out; omega
      have HPk := Lib.hid hpk
      obtain ⟨xi, xk, xd⟩ := x
      unfold SV at c0 c2 HP
      simp only at c0 c1 c2 HP
      clear hsn hx hg hkl hpl hpk hS hrl hR
      go_wp2_with fail
      refine HP.out.mono ?_
      rintro e w3 ⟨v3, rfl, hr3, hb3⟩
      have HB3 := Lib.hid (hB.out.trans (hb3.mono hB.out.size))
      have HR3 := Lib.hid hr3
      clear hb3 hr3 HP c0 c1 c2
      go_wp2_with fail
      go_roundw
      case rel => exact ⟨HB3, k + 1, _, hlt, by go_num, HR3, HPk.out, HS2⟩
      case measure => simp [intOf]; omega
    have HS1 : Hid (IsSet (a ++ b.take 0) r) := Lib.hid (by have h := hS.out; rw [show k = na by omega, HNa.out, List.take_length] at h; simpa using h)
    have HB1 := Lib.hid hB.out; have HR1 : Hid (HldsR wr (.slice Az r.length cz) r) := Lib.hid (by rw [← HRe.out]; exact hR.out)
    have hrl1 : r.length ≤ na + 0 := by have := HRe.out; omega
    obtain ⟨r1, hr1⟩ : ∃ q, q = r := ⟨_, rfl⟩
    rw [← hr1] at HS1 HR1 hrl1
    obtain rfl : rl = r1.length := by rw [hr1]; exact HRe.out
    clear hS hB hR hrl hr1 HRe
    go_wp2_with fail
    go_loopw [5, 7] (fun z i wr => Hid (Below w.heap.size w wr) ∧ ∃ (k : Nat) (r : List Hld), k ≤ nb ∧ i = .int .i64 k ∧ Hid (HldsR wr z r) ∧ r.length ≤ na + k ∧ Hid (IsSet (a ++ b.take k) r)) (fun _ i _ => nb - (intOf i).toNat)
    case atStart => exact ⟨HB1, 0, r1, Nat.zero_le _, rfl, HR1, hrl1, HS1⟩
    case round =>
      clear HB1 HR1 hrl1 HS1
      obtain ⟨hB, k, r, hk, rfl, hR, hrl, hS⟩ := hrel
      obtain ⟨Az, cz, rfl⟩ := hR.out.shape
      obtain ⟨rl, hrl2⟩ : ∃ q, q = r.length := ⟨_, rfl⟩
      rw [← hrl2] at hR hrl ⊢
      have HRe := Lib.hid hrl2
      clear hrl2
      by_cases hlt : k < nb
      · obtain ⟨g, o, c', e, _, hg⟩ := HBv.out.pos (by have := HNb.out; omega)
        obtain rfl : Bb = some ⟨g, o, none⟩ := by rw [← HNb.out] at e; cases e; rfl
        clear e
        have hkl : k < b.length := by have := HNb.out; omega
        obtain ⟨c0, c1, c2⟩ := HldsR.cells (HBv.out.below hB.out (Nat.le_refl _)) k hkl
        have hsn := take_getD b noHld k hkl
        obtain ⟨x, hx⟩ : ∃ x, x = b.getD k noHld := ⟨_, rfl⟩
        rw [← hx] at c0 c1 c2 hsn
        have HS2 : Hid (IsSet (a ++ b.take (k + 1)) (putH r x)) := Lib.hid (by rw [hsn, ← List.append_assoc]; exact hS.out.put x)
        have HP := Lib.hid (put_p (x := x) hR.out hS.out.rise (by have := HRe.out; omega))
        have hpl := putH_len r x
        have hpk : (putH r x).length ≤ na + (k + 1) := by have := HRe.out; omega
        have HPk := Lib.hid hpk
        obtain ⟨xi, xk, xd⟩ := x
        unfold SV at c0 c2 HP
        simp only at c0 c1 c2 HP
        clear hsn hx hg hkl hpl hpk hS hrl hR
        go_wp2_with fail
        refine HP.out.mono ?_
        rintro e w3 ⟨v3, rfl, hr3, hb3⟩
        have HB3 := Lib.hid (hB.out.trans (hb3.mono hB.out.size))
        have HR3 := Lib.hid hr3
        clear hb3 hr3 HP c0 c1 c2
        go_wp2_with fail
        go_roundw
        case rel => exact ⟨HB3, k + 1, _, hlt, by go_num, HR3, HPk.out, HS2⟩
        case measure => simp [intOf]; omega
      have HS : Hid (IsSet (a ++ b) r) := Lib.hid (by have h := hS.out; rw [show k = nb by omega, HNb.out, List.take_length] at h; exact h)
      have HL : Hid (r.length ≤ (a ++ b).length) := Lib.hid (by rw [List.length_append]; have := HNa.out; have := HNb.out; have := HRe.out; omega)
      clear hS hrl
      go_wp2_with fail
      go_ret
      exact ⟨_, r, rfl, hR.out, HS.out, HL.out, hB.out⟩
end Go.Proofs.YthbmaloajgkhmaaGreatDoor.Ct


namespace Go.Proofs.YthbmaloajgkhmaaGreatDoor
/-- k of x, x being reckoned first. -/
def force {β : Type} (x : UInt32) (k : UInt32 → β) : β :=
  match x.toNat with
  | 0 => k 0
  | n + 1 => k (UInt32.ofNat (n + 1))
theorem force_eq {β : Type} (x : UInt32) (k : UInt32 → β) : force x k = k x := by
  unfold force
  split
  · rename_i h; rw [show x = 0 from UInt32.toNat_inj.1 (by simpa using h)]
  · rename_i n h; rw [show n + 1 = x.toNat from h.symm, UInt32.ofNat_toNat]
/-- The words so far, the newest one first. -/
def schedE (m : Nat → UInt32) : Nat → List UInt32
  | 0 => []
  | t + 1 =>
    let l := schedE m t
    if t < 16 then m t :: l else (ss1 (l.getD 1 0) + l.getD 6 0 + ss0 (l.getD 14 0) + l.getD 15 0) :: l
theorem schedE_length (m : Nat → UInt32) (t : Nat) : (schedE m t).length = t := by
  induction t with
  | zero => rfl
  | succ t ih => rw [schedE]; split <;> simp [ih]
theorem schedE_get (m : Nat → UInt32) (t i : Nat) (h : i < t) : (schedE m t).getD i 0 = sched m (t - 1 - i) := by
  induction t generalizing i with
  | zero => omega
  | succ t ih =>
    rw [schedE]
    cases i with
    | zero =>
      by_cases h16 : t < 16
      · rw [if_pos h16, show t + 1 - 1 - 0 = t by omega, sched_lo _ _ h16]; rfl
      · rw [if_neg h16, ih 1 (by omega), ih 6 (by omega), ih 14 (by omega), ih 15 (by omega), show t + 1 - 1 - 0 = t by omega, sched_hi _ _ h16,
          show t - 1 - 1 = t - 2 by omega, show t - 1 - 6 = t - 7 by omega, show t - 1 - 14 = t - 15 by omega, show t - 1 - 15 = t - 16 by omega]
        rfl
    | succ i =>
      have e : ∀ x : UInt32, (x :: schedE m t).getD (i + 1) 0 = (schedE m t).getD i 0 := fun _ => rfl
      have e2 : t + 1 - 1 - (i + 1) = t - 1 - i := by omega
      split <;> rw [e, ih i (by omega), e2]
/-- All words, reckoned: n more behind l. -/
def growE : Nat → List UInt32 → List UInt32
  | 0, l => l
  | n + 1, l => force (ss1 (l.getD 1 0) + l.getD 6 0 + ss0 (l.getD 14 0) + l.getD 15 0) fun x => growE n (x :: l)
theorem growE_eq (m : Nat → UInt32) (n t : Nat) (h : 16 ≤ t) : growE n (schedE m t) = schedE m (t + n) := by
  induction n generalizing t with
  | zero => rfl
  | succ n ih =>
    rw [growE, force_eq]
    have : (ss1 ((schedE m t).getD 1 0) + (schedE m t).getD 6 0 + ss0 ((schedE m t).getD 14 0) + (schedE m t).getD 15 0) :: schedE m t = schedE m (t + 1) := by
      rw [schedE, if_neg (by omega)]
    rw [this, ih (t + 1) (by omega)]
    congr 1; omega
/-- The rounds, reckoned: the words that are left, the oldest first. -/
def rndsE : List UInt32 → List UInt32 → V → V
  | k :: ks, w :: ws, v => force (rndX k w v + rndY v) fun a => force (v.d + rndX k w v) fun e => rndsE ks ws ⟨a, v.a, v.b, v.c, e, v.e, v.f, v.g⟩
  | _, _, v => v
theorem rndsE_eq (kf wf : Nat → UInt32) (v : V) (n : Nat) (ks ws : List UInt32) (t : Nat) (hk : ks.length = n) (hw : ws.length = n)
    (ek : ∀ i, i < n → ks.getD i 0 = kf (t + i)) (ew : ∀ i, i < n → ws.getD i 0 = wf (t + i)) : rndsE ks ws (rnds kf wf v t) = rnds kf wf v (t + n) := by
  induction n generalizing ks ws t with
  | zero =>
    cases ks with
    | nil => rfl
    | cons => simp at hk
  | succ n ih =>
    cases ks with
    | nil => simp at hk
    | cons k ks =>
      cases ws with
      | nil => simp at hw
      | cons w ws =>
        have k0 := ek 0 (by omega)
        have w0 := ew 0 (by omega)
        simp only [List.getD_cons_zero, Nat.add_zero] at k0 w0
        rw [rndsE, force_eq, force_eq]
        have : (⟨rndX k w (rnds kf wf v t) + rndY (rnds kf wf v t), (rnds kf wf v t).a, (rnds kf wf v t).b, (rnds kf wf v t).c, (rnds kf wf v t).d + rndX k w (rnds kf wf v t), (rnds kf wf v t).e, (rnds kf wf v t).f, (rnds kf wf v t).g⟩ : V) = rnds kf wf v (t + 1) := by
          rw [rnds, rnd, k0, w0]
        rw [this, ih ks ws (t + 1) (by simpa using hk) (by simpa using hw) (fun i hi => by have := ek (i + 1) (by omega); rw [show t + 1 + i = t + (i + 1) by omega, ← this]; rfl) (fun i hi => by have := ew (i + 1) (by omega); rw [show t + 1 + i = t + (i + 1) by omega, ← this]; rfl)]
        congr 1; omega
def forceAll {β : Type} : List UInt32 → (List UInt32 → β) → β
  | [], k => k []
  | x :: l, k => force x fun y => forceAll l fun l' => k (y :: l')
theorem forceAll_eq {β : Type} (l : List UInt32) (k : List UInt32 → β) : forceAll l k = k l := by
  induction l generalizing k with
  | nil => rfl
  | cons x l ih => rw [forceAll, force_eq, ih]
def mixE (v : V) (m : Nat → UInt8) : V := addV v (forceAll (schedE (word m) 16) fun l => rndsE KL (growE 48 l).reverse v)
theorem rev_get (l : List UInt32) (i : Nat) (h : i < l.length) : l.reverse.getD i 0 = l.getD (l.length - 1 - i) 0 := by
  rw [List.getD_eq_getElem?_getD, List.getD_eq_getElem?_getD, List.getElem?_reverse h]
theorem mixE_eq (v : V) (m : Nat → UInt8) : mixE v m = mixV KF v m := by
  unfold mixE mixV
  rw [forceAll_eq, growE_eq _ _ _ (Nat.le_refl _)]
  have hl : (schedE (word m) (16 + 48)).length = 64 := schedE_length _ _
  congr 1
  exact rndsE_eq KF (sched (word m)) v 64 KL _ 0 rfl (by rw [List.length_reverse, hl]) (fun i hi => by rw [Nat.zero_add]; rfl) (fun i hi => by
    rw [rev_get _ _ (by rw [hl]; exact hi), hl, schedE_get _ _ _ (by omega), Nat.zero_add]
    congr 1; omega)
def xB : List UInt8 := [98, 108, 111, 98, 32, 49, 10, 120]
def nB : List UInt8 := [97, 53, 100, 52, 100, 54, 98, 55, 97, 50, 52, 57, 52, 51, 56, 57, 54, 100, 101, 57, 53, 100, 50, 53, 97, 50, 54, 102, 97, 48, 55, 51, 50, 55, 98, 55, 50, 50, 100, 49, 51, 53, 100, 55, 57, 100, 56, 99, 99, 51, 98, 56, 55, 51, 102, 98, 57, 56, 51, 48, 52, 56, 51, 102]
def tdT : List UInt8 := [49, 32, 102, 0, 97, 53, 100, 52, 100, 54, 98, 55, 97, 50, 52, 57, 52, 51, 56, 57, 54, 100, 101, 57, 53, 100, 50, 53, 97, 50, 54, 102, 97, 48, 55, 51, 50, 55, 98, 55, 50, 50, 100, 49, 51, 53, 100, 55, 57, 100, 56, 99, 99, 51, 98, 56, 55, 51, 102, 98, 57, 56, 51, 48, 52, 56, 51, 102]
def xT : List UInt8 := [116, 114, 101, 101, 32, 54, 56, 10, 49, 32, 102, 0, 97, 53, 100, 52, 100, 54, 98, 55, 97, 50, 52, 57, 52, 51, 56, 57, 54, 100, 101, 57, 53, 100, 50, 53, 97, 50, 54, 102, 97, 48, 55, 51, 50, 55, 98, 55, 50, 50, 100, 49, 51, 53, 100, 55, 57, 100, 56, 99, 99, 51, 98, 56, 55, 51, 102, 98, 57, 56, 51, 48, 52, 56, 51, 102]
def nT : List UInt8 := [99, 48, 53, 48, 56, 101, 50, 54, 100, 54, 57, 52, 56, 54, 102, 54, 54, 56, 56, 52, 51, 48, 101, 48, 100, 97, 49, 57, 54, 57, 102, 50, 100, 50, 99, 57, 57, 49, 98, 51, 53, 102, 48, 53, 98, 48, 99, 55, 55, 101, 54, 97, 48, 56, 100, 98, 55, 50, 48, 99, 101, 102, 51, 101]
theorem sum_B : sumV xB = ⟨0xa5d4d6b7, 0xa2494389, 0x6de95d25, 0xa26fa073, 0x27b722d1, 0x35d79d8c, 0xc3b873fb, 0x9830483f⟩ := by
  have h : sumV xB = mixE H0 (fun j => padded xB (64 * 0 + j)) := by
    rw [mixE_eq]; rfl
  rw [h]
  decide +kernel
theorem name_B : nameL xB = nB := by
  unfold nameL sumL
  rw [sum_B]
  decide +kernel
theorem half_T : mixE H0 (fun j => padded xT (64 * 0 + j)) = ⟨0x797bfccf, 0x9830dcca, 0x70d9e3db, 0x7643ed51, 0x596d74f9, 0xfbb4402d, 0x7dbc08e1, 0xda1305e1⟩ := by decide +kernel
theorem sum_T : sumV xT = ⟨0xc0508e26, 0xd69486f6, 0x688430e0, 0xda1969f2, 0xd2c991b3, 0x5f05b0c7, 0x7e6a08db, 0x720cef3e⟩ := by
  have h : sumV xT = mixE (mixE H0 (fun j => padded xT (64 * 0 + j))) (fun j => padded xT (64 * 1 + j)) := by
    rw [mixE_eq, mixE_eq]; rfl
  rw [h, half_T]
  decide +kernel
theorem name_T : nameL xT = nT := by
  unfold nameL sumL
  rw [sum_T]
  decide +kernel
theorem head_B : headL 1 [120] = xB := by decide +kernel
theorem head_T : headL 2 tdT = xT := by decide +kernel
theorem id_B : idL 1 [120] = nB := by
  unfold idL
  rw [if_pos (by decide), head_B, name_B]
def itB : Itm := ⟨1, [102], nB⟩
theorem right_B : rightT [itB] = true := by decide +kernel
theorem put_B : putT [itB] = tdT := by decide +kernel
theorem wants_T : wantsO 2 tdT = some [(nB, 1)] := by
  unfold wantsO
  rw [if_neg (by decide), if_neg (by decide), if_pos rfl, getT_iff.2 ⟨right_B, put_B⟩]
  rfl
theorem id_T : idL 2 tdT = nT := by
  unfold idL
  rw [wants_T, if_pos (show (some [(nB, (1 : Int))]).isSome = true from rfl), head_T, name_T]
theorem id_9 : idL 9 [] = [] := by
  unfold idL
  rw [if_neg (by decide)]
theorem ne_TB : nT ≠ nB := by decide +kernel
theorem nB_ne : nB ≠ [] := by decide
theorem nT_ne : nT ≠ [] := by decide
end Go.Proofs.YthbmaloajgkhmaaGreatDoor
