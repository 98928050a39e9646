/-
  Put: refs as lines.
-/
import Derived.Test.YtfnepffccenebaaGreatDoorRRight
import Derived.Test.YtfnepffccenebaaGreatDoorWrite
namespace Go.Proofs.YtfnepffccenebaaGreatDoor.Rf
open Go.Proofs.YtfnepffccenebaaGreatDoor
open Go Go.RowKit

theorem linesL_snoc {l : List Ref} {k : Nat} {x : Ref} (hx : l[k]? = some x) : linesL (l.take (k + 1)) = linesL (l.take k) ++ lineL x := by
  unfold linesL
  rw [List.take_add_one, hx, Option.toList_some, List.flatMap_append]; simp
theorem nameB_len {s : Bs} (h : nameB s = true) : s.length ≤ 80 := by
  unfold nameB at h
  simp only [Bool.and_eq_true, decide_eq_true_eq] at h
  exact h.1.1.1
theorem named_len64 {s : Bs} (h : namedB s = true) : s.length = 64 := by unfold namedB at h; simp at h; exact h.1
theorem lineL_len {x : Ref} (h1 : nameB x.name = true) (h2 : namedB x.id = true) : (lineL x).length ≤ 146 := by
  unfold lineL
  have := nameB_len h1; have := named_len64 h2
  simp; omega
theorem linesL_len : ∀ {l : List Ref}, (∀ x ∈ l, nameB x.name = true ∧ namedB x.id = true) → (linesL l).length ≤ 146 * l.length
  | [], _ => Nat.le_refl _
  | x :: l, h => by
    have h1 := lineL_len (h x List.mem_cons_self).1 (h x List.mem_cons_self).2
    have h2 := linesL_len (l := l) fun y hy => h y (List.mem_cons_of_mem _ hy)
    show (lineL x ++ linesL l).length ≤ _
    rw [List.length_append, List.length_cons]; omega
/-- What Put answers. -/
def PutP (l : List Ref) (w : World) (e : Ending) (w' : World) : Prop :=
  ((e = .returned (.tuple #[SV (linesL l), .bool true]) ∧ Right l) ∨ (e = .returned (.tuple #[SV [], .bool false]) ∧ ¬ Right l)) ∧ Below w.heap.size w w'
set_option maxRecDepth 100000 in
set_option maxHeartbeats 4000000 in
theorem Put_p (l : List Ref) (v : Value) (w : World) (hv : RefsR w v l) (hf : Fit l) (hl : l.length ≤ 1000000) : Calls Tryz.prog 25 #[v] w (PutP l w) := by
  obtain ⟨A, c, rfl⟩ := hv.shape
  obtain ⟨N, hN⟩ : ∃ N, N = l.length := ⟨_, rfl⟩
  have HC := Lib.hid (Right_p l _ w hv hf hl)
  rw [← hN] at hv HC ⊢
  have HV := Lib.hid hv
  have HN := Lib.hid hN
  clear hv hf hl hN
  by_cases hr : Right l
  case neg =>
    rw [rightB_no hr] at HC
    have HR := Lib.hid hr
    clear hr
    go_enter Tryz.func25, Tryz.ntmps25
    go_wp2_with fail
    refine HC.out.mono ?_
    rintro e w1 ⟨rfl, hb⟩
    have HB := Lib.hid hb
    clear hb
    go_wp2_with fail
    go_ret2
    exact ⟨.inr ⟨rfl, HR.out⟩, HB.out⟩
  rw [rightB_yes hr] at HC
  have HR := Lib.hid hr
  have hl : N ≤ 64 := by rw [HN.out]; exact hr.len
  have HI : Hid (∀ x ∈ l, nameB x.name = true ∧ namedB x.id = true) := Lib.hid fun x hx => ⟨hr.name x hx, hr.id x hx⟩
  clear hr
  go_enter Tryz.func25, Tryz.ntmps25
  go_wp2_with fail
  refine HC.out.mono ?_
  rintro e w1 ⟨rfl, l1⟩
  have hb0 := Lib.hid ((Bd.new w1).mono l1.size)
  have L0 := Lib.hid (l1.alloc l1.size (.cells #[.pointer none, .slice none 0 0] 68))
  clear l1
  go_wp2_with fail
  go_loopw [12] (fun vi wr => ∃ k : Nat, k ≤ N ∧ vi = .int .i64 k ∧ Hid (Bd wr w.heap.size w1.heap.size (linesL (l.take k))) ∧ Hid (Below w.heap.size w wr)) (fun vi _ => N - (intOf vi).toNat)
  case atStart => exact ⟨0, Nat.zero_le _, rfl, hb0, L0⟩
  case round =>
    obtain ⟨k, hk, rfl, hbd, hB⟩ := hrel
    by_cases hlt : k < N
    case neg =>
      have hkN : k = N := by omega
      have h1 := hbd.out
      rw [hkN, HN.out, List.take_length] at h1
      have HB := Lib.hid (h1.told hB.out.size)
      clear h1 hkN hbd
      unfold SV at HB
      go_wp2_with fail
      refine HB.out.mono ?_
      rintro e w2 ⟨rfl, l2⟩
      go_wp2_with fail
      go_ret2
      exact ⟨.inl ⟨rfl, HR.out⟩, hB.out.trans l2⟩
    obtain ⟨g, o, c', e, _, hg⟩ := HV.out.pos (by have := HN.out; omega)
    obtain rfl : A = some ⟨g, o, none⟩ := by rw [← HN.out] at e; cases e; rfl
    clear e
    obtain ⟨x, hx⟩ : ∃ x, l[k]? = some x := ⟨_, List.getElem?_eq_getElem (by have := HN.out; omega)⟩
    obtain ⟨c0, c1⟩ := RefsR.cells (RdK.below HV.out hB.out (Nat.le_refl _)) hx
    have hsn := linesL_snoc hx
    obtain ⟨i1, i2⟩ := HI.out x (List.mem_of_getElem? hx)
    have n1 := nameB_len i1
    have n2 := named_len64 i2
    have htl : (linesL (l.take k)).length + (lineL x).length ≤ 1000000 := by
      have h1 := linesL_len (l := l.take k) (fun y hy => HI.out y (List.mem_of_mem_take hy))
      have h2 := lineL_len i1 i2
      rw [List.length_take] at h1
      omega
    obtain ⟨nm, di⟩ := x
    simp only at n1 n2 i1 i2
    unfold SV at c0 c1
    simp only at c0 c1
    obtain ⟨t1, ht1⟩ : ∃ t : ByteArray, t = ⟨(di ++ [32]).toArray⟩ := ⟨_, rfl⟩
    obtain ⟨t2, ht2⟩ : ∃ t : ByteArray, t = ⟨((di ++ [32]) ++ nm).toArray⟩ := ⟨_, rfl⟩
    obtain ⟨t3, ht3⟩ : ∃ t : ByteArray, t = ⟨(((di ++ [32]) ++ nm) ++ [10]).toArray⟩ := ⟨_, rfl⟩
    have r1 := cat_run di [32] t1 ht1 (by omega) (by simp)
    have r2 := cat_run2 _ nm t1 t2 ht1 ht2 (by simp; omega) (by omega)
    have r3 := cat_run2 _ [10] t2 t3 ht2 ht3 (by simp; omega) (by simp)
    have H3 : Hid (t3 = ⟨(lineL ⟨nm, di⟩).toArray⟩) := Lib.hid (by rw [ht3]; unfold lineL; simp)
    clear ht1 ht2 ht3
    have HS := Lib.hid hsn; have HL := Lib.hid htl
    have L1 := Lib.hid (hB.out.alloc hB.out.size (.cells #[.string ⟨nm.toArray⟩, .string ⟨di.toArray⟩] 45))
    have HD := Lib.hid (hbd.out.below (below_new wr (.cells #[.string ⟨nm.toArray⟩, .string ⟨di.toArray⟩] 45)))
    clear hx hsn htl i1 i2 hg hbd hB
    go_wp2_with fail
    refine (Bd.write HD.out L1.out.size (lineL ⟨nm, di⟩) t3 H3.out HL.out).mono ?_
    rintro e w3 ⟨⟨n, rfl⟩, hb3, l3, k3⟩
    have HB3 : Hid (Bd w3 w.heap.size w1.heap.size (linesL (l.take (k + 1)))) := Lib.hid (by rw [HS.out]; exact hb3)
    have L3 := Lib.hid (L1.out.trans l3)
    clear hb3 l3 k3 r1 r2 r3 c0 c1
    go_wp2_with fail
    go_roundw
    case rel => exact ⟨k + 1, by omega, by go_num, HB3, L3⟩
    case measure => simp [intOf]; omega
end Go.Proofs.YtfnepffccenebaaGreatDoor.Rf
