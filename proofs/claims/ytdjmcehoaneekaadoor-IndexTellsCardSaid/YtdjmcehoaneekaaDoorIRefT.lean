/-
  The document's index: the name that bytes say; a number's bytes.
-/
import Derived.Test.YtdjmcehoaneekaaDoorIRefA
namespace Go.Proofs.YtdjmcehoaneekaaDoor.Ix
open Go.Proofs.YtdjmcehoaneekaaDoor
open Go Go.RowKit

def digA : Array UInt8 := #[48, 49, 50, 51, 52, 53, 54, 55, 56, 57, 97, 98, 99, 100, 101, 102]
theorem digA_at (x : UInt8) (h : x < 16) : ∀ hh, ((⟨digA⟩ : ByteArray)[x.toNat]'hh) = hexD x := by
  have key : ∀ n : Fin 16, (digA.toList.getD n.val 0) = hexD (UInt8.ofNat n.val) := by decide +kernel
  intro hh
  have hx : x.toNat < 16 := UInt8.lt_iff_toNat_lt.1 h
  have h1 := key ⟨x.toNat, hx⟩
  rw [UInt8.ofNat_toNat] at h1
  rw [← h1]
  show digA[x.toNat] = _
  have hs : x.toNat < digA.toList.length := hx
  rw [List.getD_eq_getElem?_getD, List.getElem?_eq_getElem hs]
  rfl
theorem idx_dig (W : World) (x y : UInt8) (h : x < 16) (hy : y = hexD x) : (Instr.index 9 (.string ⟨digA⟩) (.int .u8 (x.toNat : Int))).run Tryd.prog W = .ok (.int .u8 (y.toNat : Int)) W := by
  have hx : x.toNat < 16 := UInt8.lt_iff_toNat_lt.1 h
  have h1 : (x.toNat : Int) < 16 := by omega
  have hs : (⟨digA⟩ : ByteArray).size = 16 := rfl
  have g := digA_at x h
  rw [hy]
  simp [go_sem, hs, h1, g]
theorem quo_16 (W : World) (x : UInt8) : (binOp .quo 5 (.int .u8 (x.toNat : Int)) (.int .u8 16)).run Tryd.prog W = .ok (.int .u8 ((x / 16).toNat : Int)) W := by
  have hl := x.toNat_lt
  have q1 : Int.tdiv (x.toNat : Int) 16 = ((x / 16).toNat : Int) := by
    rw [UInt8.toNat_div]
    show Int.tdiv (x.toNat : Int) 16 = ((x.toNat / 16 : Nat) : Int)
    rw [Int.tdiv_eq_ediv_of_nonneg (by omega)]; omega
  have hl2 := (x / 16).toNat_lt
  have e : IntKind.u8.wrap (((x / 16).toNat : Nat) : Int) = ((x / 16).toNat : Int) := by rw [IntKind.wrap_u8']; omega
  simp only [go_sem, q1, e]
  simp
theorem rem_16 (W : World) (x : UInt8) : (binOp .rem 5 (.int .u8 (x.toNat : Int)) (.int .u8 16)).run Tryd.prog W = .ok (.int .u8 ((x % 16).toNat : Int)) W := by
  have hl := x.toNat_lt
  have q1 : Int.tmod (x.toNat : Int) 16 = ((x % 16).toNat : Int) := by
    rw [UInt8.toNat_mod]
    show Int.tmod (x.toNat : Int) 16 = ((x.toNat % 16 : Nat) : Int)
    rw [Int.tmod_eq_emod_of_nonneg (by omega)]; omega
  simp only [go_sem, q1]
  simp
theorem build_u8_2 (W : World) (m n : Int) : (Instr.buildSlice 23 2 #[(0, .int .u8 m), (1, .int .u8 n)]).run Tryd.prog W = .ok (.slice (some ⟨W.heap.size, 0, none⟩) 2 2) (W.alloc (.cells #[.int .u8 m, .int .u8 n] 5)) := by
  simp [go_sem]
theorem rb_pair (w : World) (c d : UInt8) : Rb (w.alloc (.cells #[.int .u8 (c.toNat : Int), .int .u8 (d.toNat : Int)] 5)) (.slice (some ⟨w.heap.size, 0, none⟩) 2 2) [c, d] :=
  .inr ⟨w.heap.size, 0, 2, rfl, Nat.le_refl _, by simp, fun j hj => by
    have hj2 : j < 2 := by simpa using hj
    rw [Nat.zero_add, cell_of_row (w.alloc _) w.heap.size j _ _ _ (heap_alloc_new w _)]
    match j, hj2 with
    | 0, _ => rfl
    | 1, _ => rfl⟩
theorem load_u8 (W : World) (g o : Nat) (n : Int) (h : W.cell? ⟨g, o, none⟩ = some (.int .u8 n)) : (Instr.loadAt 5 (.pointer (some ⟨g, o, none⟩))).run Tryd.prog W = .ok (.int .u8 n) W := by
  simp [go_sem, h]
theorem at_u8 (W : World) (g o n c k : Nat) (hk : k < n) : (Instr.indexAt 23 (.slice (some ⟨g, o, none⟩) n c) (.int .i64 (k : Int))).run Tryd.prog W = .ok (.pointer (some ⟨g, o + k, none⟩)) W := by
  have h1 : (k : Int) < (n : Int) := by omega
  simp [go_sem, h1]
theorem hex_take (b : Bs) (k : Nat) (h : k < b.length) : hexL (b.take (k + 1)) = hexL (b.take k) ++ [hexD (b.getD k 0 / 16), hexD (b.getD k 0 % 16)] := by
  have h1 : b[k]? = some (b.getD k 0) := by rw [List.getD_eq_getElem?_getD, List.getElem?_eq_getElem h]; rfl
  rw [List.take_add_one, h1, Option.toList_some]
  unfold hexL
  rw [List.flatMap_append]; rfl
/-- A byte and its digits. -/
theorem wpList_cv {ops : Array Oper} {rest : List Oper} {o : Oper} {a : Go.Act} {w : World} {Q : Exit → Go.Act → World → Prop} (hgd : o.guard = none) (v : Value) (w' : World) (he : (execOp a.eval o).run Tryd.prog w = .ok (.value v) w')
    (h : wpList Tryd.prog ops Q rest (a.put o.dst v) w') : wpList Tryd.prog ops Q (o :: rest) a w :=
  wpList_plain hgd fun K hK => by
    unfold Oper.wp
    rw [he]
    exact hK _ _ h
theorem lt16 (x : UInt8) : x / 16 < 16 ∧ x % 16 < 16 := div16 x

set_option maxRecDepth 100000 in
set_option maxHeartbeats 1000000 in
theorem Rtold_any (w : World) (v : Value) (b : Bs) (hb : Rb w v b) (hl : b.length ≤ 1000000) : Calls Tryd.prog 35 #[v] w fun e w' => e = .returned (SV (hexL b)) ∧ Below w.heap.size w w' := by
  obtain ⟨A, c, rfl⟩ := hb.shape
  obtain ⟨N, hN⟩ : ∃ N, N = b.length := ⟨_, rfl⟩
  have HV : Hid (Rb w (.slice A N c) b) := Lib.hid (by rw [hN]; exact hb)
  have HN := Lib.hid hN
  rw [← hN] at hl ⊢
  clear hb hN
  unfold SV
  go_enter Tryd.func35, Tryd.ntmps35
  go_wp2
  go_loopw [4, 5] (fun v i wr => ∃ k : Nat, k ≤ N ∧ i = .int .i64 k ∧ Hid (Below w.heap.size w wr) ∧ Hid (Dl.Ow wr w.heap.size v (hexL (b.take k)))) (fun _ i _ => N - (intOf i).toNat)
  case atStart => exact ⟨0, Nat.zero_le _, rfl, Lib.hid (Below.refl _ _), Lib.hid ⟨by simp [hexL], .inl ⟨by simp, by simp [hexL]⟩⟩⟩
  case round =>
    obtain ⟨k, hk, rfl, hB, hO⟩ := hrel
    by_cases hlt : k < N
    · have hltI : (k : Int) < (N : Int) := by omega
      rcases HV.out with ⟨_, h0⟩ | ⟨g, o, c', e, hc, hg, hcell⟩
      · exfalso
        have h := HN.out
        rw [h0] at h
        simp at h
        omega
      obtain rfl : c = c' := by cases e; rfl
      obtain rfl : A = some ⟨g, o, none⟩ := by cases e; rfl
      obtain ⟨x, hx⟩ : ∃ x, x = b.getD k 0 := ⟨_, rfl⟩
      have HX : Hid (∀ W, Below w.heap.size w W → (Instr.loadAt 5 (.pointer (some ⟨g, o + k, none⟩))).run Tryd.prog W = .ok (.int .u8 (x.toNat : Int)) W) := Lib.hid fun W hW => load_u8 W g (o + k) _ (by rw [hx]; exact (hW.cell (p := ⟨g, o + k, none⟩) hg).trans (hcell k (by rw [← HN.out]; exact hlt)))
      have Hz := Lib.hid (hex_take b k (by rw [← HN.out]; exact hlt))
      rw [← hx] at Hz
      obtain ⟨p, hp⟩ : ∃ p, p = hexD (x / 16) := ⟨_, rfl⟩
      obtain ⟨q, hq⟩ : ∃ q, q = hexD (x % 16) := ⟨_, rfl⟩
      rw [← hp, ← hq] at Hz
      have HI := Lib.hid fun W => idx_dig W (x / 16) p (lt16 x).1 hp
      have HJ := Lib.hid fun W => idx_dig W (x % 16) q (lt16 x).2 hq
      have HAt := Lib.hid fun W => at_u8 W g o N c k hlt
      have Hlen : Hid ((hexL (b.take k)).length + 2 ≤ 140737488355328) := Lib.hid (by rw [hexL_len, List.length_take]; omega)
      obtain ⟨l, hll⟩ : ∃ l, l = hexL (b.take k) := ⟨_, rfl⟩
      rw [← hll] at hO Hz Hlen
      have hB' := hB.out
      have HO := Lib.hid hO.out
      clear hx hp hq hll hO e hc hg hcell
      go_wp2
      refine AnyK.start w.heap.size w (by kernel_rfl) ?_
      have LD : Hid (Below w.heap.size w wr.drew) := Lib.hid hB'.drew
      have OD : Hid (Dl.Ow wr.drew w.heap.size u4 l) := Lib.hid HO.out
      generalize wr.drew = wd at LD OD ⊢
      refine AnyK.take 0 (u4) LD.out rfl (by kernel_rfl) (by kernel_rfl) (by kernel_rfl) (fun _ _ _ h => h) (by kernel_rfl) (fun W hW => by kernel_rfl) ?_
      refine AnyK.take 1 (.string ⟨digA⟩) LD.out rfl (by kernel_rfl) (by kernel_rfl) (by kernel_rfl) (fun _ _ _ h => h) (by kernel_rfl) (fun W hW => by kernel_rfl) ?_
      refine AnyK.take 2 (.slice (some ⟨g, o, none⟩) N c) LD.out rfl (by kernel_rfl) (by kernel_rfl) (by kernel_rfl) (fun _ _ _ h => h) (by kernel_rfl) (fun W hW => by kernel_rfl) ?_
      refine AnyK.take 3 (.int .i64 (k : Int)) LD.out rfl (by kernel_rfl) (by kernel_rfl) (by kernel_rfl) (fun _ _ _ h => h) (by kernel_rfl) (fun W hW => by kernel_rfl) ?_
      refine AnyK.take 4 (.pointer (some ⟨g, o + k, none⟩)) LD.out rfl (by kernel_rfl) (by kernel_rfl) (by kernel_rfl) (fun _ _ _ h => h) (by kernel_rfl) (fun W hW => y_index (sv := .slice (some ⟨g, o, none⟩) N c) (iv := .int .i64 (k : Int)) rfl (by kernel_rfl) (by kernel_rfl) (HAt.out W)) ?_
      refine AnyK.take 5 (.int .u8 (x.toNat : Int)) LD.out rfl (by kernel_rfl) (by kernel_rfl) (by kernel_rfl) (fun _ _ _ h => h) (by kernel_rfl) (fun W hW => y_load (sv := .pointer (some ⟨g, o + k, none⟩)) rfl (by kernel_rfl) (HX.out W hW)) ?_
      refine AnyK.take 6 (.int .u8 ((x / 16).toNat : Int)) LD.out rfl (by kernel_rfl) (by kernel_rfl) (by kernel_rfl) (fun _ _ _ h => h) (by kernel_rfl) (fun W hW => y_bin (x := .int .u8 (x.toNat : Int)) (y := .int .u8 16) rfl (by kernel_rfl) (by kernel_rfl) rfl (quo_16 W x)) ?_
      refine AnyK.take 7 (.int .u8 (p.toNat : Int)) LD.out rfl (by kernel_rfl) (by kernel_rfl) (by kernel_rfl) (fun _ _ _ h => h) (by kernel_rfl) (fun W hW => y_idx (sv := .string ⟨digA⟩) (iv := .int .u8 ((x / 16).toNat : Int)) rfl (by kernel_rfl) (by kernel_rfl) (HI.out W)) ?_
      refine AnyK.take 8 (.string ⟨digA⟩) LD.out rfl (by kernel_rfl) (by kernel_rfl) (by kernel_rfl) (fun _ _ _ h => h) (by kernel_rfl) (fun W hW => by kernel_rfl) ?_
      refine AnyK.take 9 (.slice (some ⟨g, o, none⟩) N c) LD.out rfl (by kernel_rfl) (by kernel_rfl) (by kernel_rfl) (fun _ _ _ h => h) (by kernel_rfl) (fun W hW => by kernel_rfl) ?_
      refine AnyK.take 10 (.int .i64 (k : Int)) LD.out rfl (by kernel_rfl) (by kernel_rfl) (by kernel_rfl) (fun _ _ _ h => h) (by kernel_rfl) (fun W hW => by kernel_rfl) ?_
      refine AnyK.take 11 (.pointer (some ⟨g, o + k, none⟩)) LD.out rfl (by kernel_rfl) (by kernel_rfl) (by kernel_rfl) (fun _ _ _ h => h) (by kernel_rfl) (fun W hW => y_index (sv := .slice (some ⟨g, o, none⟩) N c) (iv := .int .i64 (k : Int)) rfl (by kernel_rfl) (by kernel_rfl) (HAt.out W)) ?_
      refine AnyK.take 12 (.int .u8 (x.toNat : Int)) LD.out rfl (by kernel_rfl) (by kernel_rfl) (by kernel_rfl) (fun _ _ _ h => h) (by kernel_rfl) (fun W hW => y_load (sv := .pointer (some ⟨g, o + k, none⟩)) rfl (by kernel_rfl) (HX.out W hW)) ?_
      refine AnyK.take 13 (.int .u8 ((x % 16).toNat : Int)) LD.out rfl (by kernel_rfl) (by kernel_rfl) (by kernel_rfl) (fun _ _ _ h => h) (by kernel_rfl) (fun W hW => y_bin (x := .int .u8 (x.toNat : Int)) (y := .int .u8 16) rfl (by kernel_rfl) (by kernel_rfl) rfl (rem_16 W x)) ?_
      refine AnyK.take 14 (.int .u8 (q.toNat : Int)) LD.out rfl (by kernel_rfl) (by kernel_rfl) (by kernel_rfl) (fun _ _ _ h => h) (by kernel_rfl) (fun W hW => y_idx (sv := .string ⟨digA⟩) (iv := .int .u8 ((x % 16).toNat : Int)) rfl (by kernel_rfl) (by kernel_rfl) (HJ.out W)) ?_
      have M0 : Below w.heap.size wd (wd.alloc (.cells #[.int .u8 (p.toNat : Int), .int .u8 (q.toNat : Int)] 5)) := (below_alloc wd _).mono LD.out.size
      refine AnyK.op 15 (.slice (some ⟨wd.heap.size, 0, none⟩) 2 2) (wd.alloc (.cells #[.int .u8 (p.toNat : Int), .int .u8 (q.toNat : Int)] 5)) (by kernel_rfl) rfl (by kernel_rfl) (y_build rfl (by kernel_rfl) (build_u8_2 wd _ _)) (LD.out.trans M0) ?_
      have O1 := Dl.Ow.below OD.out (below_alloc wd (.cells #[.int .u8 (p.toNat : Int), .int .u8 (q.toNat : Int)] 5)) (Nat.le_refl _)
      have M1 : Below w.heap.size w (wd.alloc (.cells #[.int .u8 (p.toNat : Int), .int .u8 (q.toNat : Int)] 5)) := LD.out.trans M0
      obtain ⟨v2, w2, g2, o2, f2⟩ := Dl.run_app' O1 (rb_pair wd p q) Hlen.out M1.size 23
      have M2 : Below w.heap.size w w2 := M1.trans (app_below' O1 f2 M1.size)
      refine AnyK.op 16 v2 w2 (by kernel_rfl) rfl (by kernel_rfl) (y_append rfl (by kernel_rfl) (by kernel_rfl) g2) M2 ?_
      rw [← Hz.out] at o2
      have L2 := Lib.hid M2; have O2 := Lib.hid o2
      clear M0 O1 M1 g2 o2 f2 M2 LD OD
      refine AnyK.take 17 (v2) L2.out rfl (by kernel_rfl) (by kernel_rfl) (by kernel_rfl) (fun _ _ _ h => h) (by kernel_rfl) (fun W hW => by kernel_rfl) ?_
      refine AnyK.done _ (by kernel_rfl) ?_
      go_simp
      go_wp2
      go_roundw
      case rel => exact ⟨k + 1, by omega, by go_num, L2, O2⟩
      case measure => simp [intOf]; omega
    · have hltI : ¬ (k : Int) < (N : Int) := by omega
      have HB := Lib.hid hB.out
      have e32 : b.take k = b := List.take_of_length_le (by rw [← HN.out]; omega)
      have ho := hO.out
      rw [e32] at ho
      have hc := Rb.conv (Dl.Ow.rb ho)
      have HC := Lib.hid hc
      clear hB hO ho e32 hc
      go_wp2_with (refine wpList_cv rfl (.string ⟨(hexL b).toArray⟩) wr (y_conv (s := .tmp 29) (x := u4) rfl (by kernel_rfl) HC.out) ?_)
      go_ret
      exact ⟨rfl, HB.out⟩
end Go.Proofs.YtdjmcehoaneekaaDoor.Ix
