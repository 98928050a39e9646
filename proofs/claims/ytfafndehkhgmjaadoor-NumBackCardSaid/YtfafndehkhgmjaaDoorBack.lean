/-
  NumBack, walked.
-/
import Derived.Test.YtfafndehkhgmjaaDoorApart
import Derived.Test.YtfafndehkhgmjaaDoorOrder
import Derived.Deep.CutBlock
import Derived.Deep.CutRange
namespace Go.Proofs.YtfafndehkhgmjaaDoor
open Go Go.RowKit

set_option maxRecDepth 100000 in
set_option maxHeartbeats 4000000 in
theorem Back_law (w : World) (hp : Pr w) (x : Int) (hx : -9223372036854775808 ≤ x ∧ x ≤ 9223372036854775807) (v : Value) (l : List UInt8) (hl : l.length ≤ maxLen) (hr : Rb w v l) (s : List UInt8) (hs : s.length ≤ maxLen) :
    Calls Tryd.prog 4 #[.int .i64 x, v, SV s] w fun e w' => e = .returned (.bool true) ∧ Below w.heap.size w w' := by
  unfold maxLen at hl hs
  obtain ⟨A, ca, rfl, hca⟩ := hr.shape
  unfold SV
  have HH := Lib.hid (head_any w hp)
  have Hr := Lib.hid hr
  have Hp := Lib.hid hp
  clear hp hr
  obtain ⟨q, hq⟩ : ∃ q, q = l.length := ⟨_, rfl⟩
  obtain ⟨m, hm⟩ : ∃ m, m = s.length := ⟨_, rfl⟩
  have hsz : (⟨s.toArray⟩ : ByteArray).size = m := hm.symm
  have Hq := Lib.hid hq
  have Hm := Lib.hid hm
  rw [← hq] at hl hca ⊢
  rw [← hm] at hs
  clear hq hm
  by_cases h1 : 3000 < q
  · have e1 : decide ((3000 : Int) < (q : Int)) = true := by simp; omega
    clear h1
    go_enter Tryd.func4, Tryd.ntmps4
    go_wp2_with fail
    refine HH.out.mono ?_
    rintro e w1 ⟨rfl, l1⟩
    go_wp2
    go_ret
    exact ⟨rfl, l1⟩
  by_cases h2 : 3000 < m
  · have e1 : decide ((3000 : Int) < (q : Int)) = false := by simp; omega
    have e2 : decide ((3000 : Int) < (m : Int)) = true := by simp; omega
    clear h1 h2
    go_enter Tryd.func4, Tryd.ntmps4
    go_wp2_with fail
    refine HH.out.mono ?_
    rintro e w1 ⟨rfl, l1⟩
    go_wp2
    go_ret
    exact ⟨rfl, l1⟩
  have e1 : decide ((3000 : Int) < (q : Int)) = false := by simp; omega
  have e2 : decide ((3000 : Int) < (m : Int)) = false := by simp; omega
  have hq3 : q ≤ 3000 := by omega
  have hm3 : m ≤ 3000 := by omega
  clear h1 h2 hl hs
  have HGl : Hid (∀ W : World, Below w.heap.size w W → Calls Tryd.prog 9 #[.slice A q ca] W fun e w' => e = .returned (gotV (getL l)) ∧ W = w') := Lib.hid fun W hW => by
    have h := Get_any W _ l (by rw [← Hq.out]; unfold maxLen; omega) (Hr.out.below hW (Nat.le_refl _))
    rw [← Hq.out] at h
    exact h
  have HDs : Hid (∀ W : World, Below w.heap.size w W → Calls Tryd.prog 11 #[.string ⟨s.toArray⟩] W fun e w' => e = .returned (decV (decL s)) ∧ Below W.heap.size W w') := Lib.hid fun W hW => Decimal_any s (by rw [← Hm.out]; omega) W (Hp.out.below hW)
  have HT : Hid (∀ (n : Nat) (W : World), n ≤ 1099511627776 → Below w.heap.size w W → Calls Tryd.prog 15 #[.int .i64 (n : Int)] W fun e w' => e = .returned (.string ⟨(Lib.decDigits n).toArray⟩) ∧ Below W.heap.size W w') := Lib.hid fun n W hn hW => by
    have h := Text_any (n : Int) (by omega) (by omega) W (Hp.out.below hW)
    rw [textL_nat] at h
    exact h
  have HP : Hid (∀ W : World, Calls Tryd.prog 13 #[.int .i64 x] W (PutP W (putI x))) := Lib.hid (Put_any x)
  obtain ⟨p, hpp⟩ : ∃ p, p = putI x := ⟨_, rfl⟩
  rw [← hpp] at HP
  have Hpp := Lib.hid hpp
  obtain ⟨n, hn⟩ : ∃ n, n = p.length := ⟨_, rfl⟩
  have Hn := Lib.hid hn
  have hn6 : n ≤ 6 := by
    rw [hn, hpp]
    cases hf : fitsB x with
    | false => rw [putI_none hf]; simp
    | true =>
      obtain ⟨h0, h1⟩ := (fitsB_iff x).1 hf
      obtain ⟨m, rfl⟩ := Int.eq_ofNat_of_zero_le h0
      rw [putI_nat (by omega)]
      exact putL_len6 (by omega)
  unfold PutP at HP
  rw [← hn] at HP
  clear hpp hn
  go_enter Tryd.func4, Tryd.ntmps4
  go_wp2_with fail
  refine HH.out.mono ?_
  rintro e w1 ⟨rfl, l1⟩
  have L1 := Lib.hid l1
  clear HH l1
  go_upto_region 5 with ((with_reducible refine (HP.out _).mono ?_); rintro e w2 ⟨A2, c2, rfl, r2, l2⟩; have L2 := Lib.hid (L1.out.trans (l2.mono L1.out.size)); have R2 := Lib.hid r2; clear l2 r2)
  clear L1 HP
  go_cut [36] from 31 to 35 (fun t wx => t = .bool (fitsB x) ∧ w2 = wx)
  case first =>
    have hf3 : (decide ((0 : Int) ≤ x) = false ∧ fitsB x = false) ∨ (decide ((0 : Int) ≤ x) = true ∧ decide (x ≤ 1099511627776) = fitsB x) := by
      unfold fitsB
      by_cases h : 0 ≤ x
      · exact .inr ⟨by simpa using h, by simp [h]⟩
      · exact .inl ⟨by simpa using h, by simp [h]⟩
    rcases hf3 with ⟨h1, h2⟩ | ⟨h1, h2⟩
    all_goals
      go_wp2
      go_meet
      case rel => first | exact ⟨rfl, rfl⟩ | exact ⟨by rw [h2], rfl⟩
  case rest =>
    obtain ⟨rfl, rfl⟩ := hcut
    obtain ⟨fb, hfb⟩ : ∃ fb, fb = fitsB x := ⟨_, rfl⟩
    rw [← hfb]
    have Hfb := Lib.hid hfb
    clear hfb
    go_upto_if 36 with fail
    go_cut [9, 10, 11, 12, 13] from 37 to 77 (fun _a _b _c _d _e wx => Below w.heap.size w wx)
    case first =>
      cases fb with
      | false =>
        have hn0 : n = 0 := by
          have h := Hpp.out
          rw [putI_none Hfb.out.symm] at h
          rw [Hn.out, h]; rfl
        subst hn0
        go_wp2
        go_meet
        case rel => exact L2.out
      | true =>
        obtain ⟨h0, h1⟩ := (fitsB_iff x).1 Hfb.out.symm
        obtain ⟨z, rfl⟩ := Int.eq_ofNat_of_zero_le h0
        have hz : z ≤ 1099511627776 := by omega
        have HG : Hid (getL (p ++ l) = some (z, n)) := Lib.hid (by
          have h := Hpp.out
          rw [putI_nat hz] at h
          rw [Hn.out, h]; exact getL_put hz l)
        have HDz : Hid (∀ W : World, Below w.heap.size w W → Calls Tryd.prog 11 #[.string ⟨(Lib.decDigits z).toArray⟩] W fun e w' => e = .returned (.tuple #[.int .i64 (z : Int), .bool true]) ∧ Below W.heap.size W w') := Lib.hid fun W hW => by
          have h := Decimal_any (Lib.decDigits z) (by have := dd_13 hz; omega) W (Hp.out.below hW)
          rw [decL_dd hz, decV_some] at h
          exact h
        have HTz := Lib.hid (fun W => HT.out z W hz)
        generalize Lib.decDigits z = dz at HDz HTz
        have O6a : Hid (Ow (w2.alloc (.cells #[] 5)) w2.heap.size (.slice (some ⟨w2.heap.size, 0, none⟩) 0 0) []) := Lib.hid (Ow.new0 w2 _ (Nat.le_refl _))
        have Q6a : Hid (Rb (w2.alloc (.cells #[] 5)) (.slice A2 n c2) p) := Lib.hid (R2.out.below (below_new w2 _) (Nat.le_refl _))
        have S6a : Hid (w2.heap.size ≤ (w2.alloc (.cells #[] 5)).heap.size) := Lib.hid (by simp)
        have QL0 : Hid (([] : List UInt8).length + p.length ≤ 140737488355328) := Lib.hid (by rw [← Hn.out]; simp; omega)
        have QL1 : Hid (p.length + l.length ≤ 140737488355328) := Lib.hid (by rw [← Hn.out, ← Hq.out]; omega)
        clear h0 h1 hx
        go_wp2_with (refine wpList_app (o := ⟨some 40, _, _, _, _, _⟩) rfl _ _ rfl w2.heap.size _ _ [] p rfl rfl O6a.out Q6a.out QL0.out S6a.out ?_)
        intro v6 w6 o6 l6
        have l6' : Below w2.heap.size w2 w6 := (below_new w2 _).trans l6
        have O6 : Hid (Ow w6 w2.heap.size v6 p) := Lib.hid o6
        have L6 := Lib.hid (L2.out.trans (l6'.mono L2.out.size))
        have Q7 : Hid (Rb w6 (.slice A q ca) l) := Lib.hid (by rw [Hq.out]; exact Hr.out.below L6.out (Nat.le_refl _))
        have S7 : Hid (w2.heap.size ≤ w6.heap.size) := Lib.hid l6'.size
        clear O6a Q6a S6a o6 l6 l6'
        go_wp2_with (refine wpList_app (o := ⟨some 42, _, _, _, _, _⟩) rfl _ _ rfl w2.heap.size _ _ p l rfl rfl O6.out Q7.out QL1.out S7.out ?_)
        intro v7 w7 o7 l7
        have L7 := Lib.hid (L6.out.trans (l7.mono L2.out.size))
        have HG7 : Hid (Calls Tryd.prog 9 #[v7] w7 fun e w' => e = .returned (.tuple #[.int .i64 (z : Int), .int .i64 (n : Int), .bool true]) ∧ w7 = w') := Lib.hid (by
          have h := Get_any w7 _ (p ++ l) (by rw [List.length_append, ← Hn.out, ← Hq.out]; unfold maxLen; omega) o7.rb
          rw [HG.out, gotV_some] at h
          exact h)
        clear O6 Q7 S7 o7 l7 QL0 QL1 L6 HG
        go_wp2_with fail
        refine HG7.out.mono ?_
        rintro e w8 ⟨rfl, rfl⟩
        clear HG7
        go_wp2_with fail
        refine (HTz.out _ L7.out).mono ?_
        rintro e w9 ⟨rfl, l9⟩
        have L9 := Lib.hid (L7.out.trans (l9.mono L7.out.size))
        clear l9
        go_wp2_with fail
        refine (HDz.out _ L9.out).mono ?_
        rintro e w10 ⟨rfl, l10⟩
        have L10 := Lib.hid (L9.out.trans (l10.mono L9.out.size))
        clear l10
        go_wp2
        go_meet
        case rel => exact L10.out
    case rest =>
      have L4 := Lib.hid hcut
      clear hcut L2
      cases hgl : getL l with
      | none =>
        rw [hgl, gotV_none] at HGl
        clear hgl
        go_upto_region 13 with ((with_reducible refine (HGl.out _ L4.out).mono ?_); rintro e w5 ⟨rfl, rfl⟩)
        go_cut [104] from 84 to 103 (fun t wx => t = .bool false ∧ Below w.heap.size w wx)
        case first =>
          go_region
          all_goals
            go_wp2
            go_meet
            case rel => exact ⟨rfl, L4.out.drew⟩
        case rest =>
          obtain ⟨rfl, l5⟩ := hcut
          have L5 := Lib.hid l5
          clear l5
          cases hds : decL s with
          | none =>
            rw [hds, decV_none] at HDs
            clear hds
            go_wp2_with fail
            refine (HDs.out _ L5.out).mono ?_
            rintro e w6 ⟨rfl, l6⟩
            have L6 := Lib.hid (L5.out.trans (l6.mono L5.out.size))
            clear l6
            go_wp2
            go_ret
            exact ⟨rfl, L6.out⟩
          | some d =>
            obtain ⟨hd1, hd2⟩ := decL_some hds
            rw [hds, decV_some] at HDs
            have HTd := Lib.hid (fun W => HT.out d W hd1)
            rw [hd2] at HTd
            clear hds hd2
            go_wp2_with fail
            refine (HDs.out _ L5.out).mono ?_
            rintro e w6 ⟨rfl, l6⟩
            have L6 := Lib.hid (L5.out.trans (l6.mono L5.out.size))
            clear l6
            go_wp2_with fail
            refine (HTd.out _ L6.out).mono ?_
            rintro e w7 ⟨rfl, l7⟩
            have L7 := Lib.hid (L6.out.trans (l7.mono L6.out.size))
            clear l7
            go_wp2
            go_ret
            exact ⟨rfl, L7.out⟩
      | some r =>
        obtain ⟨z, k⟩ := r
        obtain ⟨g1, g2, g3, g4⟩ := getL_some hgl
        rw [hgl, gotV_some] at HGl
        rw [← Hq.out] at g3
        have HPz := Lib.hid (Put_fits z g1)
        rw [g4] at HPz
        unfold PutP at HPz
        have hlen : (l.take k).length = k := by rw [List.length_take, ← Hq.out]; omega
        rw [hlen] at HPz
        have hrl := Hr.out
        obtain ⟨g, o, cc, hv, _, hgl2, hcell⟩ : ∃ g o c, (Value.slice A q ca) = .slice (some ⟨g, o, none⟩) l.length c ∧ l.length ≤ c ∧ g < w.heap.size ∧ ∀ j, j < l.length → w.cell? ⟨g, o + j, none⟩ = some (.int .u8 ((l.getD j 0).toNat : Int)) := by
          rcases hrl with ⟨_, h⟩ | h
          · have := Hq.out; rw [h] at this; simp at this; omega
          · rw [Hq.out]; exact h
        rw [← Hq.out] at hv
        simp only [Value.slice.injEq] at hv
        obtain ⟨rfl, _, rfl⟩ := hv
        have HCV : Hid (∀ W : World, Below w.heap.size w W → (convert 22 9 (.slice (some ⟨g, o, none⟩) k ca)).run Tryd.prog W = .ok (.string ⟨(l.take k).toArray⟩) W) := Lib.hid fun W hW =>
          Rb.take (n := q) (fun j hj => (hW.cell (p := ⟨g, o + j, none⟩) hgl2).trans (hcell j (by rw [← Hq.out]; exact hj))) k g3 (by rw [← Hq.out]; exact Nat.le_refl _)
        generalize l.take k = tk at HPz HCV hlen
        have u0 : 0 ≤ (k : Int) := by omega
        have u1 : (k : Int) ≤ (ca : Int) := by omega
        have b1 : decide ((k : Int) < 1) = false := by simp; omega
        have b2 : decide (q < k) = false := by simp; omega
        clear hrl hcell g4 hgl hlen
        go_upto_region 13 with ((with_reducible refine (HGl.out _ L4.out).mono ?_); rintro e w5 ⟨rfl, rfl⟩)
        have D4 := Lib.hid (L4.out.drew)
        go_cut [104] from 84 to 103 (fun t wx => t = .bool false ∧ Below w.heap.size w wx)
        case first =>
          refine AnyB.start (by kernel_rfl) ?_
          refine AnyB.take 0 (.bool true) rfl (by kernel_rfl) (by kernel_rfl) (by kernel_rfl) (fun _ _ _ h => h) (by kernel_rfl) (fun W hW => by kernel_rfl) ?_
          refine AnyB.take 1 (.bool true) rfl (by kernel_rfl) (by kernel_rfl) (by kernel_rfl) (fun _ _ _ h => h) (by kernel_rfl) (fun W hW => by kernel_rfl) ?_
          refine AnyB.take 2 (.int .i64 (k : Int)) rfl (by kernel_rfl) (by kernel_rfl) (by kernel_rfl) (fun _ _ _ h => h) (by kernel_rfl) (fun W hW => by kernel_rfl) ?_
          refine AnyB.take 3 (.bool false) rfl (by kernel_rfl) (by kernel_rfl) (by kernel_rfl) (fun _ _ _ h => h) (by kernel_rfl) (fun W hW => y_bin (x := .int .i64 (k : Int)) (y := .int .i64 1) rfl (by kernel_rfl) (by kernel_rfl) rfl (by simp [go_sem]; omega)) ?_
          refine AnyB.take 4 (.bool false) rfl (by kernel_rfl) (by kernel_rfl) (by kernel_rfl) (fun _ _ _ h => h) (by kernel_rfl) (fun W hW => by kernel_rfl) ?_
          refine AnyB.take 5 (.int .i64 (k : Int)) rfl (by kernel_rfl) (by kernel_rfl) (by kernel_rfl) (fun _ _ _ h => h) (by kernel_rfl) (fun W hW => by kernel_rfl) ?_
          refine AnyB.take 6 (.slice (some ⟨g, o, none⟩) q ca) rfl (by kernel_rfl) (by kernel_rfl) (by kernel_rfl) (fun _ _ _ h => h) (by kernel_rfl) (fun W hW => by kernel_rfl) ?_
          refine AnyB.take 7 (.int .i64 (q : Int)) rfl (by kernel_rfl) (by kernel_rfl) (by kernel_rfl) (fun _ _ _ h => h) (by kernel_rfl) (fun W hW => by go_simp) ?_
          refine AnyB.take 8 (.bool false) rfl (by kernel_rfl) (by kernel_rfl) (by kernel_rfl) (fun _ _ _ h => h) (by kernel_rfl) (fun W hW => y_bin (x := .int .i64 (k : Int)) (y := .int .i64 (q : Int)) rfl (by kernel_rfl) (by kernel_rfl) rfl (by simp [go_sem]; omega)) ?_
          refine AnyB.take 9 (.bool false) rfl (by kernel_rfl) (by kernel_rfl) (by kernel_rfl) (fun _ _ _ h => h) (by kernel_rfl) (fun W hW => by kernel_rfl) ?_
          refine AnyB.take 10 (.bool false) rfl (by kernel_rfl) (by kernel_rfl) (by kernel_rfl) (fun _ _ _ h => h) (by kernel_rfl) (fun W hW => by kernel_rfl) ?_
          refine AnyB.take 11 (.int .i64 (z : Int)) rfl (by kernel_rfl) (by kernel_rfl) (by kernel_rfl) (fun _ _ _ h => h) (by kernel_rfl) (fun W hW => by kernel_rfl) ?_
          refine AnyB.take 14 (.slice (some ⟨g, o, none⟩) q ca) rfl (by kernel_rfl) (by kernel_rfl) (by kernel_rfl) (fun _ _ _ h => h) (by kernel_rfl) (fun W hW => by kernel_rfl) ?_
          refine AnyB.take 15 (.int .i64 (k : Int)) rfl (by kernel_rfl) (by kernel_rfl) (by kernel_rfl) (fun _ _ _ h => h) (by kernel_rfl) (fun W hW => by kernel_rfl) ?_
          refine AnyB.take 16 (.slice (some ⟨g, o, none⟩) k ca) rfl (by kernel_rfl) (by kernel_rfl) (by kernel_rfl) (fun _ _ _ h => h) (by kernel_rfl) (fun W hW => by go_simp) ?_
          refine AnyB.take 17 (.string ⟨tk.toArray⟩) rfl (by kernel_rfl) (by kernel_rfl) (by kernel_rfl) (fun _ _ _ h => h) (by kernel_rfl) (fun W hW => y_conv rfl (by kernel_rfl) (HCV.out W (D4.out.trans (hW.mono D4.out.size)))) ?_
          refine AnyB.call 12 13 #[.int .i64 (z : Int)] (by kernel_rfl) rfl (by kernel_rfl) (by kernel_rfl) ?_
          refine (HPz.out _).mono ?_
          rintro e w6 ⟨A6, c6, rfl, r6, l6⟩
          refine ⟨_, rfl, l6, ?_⟩
          have R6 := Lib.hid r6
          have L6 := Lib.hid (D4.out.trans (l6.mono D4.out.size))
          clear r6 l6
          refine AnyB.take 13 (.string ⟨tk.toArray⟩) rfl (by kernel_rfl) (by kernel_rfl) (by kernel_rfl) (fun _ _ _ h => h) (by kernel_rfl) (fun W hW => y_conv rfl (by kernel_rfl) (R6.out.below hW (Nat.le_refl _)).conv) ?_
          refine AnyB.take 18 (.bool false) rfl (by kernel_rfl) (by kernel_rfl) (by kernel_rfl) (fun _ _ _ h => h) (by kernel_rfl) (fun W hW => y_bin (x := .string ⟨tk.toArray⟩) (y := .string ⟨tk.toArray⟩) rfl (by kernel_rfl) (by kernel_rfl) rfl (by simp [go_sem])) ?_
          refine AnyB.take 19 (.bool false) rfl (by kernel_rfl) (by kernel_rfl) (by kernel_rfl) (fun _ _ _ h => h) (by kernel_rfl) (fun W hW => by kernel_rfl) ?_
          refine AnyB.take 20 (.bool false) rfl (by kernel_rfl) (by kernel_rfl) (by kernel_rfl) (fun _ _ _ h => h) (by kernel_rfl) (fun W hW => by kernel_rfl) ?_
          refine AnyB.done _ (by kernel_rfl) ?_
          go_simp
          go_wp2
          go_meet
          case rel => exact ⟨rfl, L6.out⟩
        case rest =>
          obtain ⟨rfl, l5⟩ := hcut
          have L5 := Lib.hid l5
          clear l5
          cases hds : decL s with
          | none =>
            rw [hds, decV_none] at HDs
            clear hds
            go_wp2_with fail
            refine (HDs.out _ L5.out).mono ?_
            rintro e w6 ⟨rfl, l6⟩
            have L6 := Lib.hid (L5.out.trans (l6.mono L5.out.size))
            clear l6
            go_wp2
            go_ret
            exact ⟨rfl, L6.out⟩
          | some d =>
            obtain ⟨hd1, hd2⟩ := decL_some hds
            rw [hds, decV_some] at HDs
            have HTd := Lib.hid (fun W => HT.out d W hd1)
            rw [hd2] at HTd
            clear hds hd2
            go_wp2_with fail
            refine (HDs.out _ L5.out).mono ?_
            rintro e w6 ⟨rfl, l6⟩
            have L6 := Lib.hid (L5.out.trans (l6.mono L5.out.size))
            clear l6
            go_wp2_with fail
            refine (HTd.out _ L6.out).mono ?_
            rintro e w7 ⟨rfl, l7⟩
            have L7 := Lib.hid (L6.out.trans (l7.mono L6.out.size))
            clear l7
            go_wp2
            go_ret
            exact ⟨rfl, L7.out⟩
end Go.Proofs.YtfafndehkhgmjaaDoor
