/-
  IndexFan, walked.
-/
import Derived.Test.YtdjmcehoaneekaaDoorITwo
namespace Go.Proofs.YtdjmcehoaneekaaDoor.Ix
open Go.Proofs.YtdjmcehoaneekaaDoor
open Go Go.RowKit

theorem leq_str (W : World) (x y : Bs) : (binOp .leq 9 (.string ⟨x.toArray⟩) (.string ⟨y.toArray⟩)).run Tryd.prog W = .ok (.bool (!decide (y < x))) W := by
  show (Op.stringOp .leq _ _).run _ _ = _
  have e : Op.bytesLess x y = decide (x < y) := Go.Proofs.bytesLess_eq x y
  have e2 : (decide (x < y) || x == y) = !decide (y < x) := by
    rw [Bool.eq_iff_iff, Bool.or_eq_true, Bool.not_eq_true', decide_eq_true_iff, decide_eq_false_iff_not, beq_iff_eq]
    constructor
    · rintro (h | rfl)
      · exact lt_asymm_bs h
      · exact lt_irrefl_bs _
    · intro h
      by_cases hxy : x = y
      · exact .inr hxy
      · exact .inl (lt_total_bs h (Ne.symm hxy))
  simp [go_sem, Op.stringOp, e, e2]
theorem cut_pre (W : World) (x : Bs) (h : 2 ≤ x.length) (_hm : x.length ≤ maxLen) : (Instr.sliceAt 9 (.string ⟨x.toArray⟩) none (some (.int .i64 2)) none).run Tryd.prog W = .ok (.string ⟨(x.take 2).toArray⟩) W := by
  have hs : (⟨x.toArray⟩ : ByteArray).size = x.length := by show x.toArray.size = _; simp
  have he : (⟨x.toArray⟩ : ByteArray).extract 0 2 = ⟨(x.take 2).toArray⟩ := by
    apply ByteArray.ext
    simp [ByteArray.data_extract]
  have h1 : (2 : Int) ≤ (x.length : Int) := by omega
  simp [go_sem, hs, h1, he]
theorem at_str (W : World) (g o n c k : Nat) (hk : k < n) : (Instr.indexAt 22 (.slice (some ⟨g, o, none⟩) n c) (.int .i64 (k : Int))).run Tryd.prog W = .ok (.pointer (some ⟨g, o + k, none⟩)) W := by
  have h1 : (k : Int) < (n : Int) := by omega
  simp [go_sem, h1]
theorem at_byte (W : World) (g o n c k : Nat) (hk : k < n) : (Instr.indexAt 23 (.slice (some ⟨g, o, none⟩) n c) (.int .i64 (k : Int))).run Tryd.prog W = .ok (.pointer (some ⟨g, o + k, none⟩)) W := by
  have h1 : (k : Int) < (n : Int) := by omega
  simp [go_sem, h1]
theorem run_two (W : World) (k : Nat) (hk : k ≤ 1000000) : (binOp .mul 3 (.int .i64 2) (.int .i64 (k : Int))).run Tryd.prog W = .ok (.int .i64 ((2 * k : Nat) : Int)) W := by
  have e : IntKind.i64.wrap (2 * (k : Int)) = 2 * (k : Int) := IntWalk.i64_in _ (by omega)
  simp [go_sem, e]
theorem run_256 (W : World) (k : Nat) (hk : k ≤ 1000000) : (binOp .mul 3 (.int .i64 (k : Int)) (.int .i64 256)).run Tryd.prog W = .ok (.int .i64 ((k * 256 : Nat) : Int)) W := by
  have e : IntKind.i64.wrap ((k : Int) * 256) = (k : Int) * 256 := IntWalk.i64_in _ (by omega)
  simp [go_sem, e]
theorem run_sum (W : World) (a b : Nat) (h : a + b ≤ 100000000) : (binOp .add 3 (.int .i64 (a : Int)) (.int .i64 (b : Int))).run Tryd.prog W = .ok (.int .i64 ((a + b : Nat) : Int)) W := by
  have e : IntKind.i64.wrap ((a : Int) + (b : Int)) = (a : Int) + (b : Int) := IntWalk.i64_in _ (by omega)
  simp [go_sem, e]
theorem conv_u8 (W : World) (a : Nat) (h : a < 256) : (convert 5 3 (.int .u8 (a : Int))).run Tryd.prog W = .ok (.int .i64 (a : Int)) W := by
  have e : IntKind.i64.wrap (a : Int) = (a : Int) := IntWalk.i64_in _ (by omega)
  simp [go_sem, e]
/-- How many of the first k begin with c or a lesser byte. -/
def cntI (ids : List Bs) (c k : Nat) : Nat := upToI (ids.take k) c
theorem cntI_succ {ids : List Bs} {c k : Nat} {id : Bs} (h : ids[k]? = some id) : cntI ids c (k + 1) = cntI ids c k + if ((rawL id).getD 0 0).toNat ≤ c then 1 else 0 := by
  unfold cntI upToI
  rw [List.take_add_one, h, Option.toList_some, List.countP_append, List.countP_singleton]
  by_cases hc : ((rawL id).getD 0 0).toNat ≤ c
  · rw [if_pos hc, if_pos (decide_eq_true hc)]
  · rw [if_neg hc, if_neg (by simpa using hc)]
theorem cntI_len (ids : List Bs) (c k : Nat) : cntI ids c k ≤ k := Nat.le_trans List.countP_le_length (by rw [List.length_take]; exact Nat.min_le_left _ _)
theorem cntI_all (ids : List Bs) (c : Nat) : cntI ids c ids.length = upToI ids c := by unfold cntI; rw [List.take_length]
def lastI (ids : List Bs) (c : Nat) : Nat := if c = 0 then 0 else upToI ids (c - 1)
theorem lastI_le (ids : List Bs) (c : Nat) : lastI ids c ≤ upToI ids c := by
  unfold lastI; split
  · exact Nat.zero_le _
  · exact upToI_mono ids (by omega)
theorem lastI_succ (ids : List Bs) (c : Nat) : lastI ids (c + 1) = upToI ids c := by unfold lastI; rw [if_neg (by omega)]; rfl
theorem upToI_len (ids : List Bs) (c : Nat) : upToI ids c ≤ ids.length := List.countP_le_length
theorem neqn (n : Nat) : ((n : Int) != (n : Int)) = false := by simp

set_option maxRecDepth 100000 in
set_option maxHeartbeats 4000000 in
theorem Fan_law (w : World) (hp : Pr w) {v : Value} {ids : List Bs} (hv : StrsR w v ids) (hl : ids.length ≤ 140737488355328) :
    Calls Tryd.prog 7 #[v] w (BoolP true w) := by
  have hplt := hp.lt
  have HH := Lib.hid (head_any w hp)
  have HG : Hid (∀ W, Below w.heap.size w W → Calls Tryd.prog 10 #[v] W (GrtP ids W)) := Lib.hid fun W hW => great_any (hv.below hW (Nat.le_refl _)) hl
  have HPut : Hid (∀ W, Below w.heap.size w W → Small ids → Calls Tryd.prog 11 #[v] W (PutPost ids W)) := Lib.hid fun W hW hs => Put_any (hp.below hW hplt) (hv.below hW (Nat.le_refl _)) (small_len hs).2 (small_len hs).1
  obtain ⟨A, c, rfl⟩ := hv.shape
  obtain ⟨N, hN⟩ : ∃ N, N = ids.length := ⟨_, rfl⟩
  have HV : Hid (StrsR w (.slice A N c) ids) := Lib.hid (by rw [hN]; exact hv)
  rw [← hN] at HG HPut hl ⊢
  have HN := Lib.hid hN; have HP := Lib.hid hp
  clear hv hN hp
  go_enter Tryd.func7, Tryd.ntmps7
  go_wp2_with fail
  refine HH.out.mono ?_
  rintro e w1 ⟨rfl, l1⟩
  have L1 := Lib.hid l1
  clear l1
  go_wp2_with fail
  refine (HG.out w1 L1.out).mono ?_
  rintro e w2 ⟨b, rfl, l2, hsm⟩
  have L2 : Hid (Below w.heap.size w w2) := Lib.hid (L1.out.trans (l2.mono L1.out.size))
  clear l2
  cases b with
  | true =>
    clear hsm
    go_wp2_with fail
    go_ret
    exact ⟨rfl, L2.out⟩
  | false =>
    have HSm := Lib.hid (hsm rfl)
    clear hsm
    by_cases h100 : 100 < N
    · have h100I : (100 : Int) < (N : Int) := by omega
      go_wp2_with fail
      go_ret
      exact ⟨rfl, L2.out⟩
    · have h100I : ¬ (100 : Int) < (N : Int) := by omega
      have hN100 : N ≤ 100 := by omega
      have HPt := Lib.hid (HPut.out w2 L2.out HSm.out)
      clear h100
      go_wp2_with fail
      refine HPt.out.mono ?_
      rintro e w3 ⟨l3, hh⟩
      have L3 : Hid (Below w.heap.size w w3) := Lib.hid (L2.out.trans (l3.mono L2.out.size))
      clear l3 HPt
      rcases hh with ⟨n, hn, rfl⟩ | ⟨hn, rows, A3, N3, c3, hsrt, rfl, hN3, ho3⟩
      · have hne := ne0 (putE_pos hn)
        have hpos := putE_pos hn
        clear hn
        go_wp2_with fail
        go_ret
        exact ⟨rfl, L3.out⟩
      · obtain ⟨h512, hall, hnd⟩ := putE_none.1 hn
        have hrl : rows.length = N := by rw [hsrt.len, HN.out]
        have hlen : N3 = 544 + N * 34 := by rw [hN3, indexL_len hsrt.fit, hrl]
        have hr3 : Rb w3 (.slice A3 N3 c3) (indexL rows) := by rw [hN3]; rw [hN3] at ho3; exact Dl.Ow.rb ho3
        rcases hr3 with ⟨_, h0⟩ | ⟨g3, o3, c3', e3, hc3, hg3, hcell3⟩
        · exfalso
          have : (indexL rows).length = 0 := by rw [h0]; rfl
          omega
        obtain rfl : c3 = c3' := by cases e3; rfl
        obtain rfl : A3 = some ⟨g3, o3, none⟩ := by cases e3; rfl
        have HB3 : Hid (∀ W, Below w3.heap.size w3 W → ∀ j, j < N3 → (Instr.loadAt 5 (.pointer (some ⟨g3, o3 + j, none⟩))).run Tryd.prog W = .ok (.int .u8 ((((indexL rows).getD j 0).toNat : Nat) : Int)) W) := Lib.hid fun W hW j hj => by
          have h := (hW.cell (p := ⟨g3, o3 + j, none⟩) hg3).trans (hcell3 j (by rw [← hN3]; exact hj))
          simp [go_sem, h]
        have HHd : Hid (∀ cc, cc < 256 → ((indexL rows).getD (2 * cc) 0).toNat * 256 + ((indexL rows).getD (2 * cc + 1) 0).toNat = upToI ids cc) := Lib.hid fun cc h => by
          rw [head_num rows cc h (by rw [hrl]; omega), hsrt.upTo]
        have HAll : Hid (ids.all namedB = true) := Lib.hid hall
        have HL := Lib.hid hlen
        have h512I : ¬ (N3 : Int) < 512 := by omega
        have hN3b : N3 ≤ 1000000 := by omega
        clear hlen hn hnd h512 hall hsrt hN3 ho3 e3 hc3 hg3 hcell3 hrl
        have W30 : Hid (Below w3.heap.size w3 w3) := Lib.hid (Below.refl _ _)
        go_wp2_with fail
        go_loopw [6, 7, 8, 9, 10] (fun last ci _ _ _ wr => ∃ cc : Nat, cc ≤ 256 ∧ ci = .int .i64 cc ∧ Hid (Below w3.heap.size w3 wr) ∧ ∃ L : Nat, Hid (L = lastI ids cc) ∧ last = .int .i64 L) (fun _ ci _ _ _ _ => 256 - (intOf ci).toNat)
        case atStart => exact ⟨0, by omega, rfl, W30, 0, Lib.hid rfl, rfl⟩
        case round =>
          clear W30
          obtain ⟨cc, hcc, rfl, hB, L, hL, rfl⟩ := hrel
          by_cases hlt : cc < 256
          · have hccI : (cc : Int) < 256 := by omega
            obtain ⟨x, hx⟩ : ∃ x, x = ((indexL rows).getD (2 * cc) 0).toNat := ⟨_, rfl⟩
            obtain ⟨y, hy⟩ : ∃ y, y = ((indexL rows).getD (2 * cc + 1) 0).toNat := ⟨_, rfl⟩
            have hx256 : x < 256 := by rw [hx]; exact UInt8.toNat_lt _
            have hy256 : y < 256 := by rw [hy]; exact UInt8.toNat_lt _
            have hxy := HHd.out cc hlt
            rw [← hx, ← hy] at hxy
            have HX : Hid (∀ W, Below w3.heap.size w3 W → (Instr.loadAt 5 (.pointer (some ⟨g3, o3 + 2 * cc, none⟩))).run Tryd.prog W = .ok (.int .u8 (x : Int)) W) := Lib.hid fun W hW => by rw [hx]; exact HB3.out W hW (2 * cc) (by have := HL.out; omega)
            have HY : Hid (∀ W, Below w3.heap.size w3 W → (Instr.loadAt 5 (.pointer (some ⟨g3, o3 + (2 * cc + 1), none⟩))).run Tryd.prog W = .ok (.int .u8 (y : Int)) W) := Lib.hid fun W hW => by rw [hy]; exact HB3.out W hW (2 * cc + 1) (by have := HL.out; omega)
            obtain ⟨U, hU⟩ : ∃ U, U = upToI ids cc := ⟨_, rfl⟩
            rw [← hU] at hxy
            have HU := Lib.hid hU
            have hUN : U ≤ N := by rw [hU, HN.out]; exact upToI_len _ _
            have hLU : L ≤ U := by rw [hL.out, hU]; exact lastI_le _ _
            have HI0 : ∀ W : World, (Instr.indexAt 23 (.slice (some ⟨g3, o3, none⟩) N3 c3) (.int .i64 ((2 * cc : Nat) : Int))).run Tryd.prog W = .ok (.pointer (some ⟨g3, o3 + 2 * cc, none⟩)) W := fun W => at_byte W g3 o3 N3 c3 _ (by have := HL.out; omega)
            have HI1 : ∀ W : World, (Instr.indexAt 23 (.slice (some ⟨g3, o3, none⟩) N3 c3) (.int .i64 ((2 * cc + 1 : Nat) : Int))).run Tryd.prog W = .ok (.pointer (some ⟨g3, o3 + (2 * cc + 1), none⟩)) W := fun W => at_byte W g3 o3 N3 c3 _ (by have := HL.out; omega)
            have HSu : ∀ W : World, (binOp .add 3 (.int .i64 ((x * 256 : Nat) : Int)) (.int .i64 (y : Int))).run Tryd.prog W = .ok (.int .i64 (U : Int)) W := fun W => by rw [← hxy]; exact run_sum W (x * 256) y (by omega)
            have HI0 := Lib.hid HI0; have HI1 := Lib.hid HI1; have HSu := Lib.hid HSu
            clear hx hy hxy hU
            go_wp2_with fail
            refine AnyB.start (by kernel_rfl) ?_
            have LD : Hid (Below w3.heap.size w3 wr.drew) := Lib.hid hB.out.drew
            have hsz := hB.out.size
            clear hB
            refine AnyB.take 0 (.slice (some ⟨g3, o3, none⟩) N3 c3) rfl (by kernel_rfl) (by kernel_rfl) (by kernel_rfl) (fun _ _ _ h => h) (by kernel_rfl) (fun W hW => by kernel_rfl) ?_
            refine AnyB.take 1 (.int .i64 (cc : Int)) rfl (by kernel_rfl) (by kernel_rfl) (by kernel_rfl) (fun _ _ _ h => h) (by kernel_rfl) (fun W hW => by kernel_rfl) ?_
            refine AnyB.take 2 (.int .i64 ((2 * cc : Nat) : Int)) rfl (by kernel_rfl) (by kernel_rfl) (by kernel_rfl) (fun _ _ _ h => h) (by kernel_rfl) (fun W hW => y_bin (x := .int .i64 2) (y := .int .i64 (cc : Int)) rfl (by kernel_rfl) (by kernel_rfl) rfl (run_two W cc (by omega))) ?_
            refine AnyB.take 3 (.pointer (some ⟨g3, o3 + 2 * cc, none⟩)) rfl (by kernel_rfl) (by kernel_rfl) (by kernel_rfl) (fun _ _ _ h => h) (by kernel_rfl) (fun W hW => y_index (sv := .slice (some ⟨g3, o3, none⟩) N3 c3) (iv := .int .i64 ((2 * cc : Nat) : Int)) rfl (by kernel_rfl) (by kernel_rfl) (HI0.out W)) ?_
            refine AnyB.take 4 (.int .u8 (x : Int)) rfl (by kernel_rfl) (by kernel_rfl) (by kernel_rfl) (fun _ _ _ h => h) (by kernel_rfl) (fun W hW => y_load (sv := .pointer (some ⟨g3, o3 + 2 * cc, none⟩)) rfl (by kernel_rfl) (HX.out W (LD.out.trans (hW.mono LD.out.size)))) ?_
            refine AnyB.take 5 (.int .i64 (x : Int)) rfl (by kernel_rfl) (by kernel_rfl) (by kernel_rfl) (fun _ _ _ h => h) (by kernel_rfl) (fun W hW => y_conv rfl (by kernel_rfl) (conv_u8 W x hx256)) ?_
            refine AnyB.take 6 (.int .i64 ((x * 256 : Nat) : Int)) rfl (by kernel_rfl) (by kernel_rfl) (by kernel_rfl) (fun _ _ _ h => h) (by kernel_rfl) (fun W hW => y_bin (x := .int .i64 (x : Int)) (y := .int .i64 256) rfl (by kernel_rfl) (by kernel_rfl) rfl (run_256 W x (by omega))) ?_
            refine AnyB.take 7 (.slice (some ⟨g3, o3, none⟩) N3 c3) rfl (by kernel_rfl) (by kernel_rfl) (by kernel_rfl) (fun _ _ _ h => h) (by kernel_rfl) (fun W hW => by kernel_rfl) ?_
            refine AnyB.take 8 (.int .i64 (cc : Int)) rfl (by kernel_rfl) (by kernel_rfl) (by kernel_rfl) (fun _ _ _ h => h) (by kernel_rfl) (fun W hW => by kernel_rfl) ?_
            refine AnyB.take 9 (.int .i64 ((2 * cc : Nat) : Int)) rfl (by kernel_rfl) (by kernel_rfl) (by kernel_rfl) (fun _ _ _ h => h) (by kernel_rfl) (fun W hW => y_bin (x := .int .i64 2) (y := .int .i64 (cc : Int)) rfl (by kernel_rfl) (by kernel_rfl) rfl (run_two W cc (by omega))) ?_
            refine AnyB.take 10 (.int .i64 ((2 * cc + 1 : Nat) : Int)) rfl (by kernel_rfl) (by kernel_rfl) (by kernel_rfl) (fun _ _ _ h => h) (by kernel_rfl) (fun W hW => y_bin (x := .int .i64 ((2 * cc : Nat) : Int)) (y := .int .i64 1) rfl (by kernel_rfl) (by kernel_rfl) rfl (run_inc W (2 * cc) (by omega))) ?_
            refine AnyB.take 11 (.pointer (some ⟨g3, o3 + (2 * cc + 1), none⟩)) rfl (by kernel_rfl) (by kernel_rfl) (by kernel_rfl) (fun _ _ _ h => h) (by kernel_rfl) (fun W hW => y_index (sv := .slice (some ⟨g3, o3, none⟩) N3 c3) (iv := .int .i64 ((2 * cc + 1 : Nat) : Int)) rfl (by kernel_rfl) (by kernel_rfl) (HI1.out W)) ?_
            refine AnyB.take 12 (.int .u8 (y : Int)) rfl (by kernel_rfl) (by kernel_rfl) (by kernel_rfl) (fun _ _ _ h => h) (by kernel_rfl) (fun W hW => y_load (sv := .pointer (some ⟨g3, o3 + (2 * cc + 1), none⟩)) rfl (by kernel_rfl) (HY.out W (LD.out.trans (hW.mono LD.out.size)))) ?_
            refine AnyB.take 13 (.int .i64 (y : Int)) rfl (by kernel_rfl) (by kernel_rfl) (by kernel_rfl) (fun _ _ _ h => h) (by kernel_rfl) (fun W hW => y_conv rfl (by kernel_rfl) (conv_u8 W y hy256)) ?_
            refine AnyB.take 14 (.int .i64 (U : Int)) rfl (by kernel_rfl) (by kernel_rfl) (by kernel_rfl) (fun _ _ _ h => h) (by kernel_rfl) (fun W hW => y_bin (x := .int .i64 ((x * 256 : Nat) : Int)) (y := .int .i64 (y : Int)) rfl (by kernel_rfl) (by kernel_rfl) rfl (HSu.out W)) ?_
            refine AnyB.take 15 (.int .i64 (U : Int)) rfl (by kernel_rfl) (by kernel_rfl) (by kernel_rfl) (fun _ _ _ h => h) (by kernel_rfl) (fun W hW => by kernel_rfl) ?_
            refine AnyB.done _ (by kernel_rfl) ?_
            go_simp
            clear HX HY HI0 HI1 HSu
            generalize wr.drew = wd at LD ⊢
            clear hsz
            clear wr
            go_wp2_with fail
            go_loopw [9, 10] (fun want i w' => ∃ k : Nat, k ≤ N ∧ i = .int .i64 k ∧ Hid (Below w3.heap.size w3 w') ∧ ∃ M : Nat, M ≤ k ∧ Hid (M = cntI ids cc k) ∧ want = .int .i64 M) (fun _ i _ => N - (intOf i).toNat)
            case atStart => exact ⟨0, Nat.zero_le _, rfl, LD, 0, Nat.le_refl _, Lib.hid (by simp [cntI, upToI]), rfl⟩
            case round =>
              clear LD
              obtain ⟨k, hk, rfl, hB, M, hM, HM, rfl⟩ := hrel
              by_cases hkN : k < N
              · have hkI : (k : Int) < (N : Int) := by omega
                obtain ⟨g, o, c', e, _, hg⟩ := HV.out.pos (by have := HN.out; omega)
                obtain rfl : A = some ⟨g, o, none⟩ := by cases e; rfl
                clear e
                obtain ⟨id, hid⟩ : ∃ id, ids[k]? = some id := ⟨_, List.getElem?_eq_getElem (by have := HN.out; omega)⟩
                have hnm : namedB id = true := List.all_eq_true.1 HAll.out id (List.mem_of_getElem? hid)
                have hl64 : id.length = 64 := named_len hnm
                have HC : Hid (∀ W, Below w3.heap.size w3 W → (Instr.loadAt 9 (.pointer (some ⟨g, o + k, none⟩))).run Tryd.prog W = .ok (.string ⟨id.toArray⟩) W) := Lib.hid fun W hW => by
                  have h : W.cell? ⟨g, o + k, none⟩ = some (.string ⟨id.toArray⟩) := ((L3.out.trans (hW.mono L3.out.size)).cell (p := ⟨g, o + k, none⟩) hg).trans (StrsR.cell HV.out k id hid)
                  simp [go_sem, h]
                have HIx : Hid (∀ W : World, (Instr.indexAt 22 (.slice (some ⟨g, o, none⟩) N c) (.int .i64 (k : Int))).run Tryd.prog W = .ok (.pointer (some ⟨g, o + k, none⟩)) W) := Lib.hid fun W => at_str W g o N c k hkN
                have HCt : Hid (∀ W : World, (Instr.sliceAt 9 (.string ⟨id.toArray⟩) none (some (.int .i64 2)) none).run Tryd.prog W = .ok (.string ⟨(id.take 2).toArray⟩) W) := Lib.hid fun W => cut_pre W id (by omega) (by unfold maxLen; omega)
                have HSc := Lib.hid (cntI_succ (c := cc) hid)
                have hdec : (!decide (twoL cc < id.take 2)) = decide (((rawL id).getD 0 0).toNat ≤ cc) := by
                  rw [Bool.eq_iff_iff, Bool.not_eq_true', decide_eq_false_iff_not, decide_eq_true_iff, two_le hnm cc hlt]; omega
                obtain ⟨q, hq⟩ : ∃ q, q = decide (((rawL id).getD 0 0).toNat ≤ cc) := ⟨_, rfl⟩
                have HLq : Hid (∀ W : World, (binOp .leq 9 (.string ⟨(id.take 2).toArray⟩) (.string ⟨(twoL cc).toArray⟩)).run Tryd.prog W = .ok (.bool q) W) := Lib.hid fun W => by
                  rw [leq_str, hdec, ← hq]
                have HQ := Lib.hid hq
                clear hdec hnm hid hq
                go_wp2_with fail
                refine AnyB.start (by kernel_rfl) ?_
                have LD : Hid (Below w3.heap.size w3 wr.drew) := Lib.hid hB.out.drew
                clear hB
                refine AnyB.take 0 (.slice (some ⟨g, o, none⟩) N c) rfl (by kernel_rfl) (by kernel_rfl) (by kernel_rfl) (fun _ _ _ h => h) (by kernel_rfl) (fun W hW => by kernel_rfl) ?_
                refine AnyB.take 1 (.int .i64 (k : Int)) rfl (by kernel_rfl) (by kernel_rfl) (by kernel_rfl) (fun _ _ _ h => h) (by kernel_rfl) (fun W hW => by kernel_rfl) ?_
                refine AnyB.take 2 (.pointer (some ⟨g, o + k, none⟩)) rfl (by kernel_rfl) (by kernel_rfl) (by kernel_rfl) (fun _ _ _ h => h) (by kernel_rfl) (fun W hW => y_index (sv := .slice (some ⟨g, o, none⟩) N c) (iv := .int .i64 (k : Int)) rfl (by kernel_rfl) (by kernel_rfl) (HIx.out W)) ?_
                refine AnyB.take 3 (.string ⟨id.toArray⟩) rfl (by kernel_rfl) (by kernel_rfl) (by kernel_rfl) (fun _ _ _ h => h) (by kernel_rfl) (fun W hW => y_load (sv := .pointer (some ⟨g, o + k, none⟩)) rfl (by kernel_rfl) (HC.out W (LD.out.trans (hW.mono LD.out.size)))) ?_
                refine AnyB.take 4 (.string ⟨(id.take 2).toArray⟩) rfl (by kernel_rfl) (by kernel_rfl) (by kernel_rfl) (fun _ _ _ h => h) (by kernel_rfl) (fun W hW => y_slice (xv := .string ⟨id.toArray⟩) (lv := none) (hv := some (.int .i64 2)) (mv := none) rfl (by kernel_rfl) rfl (by kernel_rfl) rfl (HCt.out W)) ?_
                refine AnyB.take 5 (.int .i64 (cc : Int)) rfl (by kernel_rfl) (by kernel_rfl) (by kernel_rfl) (fun _ _ _ h => h) (by kernel_rfl) (fun W hW => by kernel_rfl) ?_
                refine AnyB.call 6 20 #[.int .i64 (cc : Int)] (by kernel_rfl) rfl (by kernel_rfl) (by kernel_rfl) ?_
                refine (two_any _ cc hlt).mono ?_
                rintro e w5 ⟨rfl, l5⟩
                have L5 : Hid (Below w3.heap.size w3 w5) := Lib.hid (LD.out.trans (l5.mono LD.out.size))
                refine ⟨SV (twoL cc), rfl, l5, ?_⟩
                clear l5
                refine AnyB.take 7 (.bool q) rfl (by kernel_rfl) (by kernel_rfl) (by kernel_rfl) (fun _ _ _ h => h) (by kernel_rfl) (fun W hW => y_bin (x := .string ⟨(id.take 2).toArray⟩) (y := .string ⟨(twoL cc).toArray⟩) rfl (by kernel_rfl) (by kernel_rfl) rfl (HLq.out W)) ?_
                refine AnyB.done _ (by kernel_rfl) ?_
                go_simp
                clear HC HIx HCt HLq LD
                cases q with
                | true =>
                  have HS : Hid (cntI ids cc (k + 1) = M + 1) := Lib.hid (by rw [HSc.out, ← HM.out, if_pos (of_decide_eq_true HQ.out.symm)])
                  go_wp2_with fail
                  go_roundw
                  case rel => exact ⟨k + 1, by omega, by go_num, L5, M + 1, by omega, Lib.hid HS.out.symm, by go_num⟩
                  case measure => simp [intOf]; omega
                | false =>
                  have HS : Hid (cntI ids cc (k + 1) = M) := Lib.hid (by rw [HSc.out, ← HM.out, if_neg (of_decide_eq_false HQ.out.symm)]; rfl)
                  go_wp2_with fail
                  go_roundw
                  case rel => exact ⟨k + 1, by omega, by go_num, L5, M, by omega, Lib.hid HS.out.symm, rfl⟩
                  case measure => simp [intOf]; omega
              · have hkI : ¬ (k : Int) < (N : Int) := by omega
                have hkN2 : k = N := by omega
                have hMU : M = U := by rw [HM.out, hkN2, HN.out, cntI_all, HU.out]
                have hLx : Hid (U = lastI ids (cc + 1)) := Lib.hid (by rw [lastI_succ]; exact HU.out)
                have LB : Hid (Below w3.heap.size w3 wr) := Lib.hid hB.out
                subst hMU
                have hnn := neqn M
                have hul : ¬ (M : Int) < (L : Int) := by omega
                clear hB HM
                go_wp2_with fail
                go_roundw
                case rel => exact ⟨cc + 1, by omega, by go_num, LB, M, hLx, rfl⟩
                case measure => simp [intOf]; omega
          · have hcc2 : cc = 256 := by omega
            subst hcc2
            have hLN : L = N := by rw [hL.out, show (256 : Nat) = 255 + 1 from rfl, lastI_succ, upToI_all, HN.out]
            subst hLN
            have hee := eqn L
            have HB := Lib.hid hB.out
            have hl3 := HL.out
            have h544 : ((544 : Int) + 34 * (L : Int)) = (N3 : Int) := by omega
            have hee3 : ((N3 : Int) == (544 : Int) + 34 * (L : Int)) = true := by rw [h544]; exact eqn N3
            have w34 : IntKind.i64.wrap (34 * (L : Int)) = 34 * (L : Int) := IntWalk.i64_in _ (by omega)
            have w544 : IntKind.i64.wrap (544 + 34 * (L : Int)) = 544 + 34 * (L : Int) := IntWalk.i64_in _ (by omega)
            clear h544 hl3
            clear hB hL
            go_wp2_with fail
            go_ret
            exact ⟨rfl, L3.out.trans (HB.out.mono L3.out.size)⟩
end Go.Proofs.YtdjmcehoaneekaaDoor.Ix
