/-
  ObjectOrder, walked.
-/
import Derived.Test.YtdkkeaaepebafaaGreatDoorOrdA
namespace Go.Proofs.YtdkkeaaepebafaaGreatDoor
open Go Go.RowKit Go.Shelf

theorem smalls_of {l : List Itm} (h : SmallI l) : Smalls l := fun x hx => by
  have := h.2 x hx
  omega
theorem smalls_sub {l m : List Itm} (h : Smalls l) (hs : ∀ x ∈ m, x ∈ l) : Smalls m := fun x hx => h x (hs x hx)

set_option maxRecDepth 100000 in
set_option maxHeartbeats 8000000 in
theorem Order_law (w : World) (ho : Ob w) (v : Value) (l : List Itm) (hl : l.length ≤ lim) (hr : ItmsR w v l) (at_ : Nat) (hat : at_ < 256) : Calls Tryz.prog 7 #[v, .int .u8 (at_ : Int)] w (RetBelow (.bool true) w) := by
  have hsh := hr.shape
  have HG := Lib.hid (fun W (hW : Below w.heap.size w W) => GreatItems_any (hr.below hW (Nat.le_refl _)) hl)
  have HP : Hid (SmallI l → ∀ W, Below w.heap.size w W → Calls Tryz.prog 19 #[v] W (RetBelow (putTV l) W)) := Lib.hid fun hs W hW => PutTree_any l v W (hr.below hW (Nat.le_refl _)) (smalls_of hs) (by have := hs.1; omega) (ho.below hW).eb.er (ho.below hW).tb
  have HPm : Hid (SmallI l → ∀ (m : List Itm), (∀ x ∈ m, x ∈ l) → m.length ≤ 1000 → ∀ W (u : Value), Below w.heap.size w W → ItmsR W u m → Calls Tryz.prog 19 #[u] W (RetBelow (putTV m) W)) := Lib.hid fun hs m hm hml W u hW hu => PutTree_any m u W hu (smalls_sub (smalls_of hs) hm) (by omega) (ho.below hW).eb.er (ho.below hW).tb
  have HH := Lib.hid (head_any _ ho)
  have HR := Lib.hid hr
  clear ho hr hl
  obtain ⟨A, c, rfl⟩ := hsh
  go_enter Tryz.func7, Tryz.ntmps7
  go_wp2_with fail
  refine HH.out.mono ?_
  rintro e w1 ⟨rfl, l1⟩
  have L1 := Lib.hid l1
  clear l1
  go_wp2_with fail
  refine (HG.out _ L1.out).mono ?_
  rintro e w2 ⟨g, rfl, l2, hsm⟩
  have L2 := Lib.hid (L1.out.trans (l2.mono L1.out.size))
  clear l2
  cases g
  case true =>
    clear hsm
    go_wp2_with fail
    go_ret
    exact ⟨rfl, L2.out⟩
  have hs := hsm rfl
  have HS := Lib.hid hs
  have h300 := hs.1
  clear hsm hs HG
  cases hrt : rightT l
  · have HP1 := HP.out HS.out
    rw [putTV_no hrt] at HP1
    have HP2 := Lib.hid HP1
    clear HP1 hrt
    go_wp2_with fail
    refine (HP2.out _ L2.out).mono ?_
    rintro e w3 ⟨rfl, l3⟩
    have L3 := Lib.hid (L2.out.trans (l3.mono L2.out.size))
    clear l3
    go_wp2_with fail
    go_ret
    exact ⟨rfl, L3.out⟩
  have HP1 := HP.out HS.out
  rw [putTV_yes hrt] at HP1
  unfold SV at HP1
  have HP2 := Lib.hid HP1
  have HT := Lib.hid hrt
  clear HP1 hrt
  go_wp2_with fail
  refine (HP2.out _ L2.out).mono ?_
  rintro e w3 ⟨rfl, l3⟩
  have L3 := Lib.hid (L2.out.trans (l3.mono L2.out.size))
  clear l3 L1 L2 HP2
  by_cases hl0 : l.length = 0
  · go_wp2_with fail
    go_ret
    exact ⟨rfl, L3.out⟩
  obtain ⟨g, o, c', e, hc, hg⟩ := HR.out.pos (by omega)
  cases e
  have hl1 : 0 < l.length := by omega
  clear hl0
  go_wp2_with fail
  go_loopw [8, 9, 10] (fun i _a _b wr => Below w.heap.size w wr ∧ ∃ k : Nat, 1 ≤ k ∧ k ≤ l.length ∧ i = .int .i64 k) (fun i _ _ _ => l.length - (intOf i).toNat)
  case atStart => exact ⟨L3.out, 1, Nat.le_refl _, hl1, rfl⟩
  case round =>
    clear L3
    obtain ⟨hB, k, hk1, hk, rfl⟩ := hrel
    by_cases hlt : k < l.length
    · obtain ⟨j, rfl⟩ : ∃ j, k = j + 1 := ⟨k - 1, by omega⟩
      obtain ⟨p0, p1, p2⟩ := ItmsR.cells (HR.out.below hB (Nat.le_refl _)) j (by omega)
      obtain ⟨q0, q1, q2⟩ := ItmsR.cells (HR.out.below hB (Nat.le_refl _)) (j + 1) hlt
      have hrise := rise_one HT.out hlt
      have hnm := name_two HT.out hlt
      have hsx := HS.out.2 _ (getD_mem l noItm j (by omega))
      have hsy := HS.out.2 _ (getD_mem l noItm (j + 1) hlt)
      obtain ⟨x, hx⟩ : ∃ x, x = l.getD j noItm := ⟨_, rfl⟩
      obtain ⟨y, hy⟩ : ∃ y, y = l.getD (j + 1) noItm := ⟨_, rfl⟩
      rw [← hx] at p0 p1 p2 hrise hnm hsx
      rw [← hy] at q0 q1 q2 hrise hnm hsy
      obtain ⟨m1, n1, i1⟩ := x
      obtain ⟨m2, n2, i2⟩ := y
      unfold SV at p1 p2 q1 q2
      unfold keyL at hrise
      simp only at p0 p1 p2 q0 q1 q2 hrise hnm hsx hsy
      obtain ⟨z1, _⟩ := hsx
      obtain ⟨z2, _⟩ := hsy
      have e1 : IntKind.i64.wrap (((j + 1 : Nat) : Int) - 1) = (j : Int) := by rw [IntWalk.i64_in _ (by omega)]; omega
      have e2 : ((j + 1 : Nat) : Int) - 1 = (j : Int) := by omega
      have c1 := cat_run n1 [47] ⟨(n1 ++ [47]).toArray⟩ rfl (by omega) (by simp)
      have c2 := cat_run n2 [47] ⟨(n2 ++ [47]).toArray⟩ rfl (by omega) (by simp)
      have HB := Lib.hid hB
      clear hx hy hB
      have gl1 : g < wr.heap.size := by have := HB.out.size; omega
      by_cases a1 : m1 = 3 <;> by_cases a2 : m2 = 3
      all_goals
        simp only [a1, a2, ↓reduceIte] at hrise
        rw [← less_before] at hrise
        first | (have b1 : (m1 == 3) = false := by simpa using a1) | skip
        first | (have b2 : (m2 == 3) = false := by simpa using a2) | skip
        first | subst a1 | clear a1
        first | subst a2 | clear a2
        go_wp2_with fail
        go_quiet (fail)
        clear hrise hnm c1 c2 p0 p1 p2 q0 q1 q2 e1 e2
        go_wp2_with fail
        go_roundw
        case rel => exact ⟨below_drewN HB.out _, j + 1 + 1, by omega, by omega, by go_num⟩
        case measure => simp [intOf]; omega
    · obtain rfl : k = l.length := by omega
      have HB := Lib.hid hB
      clear hlt hB hk hk1
      obtain ⟨kk, hkk⟩ : ∃ kk, kk = at_ % l.length := ⟨_, rfl⟩
      have hkl : kk < l.length := by rw [hkk]; exact Nat.mod_lt _ hl1
      have n1 : (at_ : Int) % (l.length : Int) = (kk : Int) := by rw [hkk]; exact (Int.natCast_emod _ _).symm
      have n2 : Int.tmod (at_ : Int) (l.length : Int) = (kk : Int) := (Int.tmod_eq_emod_of_nonneg (by omega)).trans n1
      obtain ⟨less, hless⟩ : ∃ less, less = putT (l.take kk ++ l.drop (kk + 1)) := ⟨_, rfl⟩
      have HLess : Hid (∀ W (u : Value), Below w.heap.size w W → ItmsR W u (l.take kk ++ l.drop (kk + 1)) → Calls Tryz.prog 19 #[u] W (RetBelow (.tuple #[.string ⟨less.toArray⟩, .bool true]) W)) := Lib.hid fun W u hW hu => by
        have h := HPm.out HS.out (l.take kk ++ l.drop (kk + 1)) (fun x hx => by
          rcases List.mem_append.1 hx with h | h
          · exact List.mem_of_mem_take h
          · exact List.mem_of_mem_drop h) (by rw [List.length_append, List.length_take, List.length_drop]; omega) W u hW hu
        rw [putTV_yes (rightT_less HT.out kk), ← hless] at h; exact h
      obtain ⟨x, hx⟩ : ∃ x, x = l.getD kk noItm := ⟨_, rfl⟩
      have HTwice : Hid (∀ W (u : Value), Below w.heap.size w W → ItmsR W u (l ++ [x]) → Calls Tryz.prog 19 #[u] W (RetBelow (.tuple #[.string ⟨#[]⟩, .bool false]) W)) := Lib.hid fun W u hW hu => by
        have h := HPm.out HS.out (l ++ [x]) (fun y hy => by
          rcases List.mem_append.1 hy with h | h
          · exact h
          · rw [List.mem_singleton.1 h, hx]; exact getD_mem l noItm kk hkl) (by rw [List.length_append]; simp; omega) W u hW hu
        rw [putTV_no (by rw [hx]; exact rightT_twice hkl)] at h; exact h
      have HX : Hid (∀ W, Below w.heap.size w W → (Instr.loadAt 54 (.pointer (some ⟨g, o + kk * 3, none⟩))).run Tryz.prog W = .ok (.agg #[.int .i64 x.mode, .string ⟨x.name.toArray⟩, .string ⟨x.id.toArray⟩]) W) := Lib.hid fun W hW => by
        obtain ⟨p0, p1, p2⟩ := ItmsR.cells (HR.out.below hW (Nat.le_refl _)) kk hkl
        rw [← hx] at p0 p1 p2
        unfold SV at p1 p2
        simp [go_sem, p0, p1, p2]
      obtain ⟨a2, ha⟩ : ∃ a2 : Addr, a2 = if c = kk + 1 then ⟨g, o, none⟩ else ⟨g, o + (kk + 1) * 3, none⟩ := ⟨_, rfl⟩
      have ha2 : ∀ W : World, (Instr.sliceAt 30 (.slice (some ⟨g, o, none⟩) l.length c) (some (.int .i64 ((kk + 1 : Nat) : Int))) none none).run Tryz.prog W = .ok (.slice (some a2) (l.length - (kk + 1)) (c - (kk + 1))) W := fun W => by
        rw [ha]; exact cut_hi W g o l.length c (kk + 1) (by omega)
      have hd2 : ∀ W, Below w.heap.size w W → ∀ j u, ((l.drop (kk + 1)).flatMap itmC)[j]? = some u → W.cell? (a2.add j) = some u := fun W hW j u hj => by
        by_cases hcc : c = kk + 1
        · rw [List.drop_eq_nil_of_le (by omega)] at hj
          simp at hj
        · rw [ha, if_neg hcc, add_none']
          exact (HR.out.below hW (Nat.le_refl _)).drop' rfl hl1 (kk + 1) (by omega) j u hj itmC_len (by decide)
      obtain ⟨xm, xn, xi⟩ := x
      simp only at HX
      clear hkk hless hx ha HPm
      go_wp2_with fail
      clear n1 n2
      refine AnyK.start w.heap.size w (by kernel_rfl) ?_
      have LD := Lib.hid ((HB.out).trans ((show Below wr.heap.size wr wr.drew from (Below.refl _ _).drew).mono HB.out.size))
      generalize wr.drew = wd at LD ⊢
      refine AnyK.take 1 (.slice (some ⟨g, o, none⟩) l.length c) (LD.out) rfl (by kernel_rfl) (by kernel_rfl) (by kernel_rfl) (fun _ _ _ h => h) (by kernel_rfl) (fun W hW => by kernel_rfl) ?_
      refine AnyK.take 2 (.int .i64 (kk : Int)) (LD.out) rfl (by kernel_rfl) (by kernel_rfl) (by kernel_rfl) (fun _ _ _ h => h) (by kernel_rfl) (fun W hW => by kernel_rfl) ?_
      refine AnyK.take 3 (.slice (some ⟨g, o, none⟩) kk c) (LD.out) rfl (by kernel_rfl) (by kernel_rfl) (by kernel_rfl) (fun _ _ _ h => h) (by kernel_rfl) (fun W hW => y_slice (xv := .slice (some ⟨g, o, none⟩) l.length c) (lv := none) (hv := some (.int .i64 (kk : Int))) (mv := none) rfl (by kernel_rfl) rfl (by kernel_rfl) rfl (cut_lo W g o l.length c kk (by omega) (by omega))) ?_
      refine AnyK.take 5 (.slice (some ⟨g, o, none⟩) l.length c) (LD.out) rfl (by kernel_rfl) (by kernel_rfl) (by kernel_rfl) (fun _ _ _ h => h) (by kernel_rfl) (fun W hW => by kernel_rfl) ?_
      refine AnyK.take 6 (.int .i64 (kk : Int)) (LD.out) rfl (by kernel_rfl) (by kernel_rfl) (by kernel_rfl) (fun _ _ _ h => h) (by kernel_rfl) (fun W hW => by kernel_rfl) ?_
      refine AnyK.take 7 (.int .i64 ((kk + 1 : Nat) : Int)) (LD.out) rfl (by kernel_rfl) (by kernel_rfl) (by kernel_rfl) (fun _ _ _ h => h) (by kernel_rfl) (fun W hW => y_bin (x := .int .i64 (kk : Int)) (y := .int .i64 1) rfl (by kernel_rfl) (by kernel_rfl) rfl (add_one W kk (by omega))) ?_
      refine AnyK.take 8 (.slice (some a2) (l.length - (kk + 1)) (c - (kk + 1))) (LD.out) rfl (by kernel_rfl) (by kernel_rfl) (by kernel_rfl) (fun _ _ _ h => h) (by kernel_rfl) (fun W hW => y_slice (xv := .slice (some ⟨g, o, none⟩) l.length c) (lv := some (.int .i64 ((kk + 1 : Nat) : Int))) (hv := none) (mv := none) rfl (by kernel_rfl) (by kernel_rfl) rfl rfl (ha2 W)) ?_
      refine AnyK.op 0 (.slice (some ⟨wd.heap.size, 0, none⟩) 0 0) (wd.alloc (.cells #[] 54)) (by kernel_rfl) rfl (by kernel_rfl) (y_build rfl (by kernel_rfl) (build0 wd)) (LD.out.trans ((below_new wd _).mono LD.out.size)) ?_
      have M0 := below_new wd (.cells #[] 54)
      have M1 := Lib.hid (LD.out.trans (M0.mono LD.out.size))
      obtain ⟨v1, wa, g1, o1, b1, _⟩ := run_appK itmK (OwK.new0 wd wd.heap.size (Nat.le_refl _)) ⟨g, o, none⟩ kk c (m := l.take kk) (by rw [List.length_take]; omega) (fun j u hj => by rw [add_none']; exact (HR.out.below M1.out (Nat.le_refl _)).take' rfl hl1 kk (by omega) j u hj itmC_len (by decide)) (by simp; have := HS.out.1; omega) (by decide) M0.size 30
      refine AnyK.op 4 v1 wa (by kernel_rfl) rfl (by kernel_rfl) (y_append rfl (by kernel_rfl) (by kernel_rfl) g1) (LD.out.trans ((M0.trans b1).mono LD.out.size)) ?_
      have M2 := Lib.hid (LD.out.trans ((M0.trans b1).mono LD.out.size))
      obtain ⟨v2, wb, g2, o2, b2, _⟩ := run_appK itmK o1 a2 (l.length - (kk + 1)) (c - (kk + 1)) (m := l.drop (kk + 1)) (by rw [List.length_drop]) (fun j u hj => hd2 wa M2.out j u hj) (by simp; have := HS.out.1; omega) (by decide) (M0.trans b1).size 30
      refine AnyK.op 9 v2 wb (by kernel_rfl) rfl (by kernel_rfl) (y_append rfl (by kernel_rfl) (by kernel_rfl) g2) (LD.out.trans (((M0.trans b1).trans b2).mono LD.out.size)) ?_
      have M3 := Lib.hid (LD.out.trans (((M0.trans b1).trans b2).mono LD.out.size))
      have hc1 := HLess.out wb v2 M3.out (by have h := o2.rd itmC_len; rw [List.nil_append] at h; exact h)
      refine AnyK.call 10 19 #[v2] (by kernel_rfl) rfl (by kernel_rfl) (by kernel_rfl) (hc1.mono ?_)
      rintro e wc ⟨rfl, lc⟩
      have MC := Lib.hid (M3.out.trans (lc.mono M3.out.size))
      refine ⟨_, rfl, MC.out, ?_⟩
      clear hc1 lc g1 o1 b1 g2 o2 b2 M0 M1 M2 M3 LD
      refine AnyK.take 11 (.tuple #[.string ⟨less.toArray⟩, .bool true]) (MC.out) rfl (by kernel_rfl) (by kernel_rfl) (by kernel_rfl) (fun _ _ _ h => h) (by kernel_rfl) (fun W hW => by kernel_rfl) ?_
      refine AnyK.take 12 (.string ⟨less.toArray⟩) (MC.out) rfl (by kernel_rfl) (by kernel_rfl) (by kernel_rfl) (fun _ _ _ h => h) (by kernel_rfl) (fun W hW => by kernel_rfl) ?_
      refine AnyK.take 13 (.bool true) (MC.out) rfl (by kernel_rfl) (by kernel_rfl) (by kernel_rfl) (fun _ _ _ h => h) (by kernel_rfl) (fun W hW => by kernel_rfl) ?_
      refine AnyK.take 14 (.string ⟨less.toArray⟩) (MC.out) rfl (by kernel_rfl) (by kernel_rfl) (by kernel_rfl) (fun _ _ _ h => h) (by kernel_rfl) (fun W hW => by kernel_rfl) ?_
      refine AnyK.take 15 (.bool true) (MC.out) rfl (by kernel_rfl) (by kernel_rfl) (by kernel_rfl) (fun _ _ _ h => h) (by kernel_rfl) (fun W hW => by kernel_rfl) ?_
      refine AnyK.done _ (by kernel_rfl) ?_
      go_simp
      go_wp2_with fail
      refine AnyK.start w.heap.size w (by kernel_rfl) ?_
      have LD := Lib.hid (MC.out.trans ((show Below wc.heap.size wc wc.drew from (Below.refl _ _).drew).mono MC.out.size))
      generalize wc.drew = wd at LD ⊢
      refine AnyK.take 1 (.slice (some ⟨g, o, none⟩) l.length c) (LD.out) rfl (by kernel_rfl) (by kernel_rfl) (by kernel_rfl) (fun _ _ _ h => h) (by kernel_rfl) (fun W hW => by kernel_rfl) ?_
      refine AnyK.take 3 (.slice (some ⟨g, o, none⟩) l.length c) (LD.out) rfl (by kernel_rfl) (by kernel_rfl) (by kernel_rfl) (fun _ _ _ h => h) (by kernel_rfl) (fun W hW => by kernel_rfl) ?_
      refine AnyK.take 4 (.int .i64 (kk : Int)) (LD.out) rfl (by kernel_rfl) (by kernel_rfl) (by kernel_rfl) (fun _ _ _ h => h) (by kernel_rfl) (fun W hW => by kernel_rfl) ?_
      refine AnyK.take 5 (.pointer (some ⟨g, o + kk * 3, none⟩)) (LD.out) rfl (by kernel_rfl) (by kernel_rfl) (by kernel_rfl) (fun _ _ _ h => h) (by kernel_rfl) (fun W hW => y_index (sv := .slice (some ⟨g, o, none⟩) l.length c) (iv := .int .i64 (kk : Int)) rfl (by kernel_rfl) (by kernel_rfl) (at_one W g o l.length c kk hkl)) ?_
      refine AnyK.take 6 (.agg #[.int .i64 xm, .string ⟨xn.toArray⟩, .string ⟨xi.toArray⟩]) (LD.out) rfl (by kernel_rfl) (by kernel_rfl) (by kernel_rfl) (fun _ _ _ h => h) (by kernel_rfl) (fun W hW => y_load (sv := .pointer (some ⟨g, o + kk * 3, none⟩)) rfl (by kernel_rfl) (HX.out W hW)) ?_
      have P0 := below_new wd (.cells #[] 54)
      have P1 := below_new wd (.cells #[.int .i64 xm, .string ⟨xn.toArray⟩, .string ⟨xi.toArray⟩] 54)
      refine AnyK.two 0 7 (by kernel_rfl) (.slice (some ⟨wd.heap.size, 0, none⟩) 0 0) (.slice (some ⟨wd.heap.size, 0, none⟩) 1 1) (wd.alloc (.cells #[] 54)) (wd.alloc (.cells #[.int .i64 xm, .string ⟨xn.toArray⟩, .string ⟨xi.toArray⟩] 54)) rfl rfl (by kernel_rfl) (by kernel_rfl) (y_build rfl (by kernel_rfl) (build0 wd)) (y_build rfl (by kernel_rfl) (build1 wd xm xn xi)) (LD.out.trans (P0.mono LD.out.size)) (LD.out.trans (P1.mono LD.out.size)) ?_ ?_
      · have hn := OwK.new0 (t := 54) (k := 3) (f := itmC) wd wd.heap.size (Nat.le_refl _)
        have hlt4 : wd.heap.size < (wd.alloc (.cells #[] 54)).heap.size := by simp
        generalize wd.alloc (.cells #[] 54) = w5 at P0 hn hlt4 ⊢
        clear P1
        obtain ⟨v1, wa, g1, o1, b1, r1⟩ := run_appK itmK hn ⟨g, o, none⟩ l.length c (m := l) rfl (fun j u hj => by rw [add_none']; have h := (HR.out.below (LD.out.trans (P0.mono LD.out.size)) (Nat.le_refl _)).take' rfl hl1 l.length (Nat.le_refl _) j u (by rw [List.take_length]; exact hj) itmC_len (by decide); exact h) (by simp; have := HS.out.1; omega) (by decide) P0.size 30
        refine AnyK.two 2 7 (by kernel_rfl) v1 (.slice (some ⟨w5.heap.size, 0, none⟩) 1 1) wa (w5.alloc (.cells #[.int .i64 xm, .string ⟨xn.toArray⟩, .string ⟨xi.toArray⟩] 54)) rfl rfl (by kernel_rfl) (by kernel_rfl) (y_append rfl (by kernel_rfl) (by kernel_rfl) g1) (y_build rfl (by kernel_rfl) (build1 w5 xm xn xi)) (LD.out.trans ((P0.trans b1).mono LD.out.size)) (LD.out.trans ((P0.trans ((below_new w5 _).mono P0.size)).mono LD.out.size)) ?_ ?_
        · have P2 := P0.trans b1
          refine AnyK.op 7 (.slice (some ⟨wa.heap.size, 0, none⟩) 1 1) (wa.alloc (.cells #[.int .i64 xm, .string ⟨xn.toArray⟩, .string ⟨xi.toArray⟩] 54)) (by kernel_rfl) rfl (by kernel_rfl) (y_build rfl (by kernel_rfl) (build1 wa xm xn xi)) (LD.out.trans ((P2.trans ((below_new wa _).mono P2.size)).mono LD.out.size)) ?_
          have P3 := P2.trans ((below_new wa (.cells #[.int .i64 xm, .string ⟨xn.toArray⟩, .string ⟨xi.toArray⟩] 54)).mono P2.size)
          have o2 := o1.below (below_new wa (.cells #[.int .i64 xm, .string ⟨xn.toArray⟩, .string ⟨xi.toArray⟩] 54)) (Nat.le_refl _)
          have k2 := lit_cells wa xm xn xi
          clear g1 o1 b1 r1 hn
          obtain ⟨v3, we, g3, o3, b3, _⟩ := run_appK itmK o2 ⟨wa.heap.size, 0, none⟩ 1 1 (m := [⟨xm, xn, xi⟩]) rfl k2 (by simp; have := HS.out.1; omega) (by decide) P3.size 30
          refine AnyK.op 8 v3 we (by kernel_rfl) rfl (by kernel_rfl) (y_append rfl (by kernel_rfl) (by kernel_rfl) g3) (LD.out.trans ((P3.trans b3).mono LD.out.size)) ?_
          have ME := Lib.hid (LD.out.trans ((P3.trans b3).mono LD.out.size))
          have hc1 := HTwice.out we v3 ME.out (by have h := o3.rd itmC_len; rw [List.nil_append] at h; exact h)
          refine AnyK.call 9 19 #[v3] (by kernel_rfl) rfl (by kernel_rfl) (by kernel_rfl) (hc1.mono ?_)
          rintro e wf ⟨rfl, lf⟩
          have MF := Lib.hid (ME.out.trans (lf.mono ME.out.size))
          refine ⟨_, rfl, MF.out, ?_⟩
          clear hc1 lf g3 o3 b3
          refine AnyK.take 10 (.tuple #[.string ⟨#[]⟩, .bool false]) (MF.out) rfl (by kernel_rfl) (by kernel_rfl) (by kernel_rfl) (fun _ _ _ h => h) (by kernel_rfl) (fun W hW => by kernel_rfl) ?_
          refine AnyK.take 11 (.string ⟨#[]⟩) (MF.out) rfl (by kernel_rfl) (by kernel_rfl) (by kernel_rfl) (fun _ _ _ h => h) (by kernel_rfl) (fun W hW => by kernel_rfl) ?_
          refine AnyK.take 12 (.bool false) (MF.out) rfl (by kernel_rfl) (by kernel_rfl) (by kernel_rfl) (fun _ _ _ h => h) (by kernel_rfl) (fun W hW => by kernel_rfl) ?_
          refine AnyK.take 13 (.string ⟨#[]⟩) (MF.out) rfl (by kernel_rfl) (by kernel_rfl) (by kernel_rfl) (fun _ _ _ h => h) (by kernel_rfl) (fun W hW => by kernel_rfl) ?_
          refine AnyK.take 14 (.bool false) (MF.out) rfl (by kernel_rfl) (by kernel_rfl) (by kernel_rfl) (fun _ _ _ h => h) (by kernel_rfl) (fun W hW => by kernel_rfl) ?_
          refine AnyK.done _ (by kernel_rfl) ?_
          go_simp
          go_wp2_with fail
          go_ret
          exact ⟨rfl, MF.out⟩
        · clear g1 o1 b1 r1 v1 wa
          have k1 := lit_cells w5 xm xn xi
          have hn2 := hn.below (below_new w5 (.cells #[.int .i64 xm, .string ⟨xn.toArray⟩, .string ⟨xi.toArray⟩] 54)) (Nat.le_refl _)
          have P2 := P0.trans ((below_new w5 (.cells #[.int .i64 xm, .string ⟨xn.toArray⟩, .string ⟨xi.toArray⟩] 54)).mono P0.size)
          have h5 : w5.heap.size < (w5.alloc (.cells #[.int .i64 xm, .string ⟨xn.toArray⟩, .string ⟨xi.toArray⟩] 54)).heap.size := by simp
          generalize w5.alloc (.cells #[.int .i64 xm, .string ⟨xn.toArray⟩, .string ⟨xi.toArray⟩] 54) = w6 at P2 hn2 k1 h5 ⊢
          obtain ⟨v1, wa, g1, o1, b1, r1⟩ := run_appK itmK hn2 ⟨g, o, none⟩ l.length c (m := l) rfl (fun j u hj => by rw [add_none']; have h := (HR.out.below (LD.out.trans (P2.mono LD.out.size)) (Nat.le_refl _)).take' rfl hl1 l.length (Nat.le_refl _) j u (by rw [List.take_length]; exact hj) itmC_len (by decide); exact h) (by simp; have := HS.out.1; omega) (by decide) P2.size 30
          refine AnyK.op 2 v1 wa (by kernel_rfl) rfl (by kernel_rfl) (y_append rfl (by kernel_rfl) (by kernel_rfl) g1) (LD.out.trans ((P2.trans b1).mono LD.out.size)) ?_
          have P3 := P2.trans b1
          have k2 := k1.block (r1.block w5.heap.size h5 (fun e => by have e2 : w5.heap.size = wd.heap.size := Option.some.inj e; omega))
          obtain ⟨v3, we, g3, o3, b3, _⟩ := run_appK itmK o1 ⟨w5.heap.size, 0, none⟩ 1 1 (m := [⟨xm, xn, xi⟩]) rfl k2 (by simp; have := HS.out.1; omega) (by decide) P3.size 30
          refine AnyK.op 8 v3 we (by kernel_rfl) rfl (by kernel_rfl) (y_append rfl (by kernel_rfl) (by kernel_rfl) g3) (LD.out.trans ((P3.trans b3).mono LD.out.size)) ?_
          have ME := Lib.hid (LD.out.trans ((P3.trans b3).mono LD.out.size))
          have hc1 := HTwice.out we v3 ME.out (by have h := o3.rd itmC_len; rw [List.nil_append] at h; exact h)
          refine AnyK.call 9 19 #[v3] (by kernel_rfl) rfl (by kernel_rfl) (by kernel_rfl) (hc1.mono ?_)
          rintro e wf ⟨rfl, lf⟩
          have MF := Lib.hid (ME.out.trans (lf.mono ME.out.size))
          refine ⟨_, rfl, MF.out, ?_⟩
          clear hc1 lf g3 o3 b3
          refine AnyK.take 10 (.tuple #[.string ⟨#[]⟩, .bool false]) (MF.out) rfl (by kernel_rfl) (by kernel_rfl) (by kernel_rfl) (fun _ _ _ h => h) (by kernel_rfl) (fun W hW => by kernel_rfl) ?_
          refine AnyK.take 11 (.string ⟨#[]⟩) (MF.out) rfl (by kernel_rfl) (by kernel_rfl) (by kernel_rfl) (fun _ _ _ h => h) (by kernel_rfl) (fun W hW => by kernel_rfl) ?_
          refine AnyK.take 12 (.bool false) (MF.out) rfl (by kernel_rfl) (by kernel_rfl) (by kernel_rfl) (fun _ _ _ h => h) (by kernel_rfl) (fun W hW => by kernel_rfl) ?_
          refine AnyK.take 13 (.string ⟨#[]⟩) (MF.out) rfl (by kernel_rfl) (by kernel_rfl) (by kernel_rfl) (fun _ _ _ h => h) (by kernel_rfl) (fun W hW => by kernel_rfl) ?_
          refine AnyK.take 14 (.bool false) (MF.out) rfl (by kernel_rfl) (by kernel_rfl) (by kernel_rfl) (fun _ _ _ h => h) (by kernel_rfl) (fun W hW => by kernel_rfl) ?_
          refine AnyK.done _ (by kernel_rfl) ?_
          go_simp
          go_wp2_with fail
          go_ret
          exact ⟨rfl, MF.out⟩
      · have k1 := lit_cells wd xm xn xi
        have h5 : wd.heap.size < (wd.alloc (.cells #[.int .i64 xm, .string ⟨xn.toArray⟩, .string ⟨xi.toArray⟩] 54)).heap.size := by simp
        generalize wd.alloc (.cells #[.int .i64 xm, .string ⟨xn.toArray⟩, .string ⟨xi.toArray⟩] 54) = w5 at P1 k1 h5 ⊢
        clear P0
        refine AnyK.op 0 (.slice (some ⟨w5.heap.size, 0, none⟩) 0 0) (w5.alloc (.cells #[] 54)) (by kernel_rfl) rfl (by kernel_rfl) (y_build rfl (by kernel_rfl) (build0 w5)) (LD.out.trans ((P1.trans ((below_new w5 _).mono P1.size)).mono LD.out.size)) ?_
        have hn := OwK.new0 (t := 54) (k := 3) (f := itmC) w5 w5.heap.size (Nat.le_refl _)
        have Q0 := below_new w5 (.cells #[] 54)
        have P2 := P1.trans (Q0.mono P1.size)
        generalize w5.alloc (.cells #[] 54) = w6 at P2 Q0 hn ⊢
        obtain ⟨v1, wa, g1, o1, b1, r1⟩ := run_appK itmK hn ⟨g, o, none⟩ l.length c (m := l) rfl (fun j u hj => by rw [add_none']; have h := (HR.out.below (LD.out.trans (P2.mono LD.out.size)) (Nat.le_refl _)).take' rfl hl1 l.length (Nat.le_refl _) j u (by rw [List.take_length]; exact hj) itmC_len (by decide); exact h) (by simp; have := HS.out.1; omega) (by decide) Q0.size 30
        refine AnyK.op 2 v1 wa (by kernel_rfl) rfl (by kernel_rfl) (y_append rfl (by kernel_rfl) (by kernel_rfl) g1) (LD.out.trans ((P1.trans ((Q0.trans b1).mono P1.size)).mono LD.out.size)) ?_
        have P3 := Q0.trans b1
        have k2 := k1.block (P3.block _ h5)
        have P4 := P1.trans (P3.mono P1.size)
        obtain ⟨v3, we, g3, o3, b3, _⟩ := run_appK itmK o1 ⟨wd.heap.size, 0, none⟩ 1 1 (m := [⟨xm, xn, xi⟩]) rfl k2 (by simp; have := HS.out.1; omega) (by decide) P3.size 30
        refine AnyK.op 8 v3 we (by kernel_rfl) rfl (by kernel_rfl) (y_append rfl (by kernel_rfl) (by kernel_rfl) g3) (LD.out.trans ((P4.trans (b3.mono P1.size)).mono LD.out.size)) ?_
        have ME := Lib.hid (LD.out.trans ((P4.trans (b3.mono P1.size)).mono LD.out.size))
        have hc1 := HTwice.out we v3 ME.out (by have h := o3.rd itmC_len; rw [List.nil_append] at h; exact h)
        refine AnyK.call 9 19 #[v3] (by kernel_rfl) rfl (by kernel_rfl) (by kernel_rfl) (hc1.mono ?_)
        rintro e wf ⟨rfl, lf⟩
        have MF := Lib.hid (ME.out.trans (lf.mono ME.out.size))
        refine ⟨_, rfl, MF.out, ?_⟩
        clear hc1 lf g3 o3 b3
        refine AnyK.take 10 (.tuple #[.string ⟨#[]⟩, .bool false]) (MF.out) rfl (by kernel_rfl) (by kernel_rfl) (by kernel_rfl) (fun _ _ _ h => h) (by kernel_rfl) (fun W hW => by kernel_rfl) ?_
        refine AnyK.take 11 (.string ⟨#[]⟩) (MF.out) rfl (by kernel_rfl) (by kernel_rfl) (by kernel_rfl) (fun _ _ _ h => h) (by kernel_rfl) (fun W hW => by kernel_rfl) ?_
        refine AnyK.take 12 (.bool false) (MF.out) rfl (by kernel_rfl) (by kernel_rfl) (by kernel_rfl) (fun _ _ _ h => h) (by kernel_rfl) (fun W hW => by kernel_rfl) ?_
        refine AnyK.take 13 (.string ⟨#[]⟩) (MF.out) rfl (by kernel_rfl) (by kernel_rfl) (by kernel_rfl) (fun _ _ _ h => h) (by kernel_rfl) (fun W hW => by kernel_rfl) ?_
        refine AnyK.take 14 (.bool false) (MF.out) rfl (by kernel_rfl) (by kernel_rfl) (by kernel_rfl) (fun _ _ _ h => h) (by kernel_rfl) (fun W hW => by kernel_rfl) ?_
        refine AnyK.done _ (by kernel_rfl) ?_
        go_simp
        go_wp2_with fail
        go_ret
        exact ⟨rfl, MF.out⟩
end Go.Proofs.YtdkkeaaepebafaaGreatDoor
