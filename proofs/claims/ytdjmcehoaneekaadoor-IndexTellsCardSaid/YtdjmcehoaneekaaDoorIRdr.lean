/-
  The index: readRows.
-/
import Derived.Test.YtdjmcehoaneekaaDoorIWrt
import Derived.Test.YtdjmcehoaneekaaDoorITbl
import Derived.Test.YtdjmcehoaneekaaDoorIOne
import Derived.Laws.MakeOwn
namespace Go.Proofs.YtdjmcehoaneekaaDoor.Ix
open Go.Proofs.YtdjmcehoaneekaaDoor
open Go Go.RowKit

theorem rowK : ElK 42 48 33 40 rowC := ⟨Tryd.underlying42, ⟨.agg zRow, by kernel_rfl, by kernel_rfl⟩, by decide, rowC_len, fun x u hu => by
  have h := Array.all_eq_true_iff_forall_mem.1 (rowA_one x) u (by unfold rowC at hu; simpa using hu)
  exact h⟩
theorem own_rd {α : Type} {t : TypeId} {k : Nat} {f : α → List Value} (hf : ∀ x, (f x).length = k) {w : World} {base : Nat} {v : Value} {l : List α} (h : OwK t k f w base v l) : RdK k f w v l := by
  obtain ⟨h1, h2⟩ := h
  rcases h2 with ⟨rfl, h2⟩ | ⟨g, cap, cur, rfl, hb, hg, hn, hm, hs, ht⟩
  · exact .inl ⟨⟨_, _, rfl⟩, List.length_eq_zero_iff.1 h2⟩
  · refine .inr ⟨g, 0, cap, rfl, hn, lt_heap hg, fun j hj x hx i hi => ?_⟩
    rw [Nat.zero_add, cell_of_row w g (j * k + i) _ _ _ hg]
    have hlt : j * k + i < l.length * k := by
      have : (j + 1) * k ≤ l.length * k := Nat.mul_le_mul_right k hj
      rw [Nat.add_mul] at this; omega
    have h3 : (cur.toList.take (l.length * k))[j * k + i]? = (l.flatMap f)[j * k + i]? := by rw [ht]
    rw [List.getElem?_take, if_pos hlt, Array.getElem?_toList, flat_get hf l j x hx i hi] at h3
    exact h3
theorem OwnRows.rows {w : World} {B : Nat} {v : Value} {l : List Rw} (h : OwK 48 33 rowC w B v l) : RowsR w v l := own_rd rowC_len h
theorem cut_two (W : World) (g o n c lo hi m : Nat) (h1 : lo < hi) (h2 : hi ≤ c) (hm : hi - lo = m) : (Instr.sliceAt 23 (.slice (some ⟨g, o, none⟩) n c) (some (.int .i64 (lo : Int))) (some (.int .i64 (hi : Int))) none).run Tryd.prog W = .ok (.slice (some ⟨g, o + lo, none⟩) m (c - lo)) W := by
  have e1 : (lo : Int) ≤ (hi : Int) := by omega
  have e2 : (hi : Int) ≤ (c : Int) := by omega
  have e3 : ¬ c = lo := by omega
  subst hm
  simp [go_sem, e1, e2, e3]
theorem cut_hi (W : World) (g o n c k : Nat) (hk : k < n) (hc : n ≤ c) : (Instr.sliceAt 23 (.slice (some ⟨g, o, none⟩) n c) (some (.int .i64 (k : Int))) none none).run Tryd.prog W = .ok (.slice (some ⟨g, o + k, none⟩) (n - k) (c - k)) W := by
  have e1 : (k : Int) ≤ (n : Int) := by omega
  have e3 : ¬ c = k := by omega
  simp [go_sem, e1, e3]
theorem arr_at (W : World) (g o c : Nat) : (Instr.arrayAt 45 (.slice (some ⟨g, o, none⟩) 32 c)).run Tryd.prog W = .ok (.pointer (some ⟨g, o, none⟩)) W := by
  simp [Instr.arrayAt, Sem.run_bind, run_underlying Tryd.underlying45]
theorem y_s2a {P : Program} {a : Go.Act} {o : Oper} {W : World} {t : TypeId} {x : Operand} {xv r : Value} (ho : o.op = .sliceToArrayPointer t x) (hx : a.eval x = xv) (h : (Instr.arrayAt t xv).run P W = .ok r W) : (execOp a.eval o).run P W = .ok (.value r) W := by
  subst hx
  simp only [execOp, ho]
  simp [h, Result.andThen]
theorem y_bld {P : Program} {a : Go.Act} {o : Oper} {W : World} {t : TypeId} {parts : Array (Nat × Operand)} {ps : Array (Nat × Value)} {r : Value} (ho : o.op = .build t parts) (hp : (parts.map fun (i, x) => (i, a.eval x)) = ps) (h : (Instr.build t ps).run P W = .ok r W) : (execOp a.eval o).run P W = .ok (.value r) W := by
  subst hp
  simp only [execOp, ho]
  simp [h, Result.andThen]
theorem y_bldS {P : Program} {a : Go.Act} {o : Oper} {W W' : World} {t : TypeId} {n : Nat} {parts : Array (Nat × Operand)} {ps : Array (Nat × Value)} {r : Value} (ho : o.op = .buildSlice t n parts) (hp : (parts.map fun (i, x) => (i, a.eval x)) = ps) (h : (Instr.buildSlice t n ps).run P W = .ok r W') : (execOp a.eval o).run P W = .ok (.value r) W' := by
  subst hp
  simp only [execOp, ho]
  simp [h, Result.andThen]
theorem built_row (s : Bs) (p : Nat) : Tryd.prog.built 48 [(0, .agg (sumA s)), (1, .int .i64 (p : Int))] = some (rowA ⟨s, p⟩) := by kernel_rfl
theorem bld_row (W : World) (s : Bs) (p : Nat) : (Instr.build 48 #[(0, .agg (sumA s)), (1, .int .i64 (p : Int))]).run Tryd.prog W = .ok (.agg (rowA ⟨s, p⟩)) W := run_build W _ _ _ (built_row s p)
theorem fill_row (r : Rw) : Instr.fill (fun i => some (i * 33, 33)) ((Array.range (1 * 33)).map (zRow[· % zRow.size]!)) [(0, .agg (rowA r))] = some (rowA r) := by
  obtain ⟨s, p⟩ := r
  kernel_rfl
theorem bldS_row (W : World) (r : Rw) : (Instr.buildSlice 42 1 #[(0, .agg (rowA r))]).run Tryd.prog W = .ok (.slice (some ⟨W.heap.size, 0, none⟩) 1 1) (W.alloc (.cells (rowA r) 48)) := by
  have hz := zeroRow.1
  have hs := aggRow.size
  have hf := fill_row r
  rw [Nat.one_mul] at hf
  have hc : (Value.agg zRow).cells = zRow := rfl
  simp only [Instr.buildSlice, Sem.run_bind, run_underlying Tryd.underlying42, hs, Result.andThen, Nat.one_mul]
  simp [Sem.run_bind, hz, hc, hf, Result.andThen]
  rfl
theorem make_rows (w : World) (B n : Nat) (hn : n ≤ 512) (hB : B ≤ w.heap.size) :
    ∃ w', (Instr.makeSlice 42 (.int .i64 0) (.int .i64 (n : Int))).run Tryd.prog w = .ok (.slice (some ⟨w.heap.size, 0, none⟩) 0 n) w' ∧ OwK 48 33 rowC w' B (.slice (some ⟨w.heap.size, 0, none⟩) 0 n) [] ∧ Below w.heap.size w w' := by
  obtain ⟨i, hi⟩ : ∃ i, Tryd.prog.info? 48 = some i := Option.isSome_iff_exists.1 (by kernel_rfl)
  have hi0 : (Tryd.prog.info? 48).map (fun i => (i.zero, i.size, i.bytes)) = some (some (.agg zRow), 33, 40) := by kernel_rfl
  rw [hi] at hi0
  simp only [Option.map_some, Option.some.injEq, Prod.mk.injEq] at hi0
  obtain ⟨hz, hs, hb⟩ := hi0
  obtain ⟨w', h1, h2, h3⟩ := run_make_own (P := Tryd.prog) w B 42 48 i (.agg zRow) 33 Tryd.underlying42 hi hz hs .i64 .i64 n (by rw [hb]; omega) (by unfold maxLen; omega) hB
  exact ⟨w', h1, h2, h3.os, h3.tape, h3.output, h3.size, fun k hk => h3.block k hk (by simp)⟩

/-- What readRows gives. -/
def RdrPost (b : Bs) (w : World) (e : Ending) (w' : World) : Prop :=
  Below w.heap.size w w' ∧ ((∃ rows v, rowsL b = some rows ∧ e = .returned (.tuple #[v, .bool true]) ∧ OwK 48 33 rowC w' w.heap.size v rows) ∨ (rowsL b = none ∧ e = .returned (.tuple #[.slice none 0 0, .bool false])))
def rowsTo (b : Bs) (k : Nat) : List Rw := (List.range k).map (rowAt b)
theorem rowsTo_succ (b : Bs) (k : Nat) : rowsTo b (k + 1) = rowsTo b k ++ [rowAt b k] := by unfold rowsTo; rw [List.range_succ, List.map_append]; rfl
theorem rowsTo_len (b : Bs) (k : Nat) : (rowsTo b k).length = k := by simp [rowsTo]
theorem rowsL_none {b : Bs} (h : ¬ (544 ≤ b.length ∧ (b.length - 544) % 34 = 0 ∧ (b.length - 544) / 34 ≤ 512)) : rowsL b = none := by unfold rowsL; rw [if_neg h]
theorem rowsL_some {b : Bs} {n : Nat} (h1 : b.length = 544 + n * 34) (h2 : n ≤ 512) : rowsL b = some (rowsTo b n) := by
  unfold rowsL
  have e : (b.length - 544) / 34 = n := by omega
  rw [e, if_pos ⟨by omega, by omega, h2⟩]; rfl
theorem rb_drop {w : World} {g o c : Nat} {b : Bs} {N : Nat} (h : Rb w (.slice (some ⟨g, o, none⟩) N c) b) (k : Nat) (hN : N = b.length) (hk : k < N) : Rb w (.slice (some ⟨g, o + k, none⟩) (N - k) (c - k)) (b.drop k) := by
  subst hN
  rcases h with ⟨⟨A, e⟩, rfl⟩ | ⟨g', o', c', e, hc, hg, hcell⟩
  · simp at hk
  · cases e
    refine .inr ⟨g, o + k, c - k, by rw [List.length_drop], by rw [List.length_drop]; omega, hg, fun j hj => ?_⟩
    rw [List.length_drop] at hj
    rw [Nat.add_assoc, hcell (k + j) (by omega), List.getD_eq_getElem?_getD, List.getD_eq_getElem?_getD, List.getElem?_drop]
theorem at_sum {w : World} {g o c : Nat} {b : Bs} {N : Nat} (h : Rb w (.slice (some ⟨g, o, none⟩) N c) b) (k : Nat) (hN : N = b.length) (hk : k + 32 ≤ N) : At w g (o + k) (sumA ((b.drop k).take 32)) := by
  subst hN
  rcases h with ⟨⟨A, e⟩, rfl⟩ | ⟨g', o', c', e, hc, hg, hcell⟩
  · simp at hk
  · cases e
    intro j v hj
    have hj2 : j < 32 := by rw [← sumA_size ((b.drop k).take 32)]; exact (Array.getElem?_eq_some_iff.1 hj).1
    rw [sumA_get _ _ hj2] at hj
    rw [Nat.add_assoc, hcell (k + j) (by omega), ← hj]
    unfold gd
    rw [List.getD_eq_getElem?_getD, List.getD_eq_getElem?_getD, List.getElem?_take_of_lt hj2, List.getElem?_drop]
set_option maxRecDepth 100000 in
set_option maxHeartbeats 4000000 in
theorem readRows_any {w : World} {v : Value} {b : Bs} (hv : Rb w v b) (hl : b.length ≤ 1000000) : Calls Tryd.prog 46 #[v] w (RdrPost b w) := by
  obtain ⟨A, c, rfl⟩ := hv.shape
  obtain ⟨L, hL⟩ : ∃ L, L = b.length := ⟨_, rfl⟩
  rw [← hL] at hl ⊢
  by_cases h1 : 544 ≤ L
  · obtain ⟨m, hm⟩ : ∃ m, L = 544 + m := ⟨L - 544, by omega⟩
    by_cases h2 : m % 34 = 0
    · obtain ⟨n, hn⟩ : ∃ n, m = n * 34 := ⟨m / 34, by omega⟩
      have g1 : IntKind.i64.wrap ((L : Int) - 512) = (L : Int) - 512 := IntWalk.i64_in _ (by omega)
      have g2 : IntKind.i64.wrap ((L : Int) - 512 - 32) = (m : Int) := by rw [IntWalk.i64_in _ (by omega)]; omega
      have g3 : (m : Int) / 34 = (n : Int) := by omega
      have g3' : (m : Int).tdiv 34 = (n : Int) := by rw [Int.tdiv_eq_ediv_of_nonneg (by omega)]; omega
      have g4 : (m : Int) % 34 = 0 := by omega
      have g4' : (m : Int).tmod 34 = 0 := by rw [Int.tmod_eq_emod_of_nonneg (by omega)]; omega
      have m0 : 0 ≤ (m : Int) := by omega
      have hnb : n ≤ 1000000 := by omega
      by_cases h3 : 512 < n
      · have d1 : decide ((512 : Int) < (n : Int)) = true := decide_eq_true (by omega)
        have HNo : Hid (rowsL b = none) := Lib.hid (rowsL_none (by omega))
        clear hv hm hn h2 hL
        go_enter Tryd.func46, Tryd.ntmps46
        go_wp2
        go_ret2
        exact ⟨Below.refl _ _, .inr ⟨HNo.out, rfl⟩⟩
      · have d1 : decide ((512 : Int) < (n : Int)) = false := decide_eq_false (by omega)
        have HYes : Hid (rowsL b = some (rowsTo b n)) := Lib.hid (rowsL_some (by omega) (by omega))
        obtain ⟨wm, hmk, hmo, hml⟩ := make_rows w w.heap.size n (by omega) (Nat.le_refl _)
        have hLc : L ≤ c := by
          rcases hv with ⟨⟨A', e⟩, rfl⟩ | ⟨g, o, c', e, hc, _⟩
          · simp at hL; omega
          · cases e; omega
        obtain ⟨g, o, rfl⟩ : ∃ g o, A = some ⟨g, o, none⟩ := by
          rcases hv with ⟨⟨A', e⟩, rfl⟩ | ⟨g, o, c', e, hc, _⟩
          · simp at hL; omega
          · cases e; exact ⟨g, o, rfl⟩
        have hgl : g < w.heap.size := by
          rcases hv with ⟨⟨A', e⟩, rfl⟩ | ⟨g', o', c', e, hc, hg, _⟩
          · simp at hL; omega
          · cases e; exact hg
        obtain ⟨G1, hG1⟩ : ∃ G, G = w.heap.size := ⟨_, rfl⟩
        rw [← hG1] at hmk hmo
        have hn5 : n ≤ 512 := by omega
        have hLn : L = 544 + n * 34 := by omega
        have HV : Hid (Rb w (.slice (some ⟨g, o, none⟩) L c) b) := Lib.hid (by rw [hL]; exact hv)
        have HM : Hid (OwK 48 33 rowC wm w.heap.size (.slice (some ⟨G1, 0, none⟩) 0 n) (rowsTo b 0)) := Lib.hid (by rw [hG1] at hmo ⊢; exact hmo); have HB := Lib.hid hml; have HL := Lib.hid hL; have HLn := Lib.hid hLn; have HGl := Lib.hid hgl
        clear hv hm hn h2 hL hLn hmo hml hG1 hgl h3
        go_enter Tryd.func46, Tryd.ntmps46
        go_wp2
        go_loopw [6, 7, 8, 9, 30] (fun z _ _ _ i wr => ∃ k : Nat, k ≤ n ∧ i = .int .i64 k ∧ Hid (Below w.heap.size w wr) ∧ Hid (OwK 48 33 rowC wr w.heap.size z (rowsTo b k))) (fun _ _ _ _ i _ => n - (intOf i).toNat)
        case atStart => exact ⟨0, Nat.zero_le _, rfl, HB, HM⟩
        case round =>
          clear HB HM hmk
          obtain ⟨k, hk, rfl, hB, ho⟩ := hrel
          by_cases hlt : k < n
          · obtain ⟨lo, hlo⟩ : ∃ lo, lo = 512 + k * 34 := ⟨_, rfl⟩
            obtain ⟨hi, hhi⟩ : ∃ hi, hi = lo + 32 := ⟨_, rfl⟩
            have i1 : IntKind.i64.wrap ((k : Int) * 34) = (k : Int) * 34 := IntWalk.i64_in _ (by omega)
            have i2 : IntKind.i64.wrap (512 + (k : Int) * 34) = (lo : Int) := by rw [IntWalk.i64_in _ (by omega)]; omega
            have i3 : IntKind.i64.wrap ((lo : Int) + 32) = (hi : Int) := by rw [IntWalk.i64_in _ (by omega)]; omega
            have i2' : 512 + (k : Int) * 34 = (lo : Int) := by omega
            have i3' : (lo : Int) + 32 = (hi : Int) := by omega
            have hr := HLn.out
            have hhl : hi + 2 ≤ L := by omega
            have hlob : lo ≤ 100000 := by omega
            obtain ⟨z, hz⟩ : ∃ z, z = u6 := ⟨_, rfl⟩
            have HZ : Hid (OwK 48 33 rowC wr w.heap.size z (rowsTo b k)) := Lib.hid (by rw [hz]; exact ho.out)
            rw [← hz]
            clear hz ho
            obtain ⟨S, hS⟩ : ∃ S, S = sumA ((b.drop lo).take 32) := ⟨_, rfl⟩
            obtain ⟨p, hp⟩ : ∃ p, p = unnum (b.drop hi) := ⟨_, rfl⟩
            obtain ⟨r, hrr⟩ : ∃ r, r = rowAt b k := ⟨_, rfl⟩
            have hrow : r = ⟨(b.drop lo).take 32, p⟩ := by rw [hrr, hp, hhi, hlo]; rfl
            obtain ⟨F, hF⟩ : ∃ F, F = rowA r := ⟨_, rfl⟩
            have HBld : Hid (∀ W, (Instr.build 48 #[(0, .agg S), (1, .int .i64 (p : Int))]).run Tryd.prog W = .ok (.agg F) W) := Lib.hid fun W => by rw [hF, hrow, hS]; exact bld_row W _ _
            have HBdS : Hid (∀ W, (Instr.buildSlice 42 1 #[(0, .agg F)]).run Tryd.prog W = .ok (.slice (some ⟨W.heap.size, 0, none⟩) 1 1) (W.alloc (.cells F 48))) := Lib.hid fun W => by rw [hF]; exact bldS_row W r
            have HAg : Hid (Agg Tryd.prog 45 S.size) := Lib.hid (by rw [hS, sumA_size]; exact aggSum)
            have HVr : Hid (∀ W, Below w.heap.size wr W → Rb W (.slice (some ⟨g, o, none⟩) L c) b) := Lib.hid fun W hW => HV.out.below (hB.out.trans hW) (Nat.le_refl _)
            have HAt : Hid (∀ W, Below w.heap.size wr W → At W g (o + lo) S) := Lib.hid fun W hW => by rw [hS]; exact at_sum (HVr.out W hW) lo HL.out (by omega)
            have HNum : Hid (∀ W, Below w.heap.size wr W → Calls Tryd.prog 60 #[.slice (some ⟨g, o + hi, none⟩) (L - hi) (c - hi)] W fun e w' => e = .returned (.int .i64 (p : Int)) ∧ ∃ n, w' = W.drewN n) := Lib.hid fun W hW => by
              rw [hp]; exact number_any (rb_drop (HVr.out W hW) hi HL.out (by omega)) (by rw [List.length_drop]; have := HL.out; omega) (by rw [List.length_drop]; have := HL.out; omega)
            have HCut : Hid (∀ W, (Instr.sliceAt 23 (.slice (some ⟨g, o, none⟩) L c) (some (.int .i64 (lo : Int))) (some (.int .i64 (hi : Int))) none).run Tryd.prog W = .ok (.slice (some ⟨g, o + lo, none⟩) 32 (c - lo)) W) := Lib.hid fun W => cut_two W g o L c lo hi 32 (by omega) (by omega) (by omega)
            have HCh : Hid (∀ W, (Instr.sliceAt 23 (.slice (some ⟨g, o, none⟩) L c) (some (.int .i64 (hi : Int))) none none).run Tryd.prog W = .ok (.slice (some ⟨g, o + hi, none⟩) (L - hi) (c - hi)) W) := Lib.hid fun W => cut_hi W g o L c hi (by omega) hLc
            have HF := Lib.hid hF; have Hrr := Lib.hid hrr
            clear hS hp hrr hrow hF hlo hhi hr
            go_wp2
            clear i1 i2 i3 i2' i3'
            have LD : Below w.heap.size wr wr.drew := ⟨rfl, rfl, rfl, Nat.le_refl _, fun _ _ => rfl⟩
            refine AnyK.start w.heap.size wr (by kernel_rfl) ?_
            refine AnyK.take 0 z LD rfl (by kernel_rfl) (by kernel_rfl) (by kernel_rfl) (fun _ _ _ h => h) (by kernel_rfl) (fun W hW => by kernel_rfl) ?_
            refine AnyK.take 1 (.slice (some ⟨g, o, none⟩) L c) LD rfl (by kernel_rfl) (by kernel_rfl) (by kernel_rfl) (fun _ _ _ h => h) (by kernel_rfl) (fun W hW => by kernel_rfl) ?_
            refine AnyK.take 2 (.int .i64 (lo : Int)) LD rfl (by kernel_rfl) (by kernel_rfl) (by kernel_rfl) (fun _ _ _ h => h) (by kernel_rfl) (fun W hW => by kernel_rfl) ?_
            refine AnyK.take 3 (.int .i64 (hi : Int)) LD rfl (by kernel_rfl) (by kernel_rfl) (by kernel_rfl) (fun _ _ _ h => h) (by kernel_rfl) (fun W hW => by kernel_rfl) ?_
            refine AnyK.take 4 (.slice (some ⟨g, o + lo, none⟩) 32 (c - lo)) LD rfl (by kernel_rfl) (by kernel_rfl) (by kernel_rfl) (fun _ _ _ h => h) (by kernel_rfl) (fun W hW => y_slice (xv := .slice (some ⟨g, o, none⟩) L c) (lv := some (.int .i64 (lo : Int))) (hv := some (.int .i64 (hi : Int))) (mv := none) rfl (by kernel_rfl) (by kernel_rfl) (by kernel_rfl) (by kernel_rfl) (HCut.out W)) ?_
            refine AnyK.take 5 (.pointer (some ⟨g, o + lo, none⟩)) LD rfl (by kernel_rfl) (by kernel_rfl) (by kernel_rfl) (fun _ _ _ h => h) (by kernel_rfl) (fun W hW => y_s2a (xv := .slice (some ⟨g, o + lo, none⟩) 32 (c - lo)) rfl (by kernel_rfl) (arr_at W g (o + lo) (c - lo))) ?_
            refine AnyK.take 6 (.agg S) LD rfl (by kernel_rfl) (by kernel_rfl) (by kernel_rfl) (fun _ _ _ h => h) (by kernel_rfl) (fun W hW => y_load (sv := .pointer (some ⟨g, o + lo, none⟩)) rfl (by kernel_rfl) (loadAt_at HAg.out (HAt.out W hW))) ?_
            refine AnyK.take 7 (.slice (some ⟨g, o, none⟩) L c) LD rfl (by kernel_rfl) (by kernel_rfl) (by kernel_rfl) (fun _ _ _ h => h) (by kernel_rfl) (fun W hW => by kernel_rfl) ?_
            refine AnyK.take 8 (.int .i64 (hi : Int)) LD rfl (by kernel_rfl) (by kernel_rfl) (by kernel_rfl) (fun _ _ _ h => h) (by kernel_rfl) (fun W hW => by kernel_rfl) ?_
            refine AnyK.take 9 (.slice (some ⟨g, o + hi, none⟩) (L - hi) (c - hi)) LD rfl (by kernel_rfl) (by kernel_rfl) (by kernel_rfl) (fun _ _ _ h => h) (by kernel_rfl) (fun W hW => y_slice (xv := .slice (some ⟨g, o, none⟩) L c) (lv := some (.int .i64 (hi : Int))) (hv := none) (mv := none) rfl (by kernel_rfl) (by kernel_rfl) (by kernel_rfl) (by kernel_rfl) (HCh.out W)) ?_
            refine AnyK.call 10 60 #[.slice (some ⟨g, o + hi, none⟩) (L - hi) (c - hi)] (by kernel_rfl) rfl (by kernel_rfl) (by kernel_rfl) ?_
            refine (HNum.out _ LD).mono ?_
            rintro e w4 ⟨rfl, nq, hw4⟩
            have L4 : Below w.heap.size wr w4 := by rw [hw4]; exact ⟨rfl, rfl, rfl, Nat.le_refl _, fun _ _ => rfl⟩
            have O4 : OwK 48 33 rowC w4 w.heap.size z (rowsTo b k) := by rw [hw4]; exact HZ.out
            clear hw4
            refine ⟨.int .i64 (p : Int), rfl, L4, ?_⟩
            refine AnyK.take 11 (.agg F) L4 rfl (by kernel_rfl) (by kernel_rfl) (by kernel_rfl) (fun _ _ _ h => h) (by kernel_rfl) (fun W hW => y_bld (ps := #[(0, .agg S), (1, .int .i64 (p : Int))]) rfl (by kernel_rfl) (HBld.out W)) ?_
            have L5 : Below w.heap.size wr (w4.alloc (.cells F 48)) := L4.trans ((below_new w4 _).mono (Nat.le_trans hB.out.size L4.size))
            refine AnyK.op 12 (.slice (some ⟨w4.heap.size, 0, none⟩) 1 1) (w4.alloc (.cells F 48)) (by kernel_rfl) rfl (by kernel_rfl) (y_bldS (ps := #[(0, .agg F)]) rfl (by kernel_rfl) (HBdS.out w4)) L5 ?_
            obtain ⟨v', w', h1, h2, h3⟩ := run_one rowK O4 (by rw [rowsTo_len]; omega) (by decide) (Nat.le_trans hB.out.size L4.size) r F (by rw [HF.out]; unfold rowC; simp) 42
            have L6 : Below w.heap.size wr w' := L4.trans h3
            refine AnyK.op 13 v' w' (by kernel_rfl) rfl (by kernel_rfl) (y_append (sv := z) (yv := .slice (some ⟨w4.heap.size, 0, none⟩) 1 1) rfl (by kernel_rfl) (by kernel_rfl) h1) L6 ?_
            refine AnyK.take 14 v' L6 rfl (by kernel_rfl) (by kernel_rfl) (by kernel_rfl) (fun _ _ _ h => h) (by kernel_rfl) (fun W hW => by kernel_rfl) ?_
            refine AnyK.done _ (by kernel_rfl) ?_
            have H2 : Hid (OwK 48 33 rowC w' w.heap.size v' (rowsTo b (k + 1))) := Lib.hid (by rw [rowsTo_succ, ← Hrr.out]; exact h2)
            have H6 : Hid (Below w.heap.size w w') := Lib.hid (hB.out.trans L6)
            clear h1 h2 h3 L4 L5 L6 O4 LD
            go_simp
            go_wp2
            go_roundw
            case rel => exact ⟨k + 1, by omega, by go_num, H6, H2⟩
            case measure => simp [intOf]; omega
          · have hkn : k = n := by omega
            subst hkn
            have HO := ho; have HB := hB
            obtain ⟨z, hz⟩ : ∃ z, z = u6 := ⟨_, rfl⟩
            rw [← hz] at HO ⊢
            clear hz hB
            go_wp2
            go_ret2
            exact ⟨HB.out, .inl ⟨_, z, HYes.out, rfl, HO.out⟩⟩
    · have g1 : IntKind.i64.wrap ((L : Int) - 512) = (L : Int) - 512 := IntWalk.i64_in _ (by omega)
      have g2 : IntKind.i64.wrap ((L : Int) - 512 - 32) = (m : Int) := by rw [IntWalk.i64_in _ (by omega)]; omega
      have g4 : ((m : Int) % 34 == 0) = false := by
        have : ¬ (m : Int) % 34 = 0 := by omega
        simpa using this
      have g5 : ((m : Int) % 34 != 0) = true := by
        have : ¬ (m : Int) % 34 = 0 := by omega
        simpa using this
      have m0 : 0 ≤ (m : Int) := by omega
      have mb : m ≤ 1000000 := by omega
      have HNo : Hid (rowsL b = none) := Lib.hid (rowsL_none (by omega))
      clear hv hm h2 hL
      go_enter Tryd.func46, Tryd.ntmps46
      go_wp2
      go_ret2
      exact ⟨Below.refl _ _, .inr ⟨HNo.out, rfl⟩⟩
  · have g1 : IntKind.i64.wrap ((L : Int) - 512) = (L : Int) - 512 := IntWalk.i64_in _ (by omega)
    have g2 : IntKind.i64.wrap ((L : Int) - 512 - 32) = (L : Int) - 512 - 32 := IntWalk.i64_in _ (by omega)
    have d1 : decide ((L : Int) - 512 - 32 < 0) = true := decide_eq_true (by omega)
    have HNo : Hid (rowsL b = none) := Lib.hid (rowsL_none (by omega))
    have hneg : (L : Int) - 512 - 32 < 0 := by omega
    clear hv hL
    go_enter Tryd.func46, Tryd.ntmps46
    go_wp2
    go_ret2
    exact ⟨Below.refl _ _, .inr ⟨HNo.out, rfl⟩⟩
end Go.Proofs.YtdjmcehoaneekaaDoor.Ix
