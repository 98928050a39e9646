/-
  The document's index: what digits say.
-/
import Derived.Test.YtdjmcehoaneekaaDoorIArg
namespace Go.Proofs.YtdjmcehoaneekaaDoor.Ix
open Go.Proofs.YtdjmcehoaneekaaDoor
open Go Go.RowKit

theorem isD_parts {c : UInt8} (h : isD c = true) : (48 ≤ c.toNat ∧ c.toNat ≤ 57) ∨ (97 ≤ c.toNat ∧ c.toNat ≤ 102) := by
  unfold isD at h
  simpa [UInt8.le_iff_toNat_le] using h
theorem valD_lt {c : UInt8} (h : isD c = true) : (valD c).toNat < 16 := by
  have h1 := isD_all (p := fun c => decide ((valD c).toNat < 16)) (by decide +kernel) c h
  exact of_decide_eq_true h1
theorem nib_or : ∀ x y : Fin 16, ((UInt8.ofNat x.val) <<< 4 ||| UInt8.ofNat y.val).toNat = x.val * 16 + y.val := by decide +kernel
theorem rdigits (x y : UInt8) (hx : x.toNat < 16) (hy : y.toNat < 16) : IntKind.u8.wrap (IntKind.u8.wrap ((x.toNat : Int) * 16) + (y.toNat : Int)) = ((x <<< 4 ||| y).toNat : Int) := by
  have h := nib_or ⟨x.toNat, hx⟩ ⟨y.toNat, hy⟩
  simp only [UInt8.ofNat_toNat] at h
  rw [h, IntKind.wrap_u8', IntKind.wrap_u8']
  omega
set_option maxHeartbeats 400000 in
theorem Rvalue_still (c : UInt8) (hd : isD c = true) (w : World) : Calls Tryd.prog 44 #[.int .u8 (c.toNat : Int)] w fun e w' => e = .returned (.int .u8 ((valD c).toNat : Int)) ∧ w' = w := by
  have hl := c.toNat_lt
  obtain ⟨x, hx⟩ : ∃ x, x = valD c := ⟨_, rfl⟩
  rcases isD_parts hd with h | h
  · have g : IntKind.u8.wrap ((c.toNat : Int) - 48) = (x.toNat : Int) := by
      rw [hx]; unfold valD
      rw [if_pos (by rw [UInt8.le_iff_toNat_le]; exact h.2), IntKind.wrap_u8', UInt8.toNat_sub]
      show _ = (((2 ^ 8 - 48 + c.toNat) % 2 ^ 8 : Nat) : Int)
      omega
    have d : ¬ (97 : Int) ≤ (c.toNat : Int) := by omega
    rw [← hx]; clear hx
    go_enter Tryd.func44, Tryd.ntmps44
    go_wp2
    go_ret
    exact ⟨rfl, rfl⟩
  · obtain ⟨y, hy⟩ : ∃ y, y = c - 97 := ⟨_, rfl⟩
    have g1 : IntKind.u8.wrap ((c.toNat : Int) - 97) = (y.toNat : Int) := by
      rw [hy, IntKind.wrap_u8', UInt8.toNat_sub]
      show _ = (((2 ^ 8 - 97 + c.toNat) % 2 ^ 8 : Nat) : Int)
      omega
    have g2 : IntKind.u8.wrap ((y.toNat : Int) + 10) = (x.toNat : Int) := by
      rw [hx]; unfold valD
      rw [if_neg (by rw [UInt8.le_iff_toNat_le]; show ¬ c.toNat ≤ 57; omega), hy, IntKind.wrap_u8', UInt8.toNat_sub, UInt8.toNat_sub]
      show ((((2 ^ 8 - 97 + c.toNat) % 2 ^ 8 : Nat) : Int) + 10) % 256 = (((2 ^ 8 - 87 + c.toNat) % 2 ^ 8 : Nat) : Int)
      omega
    have d : (97 : Int) ≤ (c.toNat : Int) := by omega
    have hyl := y.toNat_lt
    rw [← hx]; clear hx hy
    go_enter Tryd.func44, Tryd.ntmps44
    go_wp2
    go_ret
    exact ⟨rfl, rfl⟩
/-- Bytes of one's own. -/
def BytesP (l : Bs) (w : World) (e : Ending) (w' : World) : Prop := Below w.heap.size w w' ∧ ∃ v, e = .returned v ∧ Dl.Ow w' w.heap.size v l
theorem raw_take (id : Bs) (k : Nat) (h : k < 32) : (rawL id).take (k + 1) = (rawL id).take k ++ [valD (id.getD (2 * k) 0) <<< 4 ||| valD (id.getD (2 * k + 1) 0)] := by
  have h1 : (rawL id)[k]? = some (valD (id.getD (2 * k) 0) <<< 4 ||| valD (id.getD (2 * k + 1) 0)) := by
    unfold rawL; rw [List.getElem?_map, List.getElem?_range h]; rfl
  rw [List.take_add_one, h1]; rfl
theorem y_idx {P : Program} {a : Go.Act} {o : Oper} {W : World} {t : TypeId} {s i : Operand} {sv iv r : Value} (ho : o.op = .index t s i) (hs : a.eval s = sv) (hi : a.eval i = iv) (h : (Instr.index t sv iv).run P W = .ok r W) : (execOp a.eval o).run P W = .ok (.value r) W := by
  subst hs hi
  simp only [execOp, ho]
  simp [h, Result.andThen]
theorem idx_str (W : World) (x : Bs) (k : Nat) (hk : k < x.length) : (Instr.index 9 (.string ⟨x.toArray⟩) (.int .i64 (k : Int))).run Tryd.prog W = .ok (.int .u8 ((x.getD k 0).toNat : Int)) W := by
  have h1 : (k : Int) < (x.length : Int) := by omega
  have hs : (⟨x.toArray⟩ : ByteArray).size = x.length := by show x.toArray.size = _; simp
  have g : ∀ h, ((⟨x.toArray⟩ : ByteArray)[k]'h) = x.getD k 0 := fun h => by
    rw [List.getD_eq_getElem?_getD, List.getElem?_eq_getElem hk]; rfl
  simp [go_sem, h1, hs, g]
theorem run_two' (W : World) (k : Nat) (hk : k ≤ 1000000) : (binOp .mul 3 (.int .i64 2) (.int .i64 (k : Int))).run Tryd.prog W = .ok (.int .i64 ((2 * k : Nat) : Int)) W := by
  have e : IntKind.i64.wrap (2 * (k : Int)) = 2 * (k : Int) := IntWalk.i64_in _ (by omega)
  simp [go_sem, e]
theorem run_inc' (W : World) (k : Nat) (hk : k ≤ 1000000) : (binOp .add 3 (.int .i64 (k : Int)) (.int .i64 1)).run Tryd.prog W = .ok (.int .i64 ((k + 1 : Nat) : Int)) W := by
  have e : IntKind.i64.wrap ((k : Int) + 1) = (k : Int) + 1 := IntWalk.i64_in _ (by omega)
  simp [go_sem, e]
theorem run_16 (W : World) (x : UInt8) : (binOp .mul 5 (.int .u8 (x.toNat : Int)) (.int .u8 16)).run Tryd.prog W = .ok (.int .u8 (IntKind.u8.wrap ((x.toNat : Int) * 16))) W := by
  simp [go_sem]
theorem run_nib (W : World) (x y : UInt8) (hx : x.toNat < 16) (hy : y.toNat < 16) : (binOp .add 5 (.int .u8 (IntKind.u8.wrap ((x.toNat : Int) * 16))) (.int .u8 (y.toNat : Int))).run Tryd.prog W = .ok (.int .u8 ((x <<< 4 ||| y).toNat : Int)) W := by
  have e := rdigits x y hx hy
  simp [go_sem, e]
theorem app_below' {w w' : World} {base : Nat} {v v' : Value} {l : Bs} (ho : Dl.Ow w base v l) (h : Dl.AppF w v w' v') (hB : base ≤ w.heap.size) : Below base w w' :=
  ⟨h.1.os, h.1.tape, h.1.output, h.1.size, fun k hk => h.1.block k (by omega) (fun e => by have := (ho.lt k e).1; omega)⟩
theorem build_u8 (W : World) (n : Int) : (Instr.buildSlice 23 1 #[(0, .int .u8 n)]).run Tryd.prog W = .ok (.slice (some ⟨W.heap.size, 0, none⟩) 1 1) (W.alloc (.cells #[.int .u8 n] 5)) := by
  simp [go_sem]
set_option maxRecDepth 100000 in
set_option maxHeartbeats 1000000 in
theorem Rraw_any (w : World) (id : Bs) (hn : namedB id = true) : Calls Tryd.prog 28 #[SV id] w (BytesP (rawL id) w) := by
  have hid := named_len hn
  have hlo : id.length ≤ 64 := by omega
  have hhi : 64 ≤ id.length := by omega
  have HD := Lib.hid fun i hi => named_get hn i hi
  have HI := Lib.hid hid; clear hid hn
  unfold SV
  go_enter Tryd.func28, Tryd.ntmps28
  go_wp2
  go_loopw [3, 4] (fun v i wr => ∃ k : Nat, k ≤ 32 ∧ i = .int .i64 k ∧ Hid (Below w.heap.size w wr) ∧ Hid (Dl.Ow wr w.heap.size v ((rawL id).take k))) (fun _ i _ => 32 - (intOf i).toNat)
  case atStart => exact ⟨0, Nat.zero_le _, rfl, Lib.hid (Below.refl _ _), Lib.hid ⟨by simp, .inl ⟨by simp, by simp⟩⟩⟩
  case round =>
    obtain ⟨k, hk, rfl, hB, hO⟩ := hrel
    by_cases hlt : k < 32
    · obtain ⟨a, ha⟩ : ∃ a, a = id.getD (2 * k) 0 := ⟨_, rfl⟩
      obtain ⟨b, hb2⟩ : ∃ b, b = id.getD (2 * k + 1) 0 := ⟨_, rfl⟩
      have da : isD a = true := by rw [ha]; exact HD.out _ (by omega)
      have db : isD b = true := by rw [hb2]; exact HD.out _ (by omega)
      have IA : Hid (∀ W : World, (Instr.index 9 (.string ⟨id.toArray⟩) (.int .i64 ((2 * k : Nat) : Int))).run Tryd.prog W = .ok (.int .u8 (a.toNat : Int)) W) := Lib.hid fun W => by rw [ha]; exact idx_str W id _ (by omega)
      have IB : Hid (∀ W : World, (Instr.index 9 (.string ⟨id.toArray⟩) (.int .i64 ((2 * k + 1 : Nat) : Int))).run Tryd.prog W = .ok (.int .u8 (b.toNat : Int)) W) := Lib.hid fun W => by rw [hb2]; exact idx_str W id _ (by omega)
      have Hz : Hid ((rawL id).take (k + 1) = (rawL id).take k ++ [valD a <<< 4 ||| valD b]) := Lib.hid (by rw [ha, hb2]; exact raw_take id k hlt)
      obtain ⟨x, hx⟩ : ∃ x, x = valD a := ⟨_, rfl⟩
      obtain ⟨y, hy⟩ : ∃ y, y = valD b := ⟨_, rfl⟩
      have hx16 : x.toNat < 16 := by rw [hx]; exact valD_lt da
      have hy16 : y.toNat < 16 := by rw [hy]; exact valD_lt db
      have VA := Lib.hid fun W => Rvalue_still a da W
      have VB := Lib.hid fun W => Rvalue_still b db W
      rw [← hx] at Hz VA
      rw [← hy] at Hz VB
      have Hlen : Hid (((rawL id).take k).length + 1 ≤ 140737488355328) := Lib.hid (by rw [List.length_take]; omega)
      obtain ⟨l, hl⟩ : ∃ l, l = (rawL id).take k := ⟨_, rfl⟩
      rw [← hl] at hO Hz Hlen
      have hB' := hB.out; have hO' := hO.out
      have HO := Lib.hid hO'
      clear ha hb2 da db hx hy hl hO hO'
      go_wp2
      refine AnyK.start w.heap.size w (by kernel_rfl) ?_
      have LD : Hid (Below w.heap.size w wr.drew) := Lib.hid hB'.drew
      have OD : Hid (Dl.Ow wr.drew w.heap.size u3 l) := Lib.hid HO.out
      generalize wr.drew = wd at LD OD ⊢
      refine AnyK.take 0 (u3) LD.out rfl (by kernel_rfl) (by kernel_rfl) (by kernel_rfl) (fun _ _ _ h => h) (by kernel_rfl) (fun W hW => by kernel_rfl) ?_
      refine AnyK.take 1 (.string ⟨id.toArray⟩) LD.out rfl (by kernel_rfl) (by kernel_rfl) (by kernel_rfl) (fun _ _ _ h => h) (by kernel_rfl) (fun W hW => by kernel_rfl) ?_
      refine AnyK.take 2 (.int .i64 (k : Int)) LD.out rfl (by kernel_rfl) (by kernel_rfl) (by kernel_rfl) (fun _ _ _ h => h) (by kernel_rfl) (fun W hW => by kernel_rfl) ?_
      refine AnyK.take 3 (.int .i64 ((2 * k : Nat) : Int)) LD.out rfl (by kernel_rfl) (by kernel_rfl) (by kernel_rfl) (fun _ _ _ h => h) (by kernel_rfl) (fun W hW => y_bin (x := .int .i64 2) (y := .int .i64 (k : Int)) rfl (by kernel_rfl) (by kernel_rfl) rfl (run_two' W k (by omega))) ?_
      refine AnyK.take 4 (.int .u8 (a.toNat : Int)) LD.out rfl (by kernel_rfl) (by kernel_rfl) (by kernel_rfl) (fun _ _ _ h => h) (by kernel_rfl) (fun W hW => y_idx (sv := .string ⟨id.toArray⟩) (iv := .int .i64 ((2 * k : Nat) : Int)) rfl (by kernel_rfl) (by kernel_rfl) (IA.out W)) ?_
      refine AnyK.take 7 (.string ⟨id.toArray⟩) LD.out rfl (by kernel_rfl) (by kernel_rfl) (by kernel_rfl) (fun _ _ _ h => h) (by kernel_rfl) (fun W hW => by kernel_rfl) ?_
      refine AnyK.take 8 (.int .i64 (k : Int)) LD.out rfl (by kernel_rfl) (by kernel_rfl) (by kernel_rfl) (fun _ _ _ h => h) (by kernel_rfl) (fun W hW => by kernel_rfl) ?_
      refine AnyK.take 9 (.int .i64 ((2 * k : Nat) : Int)) LD.out rfl (by kernel_rfl) (by kernel_rfl) (by kernel_rfl) (fun _ _ _ h => h) (by kernel_rfl) (fun W hW => y_bin (x := .int .i64 2) (y := .int .i64 (k : Int)) rfl (by kernel_rfl) (by kernel_rfl) rfl (run_two' W k (by omega))) ?_
      refine AnyK.take 10 (.int .i64 ((2 * k + 1 : Nat) : Int)) LD.out rfl (by kernel_rfl) (by kernel_rfl) (by kernel_rfl) (fun _ _ _ h => h) (by kernel_rfl) (fun W hW => y_bin (x := .int .i64 ((2 * k : Nat) : Int)) (y := .int .i64 1) rfl (by kernel_rfl) (by kernel_rfl) rfl (run_inc' W (2 * k) (by omega))) ?_
      refine AnyK.take 11 (.int .u8 (b.toNat : Int)) LD.out rfl (by kernel_rfl) (by kernel_rfl) (by kernel_rfl) (fun _ _ _ h => h) (by kernel_rfl) (fun W hW => y_idx (sv := .string ⟨id.toArray⟩) (iv := .int .i64 ((2 * k + 1 : Nat) : Int)) rfl (by kernel_rfl) (by kernel_rfl) (IB.out W)) ?_
      refine AnyK.call 5 44 #[.int .u8 (a.toNat : Int)] (by kernel_rfl) rfl (by kernel_rfl) (by kernel_rfl) ((VA.out wd).mono ?_)
      rintro e w5 ⟨rfl, h5⟩
      rw [h5]
      clear h5
      refine ⟨.int .u8 (x.toNat : Int), rfl, LD.out, ?_⟩
      refine AnyK.take 6 (.int .u8 (IntKind.u8.wrap ((x.toNat : Int) * 16))) LD.out rfl (by kernel_rfl) (by kernel_rfl) (by kernel_rfl) (fun _ _ _ h => h) (by kernel_rfl) (fun W hW => y_bin (x := .int .u8 (x.toNat : Int)) (y := .int .u8 16) rfl (by kernel_rfl) (by kernel_rfl) rfl (run_16 W x)) ?_
      refine AnyK.call 12 44 #[.int .u8 (b.toNat : Int)] (by kernel_rfl) rfl (by kernel_rfl) (by kernel_rfl) ((VB.out wd).mono ?_)
      rintro e w5 ⟨rfl, h5⟩
      rw [h5]
      clear h5
      refine ⟨.int .u8 (y.toNat : Int), rfl, LD.out, ?_⟩
      refine AnyK.take 13 (.int .u8 ((x <<< 4 ||| y).toNat : Int)) LD.out rfl (by kernel_rfl) (by kernel_rfl) (by kernel_rfl) (fun _ _ _ h => h) (by kernel_rfl) (fun W hW => y_bin (x := .int .u8 (IntKind.u8.wrap ((x.toNat : Int) * 16))) (y := .int .u8 (y.toNat : Int)) rfl (by kernel_rfl) (by kernel_rfl) rfl (run_nib W x y hx16 hy16)) ?_
      have M0 : Below w.heap.size wd (wd.alloc (.cells #[.int .u8 ((x <<< 4 ||| y).toNat : Int)] 5)) := (below_alloc wd _).mono LD.out.size
      refine AnyK.op 14 (.slice (some ⟨wd.heap.size, 0, none⟩) 1 1) (wd.alloc (.cells #[.int .u8 ((x <<< 4 ||| y).toNat : Int)] 5)) (by kernel_rfl) rfl (by kernel_rfl) (y_build rfl (by kernel_rfl) (build_u8 wd _)) (LD.out.trans M0) ?_
      have O1 := Dl.Ow.below OD.out (below_alloc wd (.cells #[.int .u8 ((x <<< 4 ||| y).toNat : Int)] 5)) (Nat.le_refl _)
      have M1 : Below w.heap.size w (wd.alloc (.cells #[.int .u8 ((x <<< 4 ||| y).toNat : Int)] 5)) := LD.out.trans M0
      obtain ⟨v2, w2, g2, o2, f2⟩ := Dl.run_app' O1 (Dl.rb_one wd (x <<< 4 ||| y)) Hlen.out M1.size 23
      have M2 : Below w.heap.size w w2 := M1.trans (app_below' O1 f2 M1.size)
      refine AnyK.op 15 v2 w2 (by kernel_rfl) rfl (by kernel_rfl) (y_append rfl (by kernel_rfl) (by kernel_rfl) g2) M2 ?_
      rw [← Hz.out] at o2
      have L2 := Lib.hid M2; have O2 := Lib.hid o2
      clear M0 O1 M1 g2 o2 f2 M2 LD OD
      refine AnyK.take 16 (v2) L2.out rfl (by kernel_rfl) (by kernel_rfl) (by kernel_rfl) (fun _ _ _ h => h) (by kernel_rfl) (fun W hW => by kernel_rfl) ?_
      refine AnyK.done _ (by kernel_rfl) ?_
      go_simp
      go_wp2
      go_roundw
      case rel => exact ⟨k + 1, by omega, by go_num, L2, O2⟩
      case measure => simp [intOf]; omega
    · have HB := Lib.hid hB.out
      have e32 : (rawL id).take k = rawL id := List.take_of_length_le (by rw [rawL_len]; omega)
      have ho := hO.out
      rw [e32] at ho
      have HO2 := Lib.hid ho
      clear hB hO ho e32
      go_wp2
      go_ret
      exact ⟨HB.out, _, rfl, HO2.out⟩
end Go.Proofs.YtdjmcehoaneekaaDoor.Ix
