/-
  PackDelta: at every input it returns true and its arguments read as before: the row, and its card.
-/
import Derived.Test.YtgjddkeogboojaaGreatDoorX33
import Derived.Test.YtgjddkeogboojaaGreatDoorX34
import Derived.Test.YtgjddkeogboojaaGreatDoorX23
set_option maxHeartbeats 16000000
set_option maxRecDepth 100000
namespace Go.Proofs.YtgjddkeogboojaaGreatDoor.Pl
open Go.Proofs.YtgjddkeogboojaaGreatDoor Go.Proofs.YtgjddkeogboojaaGreatDoor.Pk
open Go Go.ChangeShapes Go.WideShapes Go.ChangeAt Go.RowKit
theorem z5z (H : Type) (enc : TypeId × Value → H) (W : World) (base : Nat) (args : Array Value) (ds gs : List (DataW H)) (before : List MemPlace)
 (hval : ∀ (j : Nat) t v, Tryz.f6.params[j]? = some t → args[j]? = some v → Value.okWide Tryz.prog W .any base t v)
 (hW : DataW.Whole enc Tryz.prog Tryz.f6.params.toList Rows.packDeltaSpec.vars false W args.toList ds gs before) (hL : laidMetH Tryz.prog Rows.packDeltaRow.laid W)
 (hsz : (DataW.weightsEach Tryz.prog (Tryz.f6.params.toList ++ (OpenSpec.ofChange Rows.packDeltaSpec).bare.plain.varTypes Tryz.prog) (ds ++ gs)).all (· ≤ reachBytes) = true) :
 Calls Tryz.prog 6 args W fun e W' => ∃ v, e = .returned v ∧ Rows.packDeltaSpec.post enc Tryz.prog Tryz.f6 false true false false W args v W' := by
 have hW' := hW
 obtain ⟨p, q, hA0, hV, rfl, hfz, hnd⟩ := hW
 have hA : DataW.TrodAll enc Tryz.prog W 0 (fun _ => true) true Tryz.f6.params.toList args.toList ds p := hA0
 have hall : (Tryz.f6.params.toList.all fun t => Tryz.prog.readableRec t && decide (t < Tryz.prog.types.size)) = true := by kernel_rfl
 have back : ∀ W', Below W.heap.size W W' → DataW.TrodAll enc Tryz.prog W' 0 (fun b => decide (b < W.heap.size)) true Tryz.f6.params.toList args.toList ds p :=
  fun W' hB => z6r hB (fun t ht => by simpa using List.all_eq_true.1 hall t ht) hA (fun x hx => hW'.lt x (List.mem_append_left _ hx))
 rw [Tryz.params6] at hA hval hsz
 obtain ⟨v0, vs0, d0, ds0, p0, q0, hargs, rfl, rfl, h0, r0⟩ := trodAll_cons hA
 obtain ⟨v1, vs1, d1, ds1, p1, q1, rfl, rfl, rfl, h1, r1⟩ := trodAll_cons r0
 obtain ⟨v2, vs2, d2, ds2, p2, q2, rfl, rfl, rfl, h2, r2⟩ := trodAll_cons r1
 obtain ⟨v3, vs3, d3, ds3, p3, q3, rfl, rfl, rfl, h3, r3⟩ := trodAll_cons r2
 obtain ⟨rfl, rfl, rfl⟩ := trodAll_nil r3
 obtain rfl : args = #[v0, v1, v2, v3] := by cases args; simp_all
 obtain ⟨rfl, rfl⟩ := trodVars_none hV
 obtain ⟨a0, b0, e0⟩ := objs_of (hval 0 35 v0 rfl rfl) h0 (fits_of (j := 0) hsz rfl rfl)
 obtain ⟨a1, b1, rfl⟩ := u8_of (hval 1 5 v1 rfl rfl) h1
 obtain ⟨a2, b2, rfl⟩ := u8_of (hval 2 5 v2 rfl rfl) h2
 obtain ⟨a3, rfl⟩ : ∃ p : Bool, v3 = .bool p := okWide_bool Tryz.underlying4 (hval 3 4 v3 rfl rfl)
 have hob := zj2 hL
 have erow : Rows.packDeltaSpec.fn H ([d0, d1, d2, d3] ++ []) = { results := [.lit (.bool true)], args := [d0, d1, d2, d3] } := by simp [Rows.packDeltaSpec]
 refine (znr W hob e0 b0 a1 b1 a2 b2 a3).mono fun e W' hd => ?_
 obtain ⟨he, hB⟩ := hd
 subst he
 refine ⟨_, rfl, _, _, _, [], (p0 ++ (p1 ++ (p2 ++ (p3 ++ [])))), [], hW', ?_, ?_, ?_, hB.frame _, fun h => by cases h⟩
 · rw [erow]; exact trodAll_cons_mk (shut_bool Tryz.underlying4 _) trodAll_mk0
 · rw [erow]; exact back W' hB
 · rw [erow]; rfl
theorem z89 (os : Os) {H : Type} (enc : TypeId × Value → H) : ∃ places, DataW.whole enc Tryz.prog ((z9p os).forCall (fun _ _ => 0) ⟨#[], #[.slice none 0 0, .int .u8 0, .int .u8 0, .bool false], []⟩).memory Tryz.f6.params.toList Rows.packDeltaSpec.vars false (#[.slice none 0 0, .int .u8 0, .int .u8 0, .bool false] : Array Value).toList 8 = some ([.nil, .lit (.int .u8 0), .lit (.int .u8 0), .lit (.bool false)], [], places) :=
 ⟨[], by kernel_rfl⟩
theorem z7p (os : Os) (started : os.Started) (H : Type) (enc : TypeId × Value → H) (F : Stop.Interp) :
 ReturnsInHanded {} Tryz.checked os 6 .any ((OpenSpec.ofChange Rows.packDeltaSpec).preRow enc Tryz.prog Tryz.f6 Rows.packDeltaRow.domain false Rows.packDeltaRow.laid) (((OpenSpec.ofChange Rows.packDeltaSpec).at F).post enc Tryz.prog Tryz.f6 false true false false) := by
 obtain ⟨places, hx⟩ := z89 os enc
 refine returnsInHanded_of_row (C := Tryz.checked) (s := OpenSpec.ofChange Rows.packDeltaSpec) own started (by kernel_rfl) Tryz.func6
  (witness_row_at (enc := enc) (C := Tryz.checked) false (z9p os) #[.slice none 0 0, .int .u8 0, .int .u8 0, .bool false] rfl (by kernel_rfl) (by kernel_rfl) (by kernel_rfl)
    (OpenSpec.preRow_of_cond 8 hx (by kernel_rfl) (fun k hk => by cases hk) (by kernel_rfl) (laid_met os _))) ?_
 intro W base args ds gs before hval hW _ _ hsz hL _ _
 exact z5z H enc W base args ds gs before hval hW hL hsz
theorem z9q : Rows.PackDeltaSaid :=
 OpenClaim.holds_of_cond 6 Tryz.f6 rfl rfl rfl rfl rfl rfl rfl ⟨rfl, rfl, rfl, rfl, rfl⟩ rfl rfl rfl rfl rfl (by kernel_rfl) Tryz.func6 (by
  unfold joinedFacts
  simp only [Bool.and_eq_true]
  repeat' apply And.intro
  all_goals (as_aux_lemma => kernel_rfl))
  (of_decide_eq_true (by kernel_rfl)) (by unfold Func.isWrapper; first | (rw [if_pos (by decide +kernel)]; kernel_rfl) | (rw [if_neg (by decide +kernel)]; exact ⟨rfl, rfl⟩))
  (fun os started H enc _ F => by rw [OpenClaim.pre_eq_preRow]; exact z7p os started H enc F)
theorem z8a (f : FuncId) (fn : Func) (hf : Tryz.pinned.checked.prog.funcNamed "sacristy/sacristylaw07.PackDelta" = some f) (hfn : Tryz.pinned.checked.prog.funcs[f]? = some fn) :
 true = Tryz.pinned.checked.prog.looks [] ∧ ∀ (j : Nat) t, fn.params[j]? = some t → Tryz.pinned.checked.prog.wantsStandIn t = false := by
 obtain rfl : f = 6 := Option.some.inj ((show Tryz.prog.funcNamed "sacristy/sacristylaw07.PackDelta" = some 6 by kernel_rfl).symm.trans hf) |>.symm
 obtain rfl : fn = Tryz.f6 := (Option.some.inj (Tryz.func6.symm.trans hfn)).symm
 refine ⟨by kernel_rfl, fun j t ht => ?_⟩
 have hall : (Tryz.f6.params.all fun t => !Tryz.prog.wantsStandIn t) = true := by kernel_rfl
 have := Array.all_eq_true_iff_forall_mem.1 hall t (Array.mem_of_getElem? ht)
 have h2 : Tryz.prog.wantsStandIn t = false := by simpa using this
 exact h2
theorem packDelta_card : Rows.PackDeltaCardSaid :=
 Claim7.holds_tied_plain_at .later [] _ _ _ _ z9q (fun _ h => by cases h) (by kernel_rfl) (fun _ h => by cases h) packDelta_row_tie rfl ⟨rfl, rfl⟩ (by kernel_rfl) rfl z8a (by kernel_rfl)
end Go.Proofs.YtgjddkeogboojaaGreatDoor.Pl
