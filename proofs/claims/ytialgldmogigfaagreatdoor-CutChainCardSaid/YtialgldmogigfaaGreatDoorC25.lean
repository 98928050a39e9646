/-
  Cut's function values: among, beside, only, and the library's ContainsFunc.
  Concat of rows of texts.
  WalkClosed: a closure is closed.
-/
import Derived.Test.YtialgldmogigfaaGreatDoorC24
import Derived.Lib.AppendZerosOnto
import Derived.Test.YtialgldmogigfaaGreatDoorC23
import Derived.Test.YtialgldmogigfaaGreatDoorC14
import Derived.Test.YtialgldmogigfaaGreatDoorC10
import Derived.Test.YtialgldmogigfaaGreatDoorC22
import Derived.Test.YtialgldmogigfaaGreatDoorC20

namespace Go.Proofs.YtialgldmogigfaaGreatDoor.Ct
open Go.Proofs.YtialgldmogigfaaGreatDoor
open Go Go.RowKit Go.Maps

def BoolB (b : Bool) (w : World) (e : Ending) (w' : World) : Prop := e = .returned (.bool b) ∧ Below w.heap.size w w'
/-- A function that has a body is entered. -/
def Enters (F : FuncId) : Prop := ∀ (args : Array Value) (W : World), (callFunc F args).run Tryz.prog W = .ok (.enter F args) W
theorem enters_among : Enters 42 := fun args W => by simp [callFunc, go_sem, Tryz.func42]; rfl
theorem enters_beside : Enters 40 := fun args W => by simp [callFunc, go_sem, Tryz.func40]; rfl
/-- What a function value tells of texts, in any later world. -/
def Tl (w : World) (fv : Value) (p : Bs → Bool) : Prop :=
  ∃ F b, fv = .func (.func F) #[] #[.pointer (some ⟨b, 0, none⟩)] ∧ Enters F ∧ ∀ W, Below w.heap.size w W → ∀ x : Bs, x.length ≤ 1000000 → Calls Tryz.prog F #[SV x, .pointer (some ⟨b, 0, none⟩)] W (BoolB (p x) W)
theorem Tl.below {w w' : World} {fv : Value} {p : Bs → Bool} (h : Tl w fv p) (hb : Below w.heap.size w w') : Tl w' fv p := by
  obtain ⟨F, b, e, h0, h⟩ := h
  exact ⟨F, b, e, h0, fun W hW x hx => h W (hb.trans (hW.mono hb.size)) x hx⟩
theorem Tl.congr {w : World} {fv : Value} {p q : Bs → Bool} (h : Tl w fv p) (e : ∀ x, p x = q x) : Tl w fv q := by
  obtain ⟨F, b, e1, h0, h⟩ := h
  exact ⟨F, b, e1, h0, fun W hW x hx => by rw [← e x]; exact h W hW x hx⟩
theorem among1_p (x : Bs) (hx : x.length ≤ 1000000) (W : World) (b m n : Nat) (c : Bs → Nat) (hb : W.cell? ⟨b, 0, none⟩ = some (.map (some m))) (hM : MapS W m n (timesF c)) :
    Calls Tryz.prog 42 #[SV x, .pointer (some ⟨b, 0, none⟩)] W (BoolB (decide (0 < c x)) W) := by
  have hlook := hM.look Tryz.underlying69 (zeroInt W) (x := x) (by unfold maxLen; omega)
  rw [timesF_get] at hlook
  obtain ⟨q, hq⟩ : ∃ q, q = c x := ⟨_, rfl⟩
  rw [← hq] at hlook ⊢
  unfold SV
  clear hM hq
  by_cases h0 : 0 < q
  · have h1 : (0 : Int) < (q : Int) := by omega
    rw [decide_eq_true h0]
    go_enter Tryz.func42, Tryz.ntmps42
    go_wp2_with fail
    go_ret
    exact ⟨by simp, Below.refl _ _⟩
  · obtain rfl : q = 0 := by omega
    go_enter Tryz.func42, Tryz.ntmps42
    go_wp2_with fail
    go_ret
    exact ⟨by simp, Below.refl _ _⟩
set_option maxHeartbeats 4000000 in
set_option maxRecDepth 100000 in
theorem among_p {w : World} {v : Value} {ids : List Bs} (hi : StrsR w v ids) (hil : ids.length ≤ 1000000) (his : ∀ x ∈ ids, x.length ≤ 1000000) :
    Calls Tryz.prog 28 #[v] w fun e w' => ∃ F b, e = .returned (.func (.func F) #[] #[.pointer (some ⟨b, 0, none⟩)]) ∧ Tl w' (.func (.func F) #[] #[.pointer (some ⟨b, 0, none⟩)]) (fun x => decide (x ∈ ids)) ∧ Below w.heap.size w w' := by
  obtain ⟨Ai, ci, rfl⟩ := hi.shape
  obtain ⟨w1, hw1⟩ : ∃ z, z = (w.alloc (.map #[] 0)).alloc (.cells #[.map (some w.heap.size)] 69) := ⟨_, rfl⟩
  have b0 : Below w.heap.size w (w.alloc (.map #[] 0)) := below_new w _
  have b1 : Below w.heap.size w w1 := by rw [hw1]; exact b0.trans ((below_new (w.alloc (.map #[] 0)) _).mono b0.size)
  have hM1 : MapS w1 w.heap.size 0 (timesF fun _ => 0) := by
    rw [hw1]; exact MapS.below (MapS.made w) (below_new _ _) (by simp)
  have hc1 : w1.cell? ⟨w.heap.size + 1, 0, none⟩ = some (.map (some w.heap.size)) := by rw [hw1]; simp
  have Hi := Lib.hid hi; have His := Lib.hid his; have HW1 := Lib.hid hw1; have HB1 := Lib.hid b1; have HM1 := Lib.hid hM1; have HC1 := Lib.hid hc1
  clear hi his hw1 b0 b1 hM1 hc1
  go_enter Tryz.func28, Tryz.ntmps28
  have hmm := @run_makeMap Tryz.prog
  go_upto_region 2 with fail
  rw [← HW1.out]
  clear hmm
  go_wp2_with fail
  go_loopw [9] (fun i wr => Hid (Below w.heap.size w wr) ∧ ∃ (k : Nat) (c : Bs → Nat), k ≤ ids.length ∧ i = .int .i64 k ∧ Hid (MapS wr w.heap.size k (timesF c)) ∧ Hid (∀ x, c x = 0 ↔ x ∉ ids.take k) ∧ Hid (∀ x, c x ≤ k) ∧ Hid (wr.cell? ⟨w.heap.size + 1, 0, none⟩ = some (.map (some w.heap.size)))) (fun i _ => ids.length - (intOf i).toNat)
  case atStart => exact ⟨HB1, 0, fun _ => 0, Nat.zero_le _, rfl, HM1, Lib.hid (fun x => by simp), Lib.hid (fun x => Nat.le_refl _), HC1⟩
  case round =>
    obtain ⟨hB, k, c, hk, rfl, hM, hC, hL, hCe⟩ := hrel
    by_cases hlt : k < ids.length
    · obtain ⟨g, o, c', e, _, hg⟩ := Hi.out.pos (by omega)
      cases e
      have p0 := StrsR.cell (Hi.out.below hB.out (Nat.le_refl _)) k hlt
      have hlen := His.out _ (getD_mem ids [] k hlt)
      have htk := take_getD ids [] k hlt
      obtain ⟨x, hx⟩ : ∃ x, x = ids.getD k ([] : Bs) := ⟨_, rfl⟩
      rw [← hx] at p0 hlen htk
      unfold SV at p0
      have hlook := hM.out.look Tryz.underlying69 (zeroInt wr) (x := x) (by unfold maxLen; omega)
      rw [timesF_get] at hlook
      have hle := hL.out x
      obtain ⟨q, hq⟩ : ∃ q, q = c x := ⟨_, rfl⟩
      rw [← hq] at hlook hle
      have hC2 : ∀ y, incC c x y = 0 ↔ y ∉ ids.take (k + 1) := fun y => by
        rw [htk]
        unfold incC
        by_cases e : y = x
        · rw [if_pos e, e]; simp
        · rw [if_neg e, hC.out y]; simp [e]
      have hL2 : ∀ y, incC c x y ≤ k + 1 := fun y => by
        unfold incC
        by_cases e : y = x
        · rw [if_pos e, ← hq]; omega
        · rw [if_neg e]; have := hL.out y; omega
      have q0 := hCe.out
      have HQ := Lib.hid hq; have HC2 := Lib.hid hC2; have HL2 := Lib.hid hL2; have HLen := Lib.hid hlen
      clear hq hC2 hL2 htk hx hC hL
      go_wp2_with (at_mapUpdate; refine wpList_putS rfl _ _ _ 69 3 rfl Tryz.underlying69 w.heap.size k _ x (.int .i64 ((q : Int) + 1)) rfl rfl rfl hM.out (by unfold maxLen; omega) (by unfold maxLen; omega) ?_)
      intro w2 hM2 hg2
      rw [HQ.out, timesF_inc] at hM2
      have HM2 := Lib.hid hM2
      have HB2 := Lib.hid (hB.out.grown hg2 hB.out.size (fun j e => by cases e; exact Nat.le_refl _))
      have HCe2 : Hid (w2.cell? ⟨w.heap.size + 1, 0, none⟩ = some (.map (some w.heap.size))) := Lib.hid (((But.of_grown hg2).cell (p := ⟨w.heap.size + 1, 0, none⟩) (World.block_lt_of_cell? _ _ hCe.out) (fun e => absurd (Option.some.inj e) (by show ¬ w.heap.size = w.heap.size + 1; omega))).trans hCe.out)
      clear hM2 hg2 p0 hlook q0
      go_wp2_with fail
      go_roundw
      case rel => exact ⟨HB2, k + 1, _, hlt, by go_num, HM2, HC2, HL2, HCe2⟩
      case measure => simp [intOf]; omega
    · obtain rfl : k = ids.length := by omega
      rw [List.take_length] at hC
      have HT : Hid (Tl wr (.func (.func 42) #[] #[.pointer (some ⟨w.heap.size + 1, 0, none⟩)]) (fun x => decide (x ∈ ids))) := Lib.hid ⟨_, _, rfl, enters_among, fun W hW x hx => by
        have h := among1_p x hx W (w.heap.size + 1) w.heap.size ids.length c ((hW.cell (p := ⟨w.heap.size + 1, 0, none⟩) (World.block_lt_of_cell? _ _ hCe.out)).trans hCe.out) (hM.out.below hW hM.out.lt)
        have e : decide (0 < c x) = decide (x ∈ ids) := by
          rw [Bool.eq_iff_iff, decide_eq_true_iff, decide_eq_true_iff]
          have := hC.out x
          constructor
          · intro h1
            refine Classical.not_not.1 fun h2 => ?_
            have := this.2 h2; omega
          · intro h1
            rcases Nat.eq_zero_or_pos (c x) with h2 | h2
            · exact absurd h1 (this.1 h2)
            · exact h2
        rw [e] at h; exact h⟩
      go_wp2_with fail
      go_ret
      exact ⟨_, _, rfl, HT.out, hB.out⟩
theorem store_fn (W : World) (b : Nat) (f : Go.Fn) (x y : Array Value) (u : Value) (h : W.cell? ⟨b, 0, none⟩ = some u) (hf : W.frozen? ⟨b, 0, none⟩ = false) : (store ⟨b, 0, none⟩ (.func f x y)).run Tryz.prog W = .ok () (W.setCell ⟨b, 0, none⟩ (.func f x y)) := by
  rw [run_store Tryz.prog W ⟨b, 0, none⟩ _ _ (by rfl)]
  simp [h, hf]
set_option maxRecDepth 100000 in
theorem beside1_p (x : Bs) (_hx : x.length ≤ 1000000) (W : World) (b b0 : Nat) (F : FuncId) (p : Bs → Bool) (hc : W.cell? ⟨b, 0, none⟩ = some (.func (.func F) #[] #[.pointer (some ⟨b0, 0, none⟩)])) (h0 : Enters F) (ht : Calls Tryz.prog F #[SV x, .pointer (some ⟨b0, 0, none⟩)] W (BoolB (p x) W)) :
    Calls Tryz.prog 40 #[SV x, .pointer (some ⟨b, 0, none⟩)] W (BoolB (!p x) W) := by
  unfold SV at ht ⊢
  have HT := Lib.hid ht
  have hEn := fun args => h0 args W
  obtain ⟨q, hq⟩ : ∃ q, q = p x := ⟨_, rfl⟩
  rw [← hq] at HT ⊢
  clear ht hq h0
  go_enter Tryz.func40, Tryz.ntmps40
  go_wp2_with fail
  refine HT.out.mono ?_
  rintro e w' ⟨rfl, hb⟩
  clear hEn
  have HB := Lib.hid hb
  clear hb
  go_wp2_with fail
  go_ret
  exact ⟨rfl, HB.out⟩
set_option maxHeartbeats 2000000 in
set_option maxRecDepth 100000 in
theorem beside_p {w : World} {v : Value} {ids : List Bs} (hi : StrsR w v ids) (hil : ids.length ≤ 1000000) (his : ∀ x ∈ ids, x.length ≤ 1000000) :
    Calls Tryz.prog 25 #[v] w fun e w' => ∃ F b, e = .returned (.func (.func F) #[] #[.pointer (some ⟨b, 0, none⟩)]) ∧ Tl w' (.func (.func F) #[] #[.pointer (some ⟨b, 0, none⟩)]) (fun x => !decide (x ∈ ids)) ∧ Below w.heap.size w w' := by
  have HA := Lib.hid (among_p hi hil his)
  obtain ⟨A, c, rfl⟩ := hi.shape
  obtain ⟨n, hn⟩ : ∃ n, n = ids.length := ⟨_, rfl⟩
  rw [← hn] at HA ⊢
  clear hi his hn hil
  go_enter Tryz.func25, Tryz.ntmps25
  go_wp2_with fail
  refine HA.out.mono ?_
  rintro e w1 ⟨F, b, rfl, ht, hb⟩
  obtain ⟨wx, hwx⟩ : ∃ z, z = w1.alloc (.cells #[.nilFunc] 56) := ⟨_, rfl⟩
  have bx : Below w1.heap.size w1 wx := by rw [hwx]; exact below_new _ _
  have kx : wx.heap[w1.heap.size]? = some (.cells #[.nilFunc] 56 (0, 0)) := by rw [hwx]; exact heap_alloc_new _ _
  have hst := store_fn wx w1.heap.size (.func F) #[] #[.pointer (some ⟨b, 0, none⟩)] .nilFunc ((cell_of_row wx _ 0 _ _ _ kx).trans rfl) (by simp [World.frozen?, kx])
  obtain ⟨w2, hw2⟩ : ∃ z, z = wx.setCell ⟨w1.heap.size, 0, none⟩ (.func (.func F) #[] #[.pointer (some ⟨b, 0, none⟩)]) := ⟨_, rfl⟩
  rw [← hw2] at hst
  have b2 : Below w1.heap.size w1 w2 := by rw [hw2]; exact bx.setCell (p := ⟨w1.heap.size, 0, none⟩) (Nat.le_refl _) _
  have hc2 : w2.cell? ⟨w1.heap.size, 0, none⟩ = some (.func (.func F) #[] #[.pointer (some ⟨b, 0, none⟩)]) := by rw [hw2]; exact World.cell?_setCell_same _ _ _ (u := .nilFunc) ((cell_of_row wx _ 0 _ _ _ kx).trans rfl)
  have HT : Hid (Tl w2 (.func (.func 40) #[] #[.pointer (some ⟨w1.heap.size, 0, none⟩)]) (fun x => !decide (x ∈ ids))) := Lib.hid ⟨_, _, rfl, enters_beside, fun W hW x hx => by
    obtain ⟨F', b', e', h0, h⟩ := ht
    cases e'
    exact beside1_p x hx W _ _ _ (fun x => decide (x ∈ ids)) ((hW.cell (p := ⟨w1.heap.size, 0, none⟩) (World.block_lt_of_cell? _ _ hc2)).trans hc2) h0 (h W (b2.trans (hW.mono b2.size)) x hx)⟩
  have HB := Lib.hid (hb.trans (b2.mono hb.size))
  rw [hwx] at hst
  clear ht hb bx kx b2 hc2 hw2 HA hwx
  go_upto_region 2 with fail
  clear hst
  go_wp2_with fail
  go_ret
  exact ⟨_, _, rfl, HT.out, HB.out⟩
/-- What only answers. -/
def OnlyP (l : List Bs) (w : World) (e : Ending) (w' : World) : Prop := ∃ v, e = .returned v ∧ OwK 9 1 strC w' w.heap.size v l ∧ Below w.heap.size w w'
set_option maxHeartbeats 4000000 in
set_option maxRecDepth 100000 in
theorem only_p {w : World} {v fv : Value} {l : List Bs} {p : Bs → Bool} (hv : StrsR w v l) (hl : l.length ≤ 900000) (hs : ∀ x ∈ l, x.length ≤ 1000000) (ht : Tl w fv p) :
    Calls Tryz.prog 27 #[v, fv] w (OnlyP (l.filter p) w) := by
  obtain ⟨A, c, rfl⟩ := hv.shape
  obtain ⟨F, b, rfl, h0, ht⟩ := ht
  obtain ⟨n, hn⟩ : ∃ n, n = l.length := ⟨_, rfl⟩
  have hnl : n ≤ 900000 := by omega
  rw [← hn] at hv ⊢
  have Hv := Lib.hid hv; have Hs := Lib.hid hs; have HT := Lib.hid ht; have HN := Lib.hid hn
  clear hv hs ht hn hl
  go_enter Tryz.func27, Tryz.ntmps27
  go_wp2_with fail
  go_loopw [5, 10] (fun z i wr => Hid (Below w.heap.size w wr) ∧ ∃ k : Nat, k ≤ n ∧ i = .int .i64 k ∧ Hid (OwK 9 1 strC wr w.heap.size z ((l.take k).filter p))) (fun _ i _ => n - (intOf i).toNat)
  case atStart => exact ⟨Lib.hid (Below.refl _ _), 0, Nat.zero_le _, rfl, Lib.hid (OwK.nil _ _ _ _ _)⟩
  case round =>
    obtain ⟨hB, k, hk, rfl, hO⟩ := hrel
    by_cases hlt : k < n
    · obtain ⟨g, o, c', e, _, hg⟩ := Hv.out.pos (by have := HN.out; omega)
      obtain rfl : A = some ⟨g, o, none⟩ := by rw [← HN.out] at e; cases e; rfl
      clear e
      have hlt2 : k < l.length := by have := HN.out; omega
      have p0 := StrsR.cell (Hv.out.below hB.out (Nat.le_refl _)) k hlt2
      have hlen := Hs.out _ (getD_mem l [] k hlt2)
      have htk := take_getD l [] k hlt2
      obtain ⟨x, hx⟩ : ∃ x, x = l.getD k ([] : Bs) := ⟨_, rfl⟩
      rw [← hx] at p0 hlen htk
      unfold SV at p0
      have hcall := HT.out wr hB.out x hlen
      unfold SV at hcall
      have HCl := Lib.hid hcall
      have hEn := fun args => h0 args wr
      have hfl : ((l.take k).filter p).length ≤ k := by
        have := List.length_filter_le p (l.take k)
        rw [List.length_take] at this; omega
      have HFl := Lib.hid hfl; have HTk := Lib.hid htk
      clear hcall hfl htk hx hlen hg hlt2
      cases hq : p x with
      | true =>
        rw [hq] at HCl
        have HS : Hid ((l.take (k + 1)).filter p = (l.take k).filter p ++ [x]) := Lib.hid (by rw [HTk.out]; exact filter_snoc_yes hq)
        clear hq HTk
        go_wp2_with fail
        refine HCl.out.mono ?_
        rintro e w2 ⟨rfl, hb2⟩
        clear hEn
        have HB2 := Lib.hid (hB.out.trans (hb2.mono hB.out.size))
        have HO2 := Lib.hid (OwK.below hO.out hb2 (Nat.le_refl _))
        clear hb2 hO p0 HCl
        obtain ⟨w3, hw3⟩ : ∃ y, y = w2.alloc (.cells #[.string ⟨x.toArray⟩] 9) := ⟨_, rfl⟩
        have b3 : Below w2.heap.size w2 w3 := by rw [hw3]; exact below_new _ _
        have k3 : w3.heap[w2.heap.size]? = some (.cells #[.string ⟨x.toArray⟩] 9 (0, 0)) := by rw [hw3]; exact heap_alloc_new _ _
        have HO3 := Lib.hid (OwK.below HO2.out b3 (Nat.le_refl _))
        have HB3 := Lib.hid (HB2.out.trans (b3.mono HB2.out.size))
        have HK3 := Lib.hid k3; have HW3 := Lib.hid hw3
        clear b3 k3 hw3 HO2
        go_wp2_with (first
          | rw [← HW3.out]
          | (at_builtin; refine wpList_all strK rfl _ _ rfl w.heap.size _ (.slice (some ⟨w2.heap.size, 0, none⟩) 1 1) ((l.take k).filter p) [x] rfl rfl HO3.out ?c0 ?c1 (by decide) HB3.out.size ?_))
        case c0 => exact .inr ⟨w2.heap.size, 0, 1, rfl, Nat.le_refl _, (by have := (Array.getElem?_eq_some_iff.1 HK3.out).1; exact this), fun j hj y hy i hi => by
          obtain rfl : j = 0 := by simpa using hj
          obtain rfl : i = 0 := by omega
          cases hy
          exact (cell_of_row w3 _ 0 _ _ _ HK3.out).trans rfl⟩
        case c1 => have := HFl.out; simp only [List.length_singleton]; omega
        intro z4 w4 ho4 hb4
        have HO4 := Lib.hid ho4; have HB4 := Lib.hid (HB3.out.trans hb4)
        clear ho4 hb4 HO3 HB3 HK3
        go_wp2_with fail
        go_roundw
        case rel => exact ⟨HB4, k + 1, hlt, by go_num, Lib.hid (by rw [HS.out]; exact HO4.out)⟩
        case measure => simp [intOf]; omega
      | false =>
        rw [hq] at HCl
        have HS : Hid ((l.take (k + 1)).filter p = (l.take k).filter p) := Lib.hid (by rw [HTk.out]; exact filter_snoc_no hq)
        clear hq HTk
        go_wp2_with fail
        refine HCl.out.mono ?_
        rintro e w2 ⟨rfl, hb2⟩
        clear hEn
        have HB2 := Lib.hid (hB.out.trans (hb2.mono hB.out.size))
        have HO2 := Lib.hid (OwK.below hO.out hb2 (Nat.le_refl _))
        clear hb2 hO p0 HCl
        go_wp2_with fail
        go_roundw
        case rel => exact ⟨HB2, k + 1, hlt, by go_num, Lib.hid (by rw [HS.out]; exact HO2.out)⟩
        case measure => simp [intOf]; omega
    · obtain rfl : k = n := by omega
      have HO : Hid (OwK 9 1 strC wr w.heap.size u5 (l.filter p)) := Lib.hid (by have h := hO.out; rw [HN.out, List.take_length] at h; exact h)
      clear hO
      go_wp2_with fail
      go_ret
      exact ⟨_, rfl, HO.out, hB.out⟩
theorem any_snoc {l : List Bs} {p : Bs → Bool} {k : Nat} (hk : k < l.length) : (l.take (k + 1)).any p = ((l.take k).any p || p (l.getD k [])) := by
  rw [take_getD l [] k hk, List.any_append]; simp
set_option maxHeartbeats 4000000 in
set_option maxRecDepth 100000 in
theorem index_p {w : World} {v fv : Value} {l : List Bs} {p : Bs → Bool} (hv : StrsR w v l) (hl : l.length ≤ 900000) (hs : ∀ x ∈ l, x.length ≤ 1000000) (ht : Tl w fv p) :
    Calls Tryz.prog 39 #[v, fv] w fun e w' => ∃ z : Int, e = .returned (.int .i64 z) ∧ (0 ≤ z ↔ l.any p = true) ∧ Below w.heap.size w w' := by
  obtain ⟨A, c, rfl⟩ := hv.shape
  obtain ⟨F, b, rfl, h0, ht⟩ := ht
  obtain ⟨n, hn⟩ : ∃ n, n = l.length := ⟨_, rfl⟩
  have hnl : n ≤ 900000 := by omega
  rw [← hn] at hv ⊢
  have Hv := Lib.hid hv; have Hs := Lib.hid hs; have HT := Lib.hid ht; have HN := Lib.hid hn
  clear hv hs ht hn hl
  go_enter Tryz.func39, Tryz.ntmps39
  go_wp2_with fail
  go_loopw [8] (fun i wr => Hid (Below w.heap.size w wr) ∧ ∃ k : Nat, k ≤ n ∧ i = .int .i64 k ∧ Hid ((l.take k).any p = false)) (fun i _ => n - (intOf i).toNat)
  case atStart => exact ⟨Lib.hid (Below.refl _ _), 0, Nat.zero_le _, rfl, Lib.hid (by simp)⟩
  case round =>
    obtain ⟨hB, k, hk, rfl, hO⟩ := hrel
    by_cases hlt : k < n
    · obtain ⟨g, o, c', e, _, hg⟩ := Hv.out.pos (by have := HN.out; omega)
      obtain rfl : A = some ⟨g, o, none⟩ := by rw [← HN.out] at e; cases e; rfl
      clear e
      have hlt2 : k < l.length := by have := HN.out; omega
      have p0 := StrsR.cell (Hv.out.below hB.out (Nat.le_refl _)) k hlt2
      have hlen := Hs.out _ (getD_mem l [] k hlt2)
      have hmem := getD_mem l [] k hlt2
      have hsn := any_snoc (p := p) hlt2
      rw [hO.out, Bool.false_or] at hsn
      obtain ⟨x, hx⟩ : ∃ x, x = l.getD k ([] : Bs) := ⟨_, rfl⟩
      rw [← hx] at p0 hlen hsn hmem
      unfold SV at p0
      have hcall := HT.out wr hB.out x hlen
      unfold SV at hcall
      have HCl := Lib.hid hcall
      have hEn := fun args => h0 args wr
      have HSn := Lib.hid hsn; have HMem := Lib.hid hmem
      clear hcall hsn hx hlen hg hlt2 hmem
      cases hq : p x with
      | true =>
        rw [hq] at HCl
        have HE : Hid (l.any p = true) := Lib.hid (List.any_eq_true.2 ⟨x, HMem.out, hq⟩)
        clear hq
        go_wp2_with fail
        refine HCl.out.mono ?_
        rintro e w2 ⟨rfl, hb2⟩
        clear hEn
        have HB2 := Lib.hid (hB.out.trans (hb2.mono hB.out.size))
        clear hb2 p0 HCl
        go_wp2_with fail
        go_ret
        exact ⟨_, rfl, ⟨fun _ => HE.out, fun _ => Int.natCast_nonneg _⟩, HB2.out⟩
      | false =>
        rw [hq] at HCl HSn
        clear hq
        go_wp2_with fail
        refine HCl.out.mono ?_
        rintro e w2 ⟨rfl, hb2⟩
        clear hEn
        have HB2 := Lib.hid (hB.out.trans (hb2.mono hB.out.size))
        clear hb2 p0 HCl
        go_wp2_with fail
        go_roundw
        case rel => exact ⟨HB2, k + 1, hlt, by go_num, HSn⟩
        case measure => simp [intOf]; omega
    · obtain rfl : k = n := by omega
      have HE : Hid (l.any p = false) := Lib.hid (by have h := hO.out; rw [HN.out, List.take_length] at h; exact h)
      clear hO
      go_wp2_with fail
      go_ret
      exact ⟨-1, rfl, ⟨fun h => absurd h (by decide), fun h => by rw [HE.out] at h; cases h⟩, hB.out⟩
theorem contains_p {w : World} {v fv : Value} {l : List Bs} {p : Bs → Bool} (hv : StrsR w v l) (hl : l.length ≤ 900000) (hs : ∀ x ∈ l, x.length ≤ 1000000) (ht : Tl w fv p) :
    Calls Tryz.prog 24 #[v, fv] w (BoolB (l.any p) w) := by
  have HI := Lib.hid (index_p hv hl hs ht)
  obtain ⟨A, c, rfl⟩ := hv.shape
  obtain ⟨F, b, rfl, h0, ht⟩ := ht
  obtain ⟨n, hn⟩ : ∃ n, n = l.length := ⟨_, rfl⟩
  obtain ⟨q, hq⟩ : ∃ q, q = l.any p := ⟨_, rfl⟩
  rw [← hq] at HI ⊢
  rw [← hn] at HI ⊢
  clear hv hs ht hn hl hq h0
  go_enter Tryz.func24, Tryz.ntmps24
  go_wp2_with fail
  refine HI.out.mono ?_
  rintro e w2 ⟨z, rfl, hz, hb2⟩
  have HB := Lib.hid hb2
  clear hb2 HI
  cases q with
  | true =>
    have hz1 := hz.2 rfl
    clear hz
    go_wp2_with fail
    go_ret
    exact ⟨by simp, HB.out⟩
  | false =>
    have hz1 : ¬ 0 ≤ z := fun h => by have := hz.1 h; cases this
    clear hz
    go_wp2_with fail
    go_ret
    exact ⟨by simp [hz1], HB.out⟩
end Go.Proofs.YtialgldmogigfaaGreatDoor.Ct


namespace Go.Proofs.YtialgldmogigfaaGreatDoor.Ct
open Go.Proofs.YtialgldmogigfaaGreatDoor
open Go Go.RowKit Go.Maps

/-- Rows of texts as they lie in memory. -/
def rowC (v : Value) : List Value := [v]
theorem rowC_len (v : Value) : (rowC v).length = 1 := rfl
def RowsR (w : World) (v : Value) (rows : List (List Bs)) : Prop := ∃ vs : List Value, RdK 1 rowC w v vs ∧ vs.length = rows.length ∧ ∀ (k : Nat) (u : Value) (r : List Bs), vs[k]? = some u → rows[k]? = some r → StrsR w u r
theorem RowsR.below {w w' : World} {v : Value} {rows : List (List Bs)} {b : Nat} (h : RowsR w v rows) (hb : Below b w w') (hlt : w.heap.size ≤ b) : RowsR w' v rows := by
  obtain ⟨vs, h1, h2, h3⟩ := h
  exact ⟨vs, h1.below hb hlt, h2, fun k u r hu hr => RdK.below (h3 k u r hu hr) hb hlt⟩
theorem RowsR.shape {w : World} {v : Value} {rows : List (List Bs)} (h : RowsR w v rows) : ∃ A c, v = .slice A rows.length c := by
  obtain ⟨vs, h1, h2, _⟩ := h
  obtain ⟨A, c, e⟩ := h1.shape
  exact ⟨A, c, by rw [e, h2]⟩
theorem RowsR.pos {w : World} {v : Value} {rows : List (List Bs)} (h : RowsR w v rows) (hl : 0 < rows.length) : ∃ g o c, v = .slice (some ⟨g, o, none⟩) rows.length c ∧ rows.length ≤ c ∧ g < w.heap.size := by
  obtain ⟨vs, h1, h2, _⟩ := h
  obtain ⟨g, o, c, e, hc, hg⟩ := h1.pos (by omega)
  exact ⟨g, o, c, by rw [e, h2], by omega, hg⟩
theorem RowsR.at {w : World} {g o n c : Nat} {rows : List (List Bs)} (h : RowsR w (.slice (some ⟨g, o, none⟩) n c) rows) {k : Nat} {r : List Bs} (hr : rows[k]? = some r) :
    ∃ A d, w.cell? ⟨g, o + k, none⟩ = some (.slice A r.length d) ∧ StrsR w (.slice A r.length d) r := by
  obtain ⟨vs, h1, h2, h3⟩ := h
  have hk : k < vs.length := by have := (List.getElem?_eq_some_iff.1 hr).1; omega
  have hu : vs[k]? = some vs[k] := List.getElem?_eq_getElem hk
  have hs := h3 k _ r hu hr
  obtain ⟨A, d, e⟩ := hs.shape
  rcases h1 with ⟨⟨_, e1⟩, e2⟩ | ⟨g', o', c', e1, _, _, hcell⟩
  · rw [e2] at hk; cases hk
  · cases e1
    have hc := hcell k hk _ hu 0 (by omega)
    rw [Nat.mul_one, Nat.add_zero] at hc
    refine ⟨A, d, ?_, by rw [← e]; exact hs⟩
    rw [hc, e]; rfl
/-- One row, in a block of its own. -/
theorem RowsR.one {w : World} {v : Value} {r : List Bs} (h : StrsR w v r) {g : Nat} (hg : w.heap[g]? = some (.cells #[v] 23 (0, 0))) : RowsR w (.slice (some ⟨g, 0, none⟩) 1 1) [r] :=
  ⟨[v], .inr ⟨g, 0, 1, rfl, Nat.le_refl _, (Array.getElem?_eq_some_iff.1 hg).1, fun j hj y hy i hi => by
    obtain rfl : j = 0 := by simpa using hj
    obtain rfl : i = 0 := by omega
    cases hy
    exact (cell_of_row w g 0 _ _ _ hg).trans rfl⟩, rfl, fun k u r' hu hr => by
    match k, hu, hr with
    | 0, hu, hr => cases hu; cases hr; exact h⟩
set_option maxHeartbeats 4000000 in
set_option maxRecDepth 100000 in
theorem GrowS_nil (n : Nat) (hn : n ≤ 1000000) (w : World) : Calls Tryz.prog 59 #[.slice none 0 0, .int .i64 (n : Int)] w fun e w' => ∃ v, e = .returned v ∧ OwK 9 1 strC w' w.heap.size v ([] : List Bs) ∧ Below w.heap.size w w' := by
  rcases Nat.eq_zero_or_pos n with rfl | h0
  · go_enter Tryz.func59, Tryz.ntmps59
    go_wp2_with fail
    go_ret
    exact ⟨_, rfl, OwK.nil _ _ _ _ _, Below.refl _ _⟩
  · obtain ⟨z, hz, hzs⟩ := strK.info
    obtain ⟨i0, hi, hz0, hz1, hz2⟩ := info_parts hz
    obtain ⟨ii, hii⟩ : ∃ i, Tryz.prog.info? 3 = some i := Option.isSome_iff_exists.1 (by kernel_rfl)
    have hrun := fun ty => Lib.run_append_grow_zeros w 23 3 ty 9 i0 z .i64 .i64 Tryz.underlying23 Tryz.underlying3 hi hz0 none 0 0 [] (run_firstCells_none w.drew i0.size 0 0 0) n h0 (by omega) (by omega) (by omega)
      (by rw [hz2]; omega) (by rw [Nat.zero_add]; exact growslice_fits h0 (by rw [hz2]; omega))
    rw [Nat.zero_add] at hrun
    obtain ⟨G, hG⟩ : ∃ G, G = grownCap w n 0 9 := ⟨_, rfl⟩
    have hge := grownCap_ge w n 0 9
    have hcm := grownCap_le_maxLen w n 0 9 (by unfold maxLen; omega)
    rw [← hG] at hrun hge hcm
    obtain ⟨w1, hw1⟩ : ∃ w1, w1 = w.drew.alloc (.cells (([] : List Value).toArray ++ Builtin.zeroCells z.cells n ++ Builtin.zeroCells z.cells (G - n)) 9) := ⟨_, rfl⟩
    rw [← hw1] at hrun
    have hb1 : Below w.heap.size w w1 := by rw [hw1]; exact (show Below w.heap.size w w.drew from ⟨rfl, rfl, rfl, Nat.le_refl _, fun _ _ => rfl⟩).alloc (Nat.le_refl _) _
    have hN : OwK 9 1 strC w1 w.heap.size (.slice (some ⟨w.heap.size, 0, none⟩) 0 G) ([] : List Bs) := by
      refine ⟨rfl, .inr ⟨w.heap.size, G, _, rfl, Nat.le_refl _, by rw [hw1]; exact heap_alloc_new w.drew _, Nat.zero_le _, hcm, ?_, by simp⟩⟩
      simp only [Array.size_append, size_zeroCells, hzs, List.size_toArray, List.length_nil]
      omega
    have hsh : ∀ W, (Instr.sliceAt 23 (.slice (some ⟨w.heap.size, 0, none⟩) n G) none (some (.int .i64 0)) none).run Tryz.prog W = .ok (.slice (some ⟨w.heap.size, 0, none⟩) 0 G) W := fun W => by simp [go_sem]
    have Hsh := Lib.hid hsh
    have hG63 : G ≤ 9223372036854775807 := by unfold maxLen at hcm; omega
    have HR := Lib.hid hrun; have HB1 := Lib.hid hb1; have HN := Lib.hid hN
    have h1 : ¬ ((n : Int) < 0) := by omega
    have h4 : (0 : Int) < (n : Int) := by omega
    clear hz hzs hi hz0 hz1 hz2 hii hrun hG hge hcm hw1 hb1 hN hsh
    go_enter Tryz.func59, Tryz.ntmps59
    go_wp2_with (first | (at_builtin; refine Lib.wpList_append_run _ rfl _ _ _ _ rfl _ _ rfl rfl _ _ (HR.out _) ?_) | (refine wpList_slice rfl _ _ _ _ rfl _ _ _ _ rfl rfl rfl (Hsh.out _) ?_))
    go_ret
    exact ⟨_, rfl, HN.out, HB1.out⟩
def lenR (rows : List (List Bs)) : Nat := (rows.map List.length).sum
theorem lenR_snoc {rows : List (List Bs)} {k : Nat} {r : List Bs} (hr : rows[k]? = some r) : lenR (rows.take (k + 1)) = lenR (rows.take k) + r.length := by
  unfold lenR
  rw [List.take_add_one, hr, Option.toList_some, List.map_append, List.sum_append]; simp
theorem flat_len (rows : List (List Bs)) : rows.flatten.length = lenR rows := by rw [List.length_flatten]; rfl
theorem flat_snoc {rows : List (List Bs)} {k : Nat} {r : List Bs} (hr : rows[k]? = some r) : (rows.take (k + 1)).flatten = (rows.take k).flatten ++ r := by
  rw [List.take_add_one, hr, Option.toList_some, List.flatten_append]; simp
theorem lenR_take (rows : List (List Bs)) (k : Nat) : lenR (rows.take k) ≤ lenR rows := by
  unfold lenR
  have e : rows = rows.take k ++ rows.drop k := (List.take_append_drop k rows).symm
  conv => rhs; rw [e, List.map_append, List.sum_append]
  omega
set_option maxHeartbeats 8000000 in
set_option maxRecDepth 100000 in
theorem Concat_p {w : World} {v : Value} {rows : List (List Bs)} (hv : RowsR w v rows) (hl : rows.length ≤ 1000) (hr : lenR rows ≤ 900000) :
    Calls Tryz.prog 41 #[v] w (OnlyP rows.flatten w) := by
  obtain ⟨A, c, rfl⟩ := hv.shape
  obtain ⟨n, hn⟩ : ∃ n, n = rows.length := ⟨_, rfl⟩
  have hnl : n ≤ 1000 := by omega
  rw [← hn] at hv ⊢
  have Hv := Lib.hid hv; have HN := Lib.hid hn; have HL := Lib.hid hr
  clear hv hn hl hr
  go_enter Tryz.func41, Tryz.ntmps41
  go_wp2_with fail
  go_loopw [3, 11] (fun s i wr => wr = w ∧ ∃ k N : Nat, k ≤ n ∧ i = .int .i64 k ∧ s = .int .i64 (N : Int) ∧ N ≤ 900000 ∧ Hid (N = lenR (rows.take k))) (fun _ i _ => n - (intOf i).toNat)
  case atStart => exact ⟨rfl, 0, 0, Nat.zero_le _, rfl, rfl, Nat.zero_le _, Lib.hid (by simp [lenR])⟩
  case round =>
    obtain ⟨hwr, k, N, hk, rfl, rfl, hN9, hN⟩ := hrel
    subst hwr
    by_cases hlt : k < n
    · obtain ⟨g, o, c', e, _, hg⟩ := Hv.out.pos (by have := HN.out; omega)
      obtain rfl : A = some ⟨g, o, none⟩ := by rw [← HN.out] at e; cases e; rfl
      clear e
      obtain ⟨r, hr⟩ : ∃ r, rows[k]? = some r := ⟨_, List.getElem?_eq_getElem (by have := HN.out; omega)⟩
      obtain ⟨A1, d1, p0, hs⟩ := Hv.out.at hr
      have hsn := lenR_snoc hr
      have hle := lenR_take rows (k + 1)
      obtain ⟨q, hq⟩ : ∃ q, q = r.length := ⟨_, rfl⟩
      rw [← hq] at p0 hsn
      have h9 := HL.out
      have hN2 : N + q ≤ 900000 := by rw [hN.out, ← hsn]; omega
      have HN2 : Hid (N + q = lenR (rows.take (k + 1))) := Lib.hid (by rw [hsn, hN.out])
      have M1 : Hid (((N : Int) + (q : Int)) = ((N + q : Nat) : Int)) := Lib.hid (by omega)
      have hneg : ¬ ((N : Int) + (q : Int) < 0) := by omega
      clear hr hs hsn hle hq h9 hg hN
      go_wp2_with fail
      go_roundw
      case rel => exact ⟨by simp, k + 1, N + q, hlt, by go_num, by rw [M1.out], hN2, HN2⟩
      case measure => simp [intOf]; omega
    · have hkn : k = n := by omega
      have HG := Lib.hid (GrowS_nil N (by omega) wr)
      clear hkn hN
      go_wp2_with fail
      refine HG.out.mono ?_
      rintro e w2 ⟨v2, rfl, ho2, hb2⟩
      have HO2 := Lib.hid ho2; have HB2 := Lib.hid hb2
      obtain ⟨wo, hwo⟩ : ∃ wo, wo = wr := ⟨_, rfl⟩
      subst hwo
      clear ho2 hb2 HG
      go_wp2_with fail
      go_loopw [6, 27] (fun z i wr => Hid (Below wo.heap.size wo wr) ∧ ∃ k : Nat, k ≤ n ∧ i = .int .i64 k ∧ Hid (OwK 9 1 strC wr wo.heap.size z (rows.take k).flatten)) (fun _ i _ => n - (intOf i).toNat)
      case atStart => exact ⟨HB2, 0, Nat.zero_le _, rfl, HO2⟩
      case round =>
        obtain ⟨hB, k2, hk2, rfl, hO⟩ := hrel
        by_cases hlt2 : k2 < n
        · obtain ⟨g, o, c', e, _, hg⟩ := Hv.out.pos (by have := HN.out; omega)
          obtain rfl : A = some ⟨g, o, none⟩ := by rw [← HN.out] at e; cases e; rfl
          clear e
          obtain ⟨r, hr⟩ : ∃ r, rows[k2]? = some r := ⟨_, List.getElem?_eq_getElem (by have := HN.out; omega)⟩
          obtain ⟨A1, d1, p0, hs⟩ := (Hv.out.below hB.out (Nat.le_refl _)).at hr
          have HSn := Lib.hid (flat_snoc hr)
          have HLe : Hid (((rows.take k2).flatten).length + r.length ≤ 1000000) := Lib.hid (by
            rw [flat_len, ← lenR_snoc hr]
            have := lenR_take rows (k2 + 1); have := HL.out; omega)
          have HS := Lib.hid hs
          have HBs : Hid (wo.heap.size ≤ wr.heap.size) := Lib.hid hB.out.size
          obtain ⟨rl, hrl⟩ : ∃ q, q = r.length := ⟨_, rfl⟩
          rw [← hrl] at p0 HS
          clear hr hs hg hrl
          go_wp2_with (at_builtin; refine wpList_all strK rfl _ _ rfl wo.heap.size _ (.slice A1 rl d1) (rows.take k2).flatten r rfl rfl hO.out HS.out HLe.out (by decide) HBs.out ?_)
          intro z4 w4 ho4 hb4
          have HO4 : Hid (OwK 9 1 strC w4 wo.heap.size z4 (rows.take (k2 + 1)).flatten) := Lib.hid (by rw [HSn.out]; exact ho4)
          have HB4 := Lib.hid (hB.out.trans hb4)
          clear ho4 hb4 p0
          go_wp2_with fail
          go_roundw
          case rel => exact ⟨HB4, k2 + 1, hlt2, by go_num, HO4⟩
          case measure => simp [intOf]; omega
        · obtain rfl : k2 = n := by omega
          have HO : Hid (OwK 9 1 strC wr wo.heap.size u6 rows.flatten) := Lib.hid (by have h := hO.out; rw [HN.out, List.take_length] at h; exact h)
          clear hO
          go_wp2_with fail
          go_ret
          exact ⟨_, rfl, HO.out, hB.out⟩
end Go.Proofs.YtialgldmogigfaaGreatDoor.Ct


namespace Go.Proofs.YtialgldmogigfaaGreatDoor
open Go Go.RowKit Go.Maps
theorem th_mem {L : List Hld} {x : Bs} (h : thB L x = true) : ∃ u ∈ L, u.id = x := by
  obtain ⟨u, hu⟩ := thB_some.1 h
  exact ⟨u, findL_mem hu, findL_id hu⟩
theorem IsClo.few {L : List Hld} {tips a b : List Bs} (h : IsClo (wfL L) (thB L) tips a b) : a.length ≤ L.length := by
  rw [← List.length_map (f := Hld.id)]
  exact nodup_len h.ra.nodup fun x hx => by
    obtain ⟨u, hu, e⟩ := th_mem ((h.ma x).1 hx).2
    exact List.mem_map.2 ⟨u, hu, e⟩
end Go.Proofs.YtialgldmogigfaaGreatDoor
