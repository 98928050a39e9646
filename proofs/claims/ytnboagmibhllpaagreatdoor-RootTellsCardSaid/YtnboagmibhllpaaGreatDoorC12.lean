/-
  The reader: upTo, number.
-/
import Derived.Deep.QuietTactic
import Derived.BigQuiet
import Derived.Test.YtnboagmibhllpaaGreatDoorC11

namespace Go.Proofs.YtnboagmibhllpaaGreatDoor.Ro
open Go.Proofs.YtnboagmibhllpaaGreatDoor
open Go.Proofs.YtnboagmibhllpaaGreatDoor.Nu (decL)
open Go Go.RowKit

/-- What the calls ask of the listed variables. -/
structure PrA (E : ErA) (w : World) : Prop where
  num : Nu.Pr w
  er : Er E w
theorem PrA.below {E : ErA} {w w' : World} (h : PrA E w) (hb : Below w.heap.size w w') : PrA E w' := ⟨h.num.below hb, h.er.below hb⟩
def UpP (most : Nat) (s : Bs) (w : World) (e : Ending) (w' : World) : Prop :=
  ((∃ n : Nat, upO most s = some n ∧ e = .returned (.tuple #[.int .i64 (n : Int), .nilIface])) ∨ (upO most s = none ∧ ∃ x, e = .returned (.tuple #[.int .i64 0, ev x]))) ∧ Below w.heap.size w w'
set_option maxHeartbeats 4000000 in
set_option maxRecDepth 100000 in
theorem upTo_p {w : World} {E : ErA} (hp : PrA E w) (most : Nat) (s : Bs) (hs : s.length ≤ 1000000) : Calls Tryz.prog 75 #[.int .i64 (most : Int), .string ⟨s.toArray⟩] w (UpP most s w) := by
  have hD := Nu.Decimal_any s hs w hp.num
  have HP := Lib.hid hp
  cases hd : decL s with
  | none =>
    rw [hd, Nu.decV_none] at hD
    have HD := Lib.hid hD
    have HU : Hid (upO most s = none) := Lib.hid (by unfold upO; rw [hd])
    clear hD hd hp
    unfold Nu.SV at HD
    go_enter Tryz.func75, Tryz.ntmps75
    go_wp2_with fail
    refine HD.out.mono ?_
    rintro e w1 ⟨rfl, l1⟩
    have e0 := (HP.out.er.below l1).form
    have L1 := Lib.hid l1
    unfold ev at e0
    clear l1 HD
    go_wp2_with fail
    go_quiet (fail)
    go_wp2_with fail
    go_ret2
    exact ⟨.inr ⟨HU.out, _, rfl⟩, bdr L1.out _⟩
  | some n =>
    rw [hd, Nu.decV_some] at hD
    have HD := Lib.hid hD
    by_cases hm : n ≤ most
    · have HU : Hid (upO most s = some n) := Lib.hid (by unfold upO; rw [hd]; exact if_pos hm)
      have hI : ¬ (most : Int) < (n : Int) := by omega
      clear hD hd hp hm
      unfold Nu.SV at HD
      go_enter Tryz.func75, Tryz.ntmps75
      go_wp2_with fail
      refine HD.out.mono ?_
      rintro e w1 ⟨rfl, l1⟩
      have L1 := Lib.hid l1
      clear l1 HD
      go_wp2_with fail
      go_ret2
      exact ⟨.inl ⟨n, HU.out, rfl⟩, L1.out⟩
    · have HU : Hid (upO most s = none) := Lib.hid (by unfold upO; rw [hd]; exact if_neg hm)
      have hI : (most : Int) < (n : Int) := by omega
      clear hD hd hp hm
      unfold Nu.SV at HD
      go_enter Tryz.func75, Tryz.ntmps75
      go_wp2_with fail
      refine HD.out.mono ?_
      rintro e w1 ⟨rfl, l1⟩
      have e0 := (HP.out.er.below l1).wrong
      have L1 := Lib.hid l1
      unfold ev at e0
      clear l1 HD
      go_wp2_with fail
      go_quiet (fail)
      go_wp2_with fail
      go_ret2
      exact ⟨.inr ⟨HU.out, _, rfl⟩, bdr L1.out _⟩

theorem trim_yes {l p : Bs} (h : p.isPrefixOf l = true) : Lib.trimPrefix l p = l.drop p.length ∧ Lib.hasPrefix l p = true := by
  have hh : Lib.hasPrefix l p = true := h
  exact ⟨by unfold Lib.trimPrefix; rw [hh]; rfl, hh⟩
theorem trim_no {l p : Bs} (h : p.isPrefixOf l = false) : Lib.hasPrefix l p = false := h
/-- What number's closure makes of a line. -/
def Num1P (word : Bs) (most : Nat) (l : Bs) (bn : Nat) (w : World) (e : Ending) (w' : World) : Prop :=
  ((∃ n : Nat, wordO word most l = some n ∧ e = .returned .nilIface ∧ w'.heap[bn]? = some (.cells #[.int .i64 (n : Int)] 3 (0, 0))) ∨ (wordO word most l = none ∧ (∃ x, e = .returned (ev x)) ∧ w'.heap[bn]? = some (.cells #[.int .i64 0] 3 (0, 0)))) ∧ But (fun k => k = bn) w w'
set_option maxHeartbeats 4000000 in
set_option maxRecDepth 100000 in
theorem num1_p {w : World} {E : ErA} (hp : PrA E w) (word : Bs) (most : Nat) (l : Bs) (hw : word.length ≤ 1000) (hl : l.length ≤ 1000000) {bw bm bn : Nat} (h1 : w.heap[bw]? = some (.cells #[.string ⟨word.toArray⟩] 9 (0, 0))) (h2 : w.heap[bm]? = some (.cells #[.int .i64 (most : Int)] 3 (0, 0))) (h3 : w.heap[bn]? = some (.cells #[.int .i64 0] 3 (0, 0))) :
    Calls Tryz.prog 73 #[.string ⟨l.toArray⟩, .pointer (some ⟨bw, 0, none⟩), .pointer (some ⟨bm, 0, none⟩), .pointer (some ⟨bn, 0, none⟩)] w (Num1P word most l bn w) := by
  have c1 : w.cell? ⟨bw, 0, none⟩ = some (.string ⟨word.toArray⟩) := (cell_of_row w bw 0 _ _ _ h1).trans rfl
  have c2 : w.cell? ⟨bm, 0, none⟩ = some (.int .i64 (most : Int)) := (cell_of_row w bm 0 _ _ _ h2).trans rfl
  obtain ⟨p, hpd⟩ : ∃ p : Bs, p = word ++ [32] := ⟨_, rfl⟩
  obtain ⟨pt, hpt⟩ : ∃ t : ByteArray, t = ⟨(word ++ [32]).toArray⟩ := ⟨_, rfl⟩
  have hadd := cat_run word [32] pt hpt (by omega) (by simp)
  have hpp : (⟨p.toArray⟩ : ByteArray) = pt := by rw [hpt, hpd]
  have HC := fun W => Lib.hid (Any.strings_CutPrefix Tryz.cutpA ⟨l.toArray⟩ ⟨p.toArray⟩ W)
  have e0 := hp.er.form
  unfold ev at e0
  cases hq : p.isPrefixOf l with
  | false =>
    have HU : Hid (wordO word most l = none) := Lib.hid (by unfold wordO; rw [← hpd, hq]; rfl)
    obtain ⟨t, ht⟩ : ∃ t, t = Lib.trimPrefix l p := ⟨_, rfl⟩
    have HC2 : ∀ W, Hid (Calls Tryz.prog 74 #[.string ⟨l.toArray⟩, .string pt] W fun e w' => e = .returned (.tuple #[.string ⟨t.toArray⟩, .bool false]) ∧ w' = W) := fun W => Lib.hid (by
      have h := (HC W).out
      rw [show Lib.hasPrefix (⟨l.toArray⟩ : ByteArray).data.toList (⟨p.toArray⟩ : ByteArray).data.toList = false from trim_no hq, show Lib.trimPrefix (⟨l.toArray⟩ : ByteArray).data.toList (⟨p.toArray⟩ : ByteArray).data.toList = t from ht.symm] at h
      rw [hpp] at h
      exact h)
    have H3 := Lib.hid h3
    clear HC hq ht h1 h2 h3 hpd hp c2 hpp hpt
    go_enter Tryz.func73, Tryz.ntmps73
    go_wp2_with fail
    refine (HC2 _).out.mono ?_
    rintro e w1 ⟨rfl, rfl⟩
    go_wp2_with fail
    go_ret
    exact ⟨.inr ⟨HU.out, ⟨_, rfl⟩, H3.out⟩, But.refl _ _⟩
  | true =>
    obtain ⟨t, ht⟩ : ∃ t, t = l.drop p.length := ⟨_, rfl⟩
    have htl : t.length ≤ 1000000 := by rw [ht, List.length_drop]; omega
    have hU : wordO word most l = upO most t := by
      unfold wordO upO
      rw [← hpd, hq, if_pos rfl, ht, hpd, List.length_append]; rfl
    have HU := Lib.hid hU
    have HC2 : ∀ W, Hid (Calls Tryz.prog 74 #[.string ⟨l.toArray⟩, .string pt] W fun e w' => e = .returned (.tuple #[.string ⟨t.toArray⟩, .bool true]) ∧ w' = W) := fun W => Lib.hid (by
      have h := (HC W).out
      rw [show Lib.hasPrefix (⟨l.toArray⟩ : ByteArray).data.toList (⟨p.toArray⟩ : ByteArray).data.toList = true from (trim_yes hq).2, show Lib.trimPrefix (⟨l.toArray⟩ : ByteArray).data.toList (⟨p.toArray⟩ : ByteArray).data.toList = t from (trim_yes hq).1.trans ht.symm] at h
      rw [hpp] at h
      exact h)
    have HUp := Lib.hid (upTo_p hp most t htl)
    have H3 := Lib.hid h3
    clear HC hq ht h1 h2 h3 hpd hp hU htl e0 hpp hpt
    go_enter Tryz.func73, Tryz.ntmps73
    go_wp2_with fail
    refine (HC2 _).out.mono ?_
    rintro e w1 ⟨rfl, rfl⟩
    go_wp2_with fail
    refine HUp.out.mono ?_
    rintro e w2 ⟨hv, l2⟩
    have hh := (l2.block bn (lt_heap H3.out)).trans H3.out
    have c3 : w2.cell? ⟨bn, 0, none⟩ = some (.int .i64 0) := (cell_of_row w2 bn 0 _ _ _ hh).trans rfl
    have f3 : w2.frozen? ⟨bn, 0, none⟩ = false := by unfold World.frozen?; simp only [hh]; rfl
    have T2 : ∀ u, But (fun k => k = bn) w1 (w2.setCell ⟨bn, 0, none⟩ u) := fun u => (But.of_new l2).trans (but_set w2 bn 0 u)
    rcases hv with ⟨n, hn, rfl⟩ | ⟨hn, x, rfl⟩
    · have HF : Hid (Num1P word most l bn w1 (.returned .nilIface) (w2.setCell ⟨bn, 0, none⟩ (.int .i64 (n : Int)))) := Lib.hid ⟨.inl ⟨n, HU.out.trans hn, rfl, (blk_set hh _).trans rfl⟩, T2 _⟩
      clear hn hh l2 T2 HUp
      go_wp2_with fail
      go_ret
      exact HF.out
    · have HF : Hid (Num1P word most l bn w1 (.returned (ev x)) (w2.setCell ⟨bn, 0, none⟩ (.int .i64 0))) := Lib.hid ⟨.inr ⟨HU.out.trans hn, ⟨x, rfl⟩, (blk_set hh _).trans rfl⟩, T2 _⟩
      unfold ev at HF ⊢
      clear hn hh l2 T2 HUp
      go_wp2_with fail
      go_ret
      exact HF.out
/-- The state of a reader: what is left, or an error. -/
def St (w0 w : World) (a : Nat) (o : Option Bs) : Prop := match o with | some s => Rd w0 w a s | none => ∃ v, RdE w0 w a v
theorem St.lt {w0 w : World} {a : Nat} {o : Option Bs} (h : St w0 w a o) : a < w.heap.size := by
  cases o with
  | some s => exact Rd.lt h
  | none => obtain ⟨v, h⟩ := h; exact h.lt
theorem St.low {w0 w : World} {a : Nat} {o : Option Bs} (h : St w0 w a o) : Below w0.heap.size w0 w := by
  cases o with
  | some s => exact Rd.low h
  | none => obtain ⟨v, h⟩ := h; exact h.low
theorem St.lo {w0 w : World} {a : Nat} {o : Option Bs} (h : St w0 w a o) : w0.heap.size ≤ a := by
  cases o with
  | some s => exact Rd.lo h
  | none => obtain ⟨v, h⟩ := h; exact h.lo
theorem St.ch {w0 w w' : World} {a : Nat} {o : Option Bs} (h : St w0 w a o) (hc : Ch w0 a w w') : St w0 w' a o := by
  cases o with
  | some s => exact Rd.ch h hc
  | none => obtain ⟨v, h⟩ := h; exact ⟨v, h.ch hc⟩
theorem Ch.box {w0 w w' : World} {a b : Nat} {cs : Array Value} {t : TypeId} {fr : Nat × Nat} (h : But (fun k => k = b) w w') (hb : w.heap[b]? = some (.cells cs t fr)) (ht : t ≠ 148) (hba : b ≠ a) (hlo : w0.heap.size ≤ b) : Ch w0 a w w' :=
  h.mono fun k _ hk => by
    subst hk
    refine ⟨hlo, hba, fun ⟨cs', fr', h'⟩ => ?_⟩
    rw [hb] at h'
    cases h'; exact ht rfl
def NumP (w0 : World) (a : Nat) (o : Option (Nat × Bs)) (w : World) (e : Ending) (w' : World) : Prop :=
  ((∃ n r, o = some (n, r) ∧ e = .returned (.int .i64 ((n : Nat) : Int)) ∧ Rd w0 w' a r) ∨ (o = none ∧ e = .returned (.int .i64 0) ∧ ∃ v, RdE w0 w' a v)) ∧ But (fun k => k = a) w w'
theorem cutAt_len {s l r : Bs} (h : cutAt 10 s = some (l, r)) : s.length = l.length + 1 + r.length := by
  obtain ⟨es, _⟩ := cutAt_some h
  rw [es, List.length_append, List.length_cons]; omega
theorem Rd.len {w0 w : World} {a : Nat} {s : Bs} (h : Rd w0 w a s) : s.length ≤ 1000000 := by obtain ⟨A, n, c, k, _, _, _, h⟩ := h.blk; omega
set_option maxHeartbeats 8000000 in
set_option maxRecDepth 100000 in
theorem number_p {w0 w : World} {E : ErA} (hp : PrA E w0) {a : Nat} {o : Option Bs} (hs : St w0 w a o) (word : Bs) (most : Nat) (hw : word.length ≤ 1000) :
    Calls Tryz.prog 52 #[.pointer (some ⟨a, 0, none⟩), .string ⟨word.toArray⟩, .int .i64 (most : Int)] w (NumP w0 a (o.bind (numO word most)) w) := by
  obtain ⟨w1, hw1⟩ : ∃ y, y = (((w.alloc (.cells #[.string ⟨word.toArray⟩] 9)).alloc (.cells #[.int .i64 (most : Int)] 3)).alloc (.cells #[.int .i64 0] 3)) := ⟨_, rfl⟩
  have s1 : (w.alloc (.cells #[.string ⟨word.toArray⟩] 9)).heap.size = w.heap.size + 1 := by simp
  have s2 : ((w.alloc (.cells #[.string ⟨word.toArray⟩] 9)).alloc (.cells #[.int .i64 (most : Int)] 3)).heap.size = w.heap.size + 1 + 1 := by simp
  have h1 := heap_alloc_new w (.cells #[.string ⟨word.toArray⟩] 9)
  have h2 := heap_alloc_new (w.alloc (.cells #[.string ⟨word.toArray⟩] 9)) (.cells #[.int .i64 (most : Int)] 3)
  have h3 := heap_alloc_new ((w.alloc (.cells #[.string ⟨word.toArray⟩] 9)).alloc (.cells #[.int .i64 (most : Int)] 3)) (.cells #[.int .i64 0] 3)
  rw [s1] at h2
  rw [s2] at h3
  have k1 := (Below.heap_alloc _ (.cells #[.int .i64 0] 3) w.heap.size (by rw [s2]; omega)).trans ((Below.heap_alloc _ (.cells #[.int .i64 (most : Int)] 3) w.heap.size (by rw [s1]; omega)).trans h1)
  have k2 := (Below.heap_alloc _ (.cells #[.int .i64 0] 3) (w.heap.size + 1) (by rw [s2]; omega)).trans h2
  have b1 : Below w.heap.size w w1 := by rw [hw1]; exact (below_new w _).trans (((below_new _ _).mono (by rw [s1]; omega)).trans ((below_new _ _).mono (by rw [s2]; omega)))
  rw [← hw1] at h3 k1 k2
  have hs1 : St w0 w1 a o := hs.ch (Ch.new b1)
  have hal := hs.lt
  have hlo := hs.lo
  obtain ⟨bw, hbw⟩ : ∃ z, z = w.heap.size := ⟨_, rfl⟩
  obtain ⟨bm, hbm⟩ : ∃ z, z = w.heap.size + 1 := ⟨_, rfl⟩
  obtain ⟨bn, hbn⟩ : ∃ z, z = w.heap.size + 1 + 1 := ⟨_, rfl⟩
  rw [← hbn] at h3
  rw [← hbw] at k1
  rw [← hbm] at k2
  have HE : Hid (a < bw ∧ bw < bm ∧ bm < bn ∧ w0.heap.size ≤ a ∧ bw = w.heap.size ∧ bm = w.heap.size + 1 ∧ bn = w.heap.size + 1 + 1) := Lib.hid ⟨by omega, by omega, by omega, hlo, hbw, hbm, hbn⟩
  have HK := Lib.hid (And.intro k1 (And.intro k2 h3)); have HS := Lib.hid hs1; have HB := Lib.hid b1; have HP := Lib.hid hp; have HW := Lib.hid hw1
  have HF : Hid (∀ W n, But (fun k => k = a ∨ k = bn) w1 W → But (fun k => k = a) w (W.drewN n)) := Lib.hid fun W n h => by
    have h := (But.of_new (S := fun k => k = a ∨ k = bn) b1).trans (h.drewN n)
    exact h.mono fun k hk hs => by rcases hs with hs | hs; exact hs; omega
  clear k1 k2 h1 h2 h3 hs1 b1 hs hp hw1 s1 s2 hal hlo
  go_enter Tryz.func52, Tryz.ntmps52
  go_upto_region 2 with fail
  rw [← HW.out, ← hbn, ← hbm, ← hbw]
  clear hbn hbm hbw HW
  -- what the box holds in the end
  cases o with
  | none =>
    obtain ⟨v, hv⟩ := HS.out
    have HL := Lib.hid (line_has hv (.func (.func 73) #[] #[.pointer (some ⟨bw, 0, none⟩), .pointer (some ⟨bm, 0, none⟩), .pointer (some ⟨bn, 0, none⟩)]))
    have c3 : w1.cell? ⟨bn, 0, none⟩ = some (.int .i64 0) := (cell_of_row w1 bn 0 _ _ _ HK.out.2.2).trans rfl
    have HV := Lib.hid hv
    clear hv
    go_wp2_with fail
    refine HL.out.mono ?_
    rintro e w2 ⟨rfl, rfl⟩
    go_wp2_with fail
    go_ret
    exact ⟨.inr ⟨rfl, rfl, _, HV.out⟩, HF.out _ 0 (But.refl _ _)⟩
  | some s =>
    have hrd : Rd w0 w1 a s := HS.out
    have hb : (some s).bind (numO word most) = numO word most s := rfl
    rw [hb]
    cases hc : cutAt 10 s with
    | none =>
      have HU : Hid (numO word most s = none) := Lib.hid (by unfold numO; rw [hc])
      have HL := Lib.hid (line_end hrd HP.out.er hc (.func (.func 73) #[] #[.pointer (some ⟨bw, 0, none⟩), .pointer (some ⟨bm, 0, none⟩), .pointer (some ⟨bn, 0, none⟩)]))
      clear hrd hb hc
      go_wp2_with fail
      refine HL.out.mono ?_
      rintro e w2 ⟨rfl, r2, t2⟩
      have c3 : w2.cell? ⟨bn, 0, none⟩ = some (.int .i64 0) := (cell_of_row w2 bn 0 _ _ _ ((t2.block bn (lt_heap HK.out.2.2) (fun e => by have := HE.out; omega)).trans HK.out.2.2)).trans rfl
      have HR := Lib.hid r2; have T2 := Lib.hid (t2.mono (T := fun k => k = a ∨ k = bn) fun k _ h => .inl h)
      clear r2 t2 HL
      go_wp2_with fail
      go_ret
      exact ⟨.inr ⟨HU.out, rfl, _, HR.out⟩, HF.out _ 0 T2.out⟩
    | some p =>
      obtain ⟨l, r⟩ := p
      have hll := cutAt_len hc
      have hsl := hrd.len
      have HL := Lib.hid (line_take hrd hc 73 #[.pointer (some ⟨bw, 0, none⟩), .pointer (some ⟨bm, 0, none⟩), .pointer (some ⟨bn, 0, none⟩)] (enters_of Tryz.func73 (by kernel_rfl) rfl)
        (fun v W' => But (fun k => k = a ∨ k = bn) w1 W' ∧ ((∃ n : Nat, wordO word most l = some n ∧ v = .nilIface ∧ W'.heap[bn]? = some (.cells #[.int .i64 (n : Int)] 3 (0, 0))) ∨ (wordO word most l = none ∧ (∃ x, v = ev x) ∧ W'.heap[bn]? = some (.cells #[.int .i64 0] 3 (0, 0)))))
        (fun W hW hT => by
          have hk : ∀ {k : Nat} {cs : Array Value} {t : TypeId}, w1.heap[k]? = some (.cells cs t (0, 0)) → k ≠ a → W.heap[k]? = some (.cells cs t (0, 0)) := fun h1 h2 => (hT.block _ (lt_heap h1) h2).trans h1
          have hn0 := hk HK.out.2.2 (by have := HE.out; omega)
          refine (num1_p (HP.out.below hW.low) word most l hw (by omega) (hk HK.out.1 (by have := HE.out; omega)) (hk HK.out.2.1 (by have := HE.out; omega)) hn0).mono ?_
          rintro e W' ⟨h1, h2⟩
          have hch : Ch w0 a W W' := Ch.box h2 hn0 (by decide) (by have := HE.out; omega) (by have := HE.out; omega)
          have hbt : But (fun k => k = a ∨ k = bn) w1 W' := (hT.mono fun k _ h => .inl h).trans (h2.mono fun k _ h => .inr h)
          rcases h1 with ⟨n, e1, rfl, e3⟩ | ⟨e1, ⟨x, rfl⟩, e3⟩
          · exact ⟨_, rfl, .inl rfl, hch, hbt, .inl ⟨n, e1, rfl, e3⟩⟩
          · exact ⟨_, rfl, .inr ⟨_, _, rfl⟩, hch, hbt, .inr ⟨e1, ⟨x, rfl⟩, e3⟩⟩))
      have HU : Hid (numO word most s = match wordO word most l with | some n => some (n, r) | none => none) := Lib.hid (by unfold numO; rw [hc]; rfl)
      clear hrd hb hc hll hsl
      go_wp2_with fail
      refine HL.out.mono ?_
      rintro e w2 ⟨rfl, v, W', ⟨hbt, hq⟩, t2, hr⟩
      have T2 : Hid (But (fun k => k = a ∨ k = bn) w1 w2) := Lib.hid (hbt.trans (t2.mono fun k _ h => .inl h))
      have hbx : ∀ {cs : Array Value}, W'.heap[bn]? = some (.cells cs 3 (0, 0)) → w2.heap[bn]? = some (.cells cs 3 (0, 0)) := fun h => (t2.block bn (lt_heap h) (fun e => by have := HE.out; omega)).trans h
      rcases hq with ⟨n, e1, rfl, e3⟩ | ⟨e1, ⟨x, rfl⟩, e3⟩
      · have c3 : w2.cell? ⟨bn, 0, none⟩ = some (.int .i64 (n : Int)) := (cell_of_row w2 bn 0 _ _ _ (hbx e3)).trans rfl
        have HR : Hid (Rd w0 w2 a r) := Lib.hid (by rcases hr with ⟨_, h⟩ | ⟨h, _⟩; exact h; exact absurd rfl h)
        have HU2 : Hid (numO word most s = some (n, r)) := Lib.hid (by rw [HU.out, e1])
        clear hbx e1 e3 hr t2 hbt HL HU
        go_wp2_with fail
        go_ret
        exact ⟨.inl ⟨n, r, HU2.out, rfl, HR.out⟩, HF.out _ 0 T2.out⟩
      · have c3 : w2.cell? ⟨bn, 0, none⟩ = some (.int .i64 0) := (cell_of_row w2 bn 0 _ _ _ (hbx e3)).trans rfl
        have HR : Hid (RdE w0 w2 a (ev x)) := Lib.hid (by rcases hr with ⟨h, _⟩ | ⟨_, h⟩; cases h; exact h)
        have HU2 : Hid (numO word most s = none) := Lib.hid (by rw [HU.out, e1])
        clear hbx e1 e3 hr t2 hbt HL HU
        go_wp2_with fail
        go_ret
        exact ⟨.inr ⟨HU2.out, rfl, _, HR.out⟩, HF.out _ 0 T2.out⟩
end Go.Proofs.YtnboagmibhllpaaGreatDoor.Ro
