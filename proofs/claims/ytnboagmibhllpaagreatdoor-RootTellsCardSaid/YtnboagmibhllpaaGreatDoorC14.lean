/-
  The reader: packs.
  The reader: packs, one by one.
  The reader: refs.
-/
import Derived.Test.YtnboagmibhllpaaGreatDoorC12
import Derived.Test.YtnboagmibhllpaaGreatDoorC13
import Derived.Test.YtnboagmibhllpaaGreatDoorC08
import Derived.Test.YtnboagmibhllpaaGreatDoorC09

namespace Go.Proofs.YtnboagmibhllpaaGreatDoor.Ro
open Go.Proofs.YtnboagmibhllpaaGreatDoor
open Go.Proofs.YtnboagmibhllpaaGreatDoor.Rf (BoolB RefsR)
open Go Go.RowKit

theorem need_p (b : Bool) (x : Addr) (nv : Value) (hnv : nv = if b = true then .nilIface else ev x) (w : World) : Calls Tryz.prog 77 #[.bool b, .iface 206 (.pointer (some x))] w fun e w' => e = .returned nv ∧ w = w' := by
  subst hnv
  cases b
  all_goals
    go_enter Tryz.func77, Tryz.ntmps77
    go_wp2
    go_ret
    exact ⟨rfl, rfl⟩
theorem l_Er (W : World) (b : Nat) (v : Value) (x : TypeId) (h : W.cell? ⟨b, 0, none⟩ = some (.iface x v)) : (Instr.loadAt 55 (.pointer (some ⟨b, 0, none⟩))).run Tryz.prog W = .ok (.iface x v) W := by simp [go_sem, h]
abbrev BxS (w : World) (b base : Nat) (l : List Bs) : Prop := Bx 22 9 1 strC w b base l
/-- What packs' closure makes of a line. -/
def Pk1P (acc : List Bs) (s : Bs) (bl B : Nat) (w : World) (e : Ending) (w' : World) : Prop :=
  ∃ v, e = .returned v ∧ ((PacksOk (acc ++ [s]) ∧ v = .nilIface) ∨ (¬ PacksOk (acc ++ [s]) ∧ ∃ x, v = ev x)) ∧ BxS w' bl B (acc ++ [s]) ∧ Wk 9 bl B w w'
theorem Wk.low {t : TypeId} {b base : Nat} {w0 w w' : World} (h : Wk t b base w w') (low : Below w0.heap.size w0 w) (hb : w0.heap.size ≤ b) (hB : w0.heap.size ≤ base) : Below w0.heap.size w0 w' :=
  low.trans (But.below h (fun k _ hk => by rcases hk with hk | hk; omega; omega) low.size)
set_option maxHeartbeats 8000000 in
set_option maxRecDepth 100000 in
theorem pk1_p {w0 w : World} {E : ErA} (hp : PrA E w0) (low : Below w0.heap.size w0 w) {bl B : Nat} {acc : List Bs} (hb : BxS w bl B acc) (hB : B ≤ w.heap.size) (hlb : w0.heap.size ≤ bl) (hlB : w0.heap.size ≤ B) (ha : acc.length ≤ 1000) (hf : FitS acc) (s : Bs) (hs : s.length ≤ 1000000) :
    Calls Tryz.prog 76 #[.string ⟨s.toArray⟩, .pointer (some ⟨bl, 0, none⟩)] w (Pk1P acc s bl B w) := by
  obtain ⟨A, n, c, hk, ho, hn⟩ := hb
  have c0 : w.cell? ⟨bl, 0, none⟩ = some (.slice A n c) := (cell_of_row w bl 0 _ _ _ hk).trans rfl
  obtain ⟨w1, hw1⟩ : ∃ y, y = w.alloc (.cells #[.string ⟨s.toArray⟩] 9) := ⟨_, rfl⟩
  have l1 : Below w.heap.size w w1 := by rw [hw1]; exact below_new _ _
  have hr1 : StrsR w1 (.slice (some ⟨w.heap.size, 0, none⟩) 1 1) [s] := by rw [hw1]; exact strs_one w s
  have hk1 := (l1.block bl (lt_heap hk)).trans hk
  have ho1 := ho.below l1 (Nat.le_refl _)
  obtain ⟨v2, w2, r2, o2, g2⟩ := run_all' elStr ho1 hr1 (by simp; omega) (by decide) (Nat.le_trans hB l1.size)
  obtain ⟨b3, t3, c2, f2⟩ := Bx.app hk1 (by decide) ho1 o2 g2
  obtain ⟨A2, n2, q2, rfl, -⟩ := Rf.OwK.shape o2
  obtain ⟨w3, hw3⟩ : ∃ y, y = w2.setCell ⟨bl, 0, none⟩ (.slice A2 n2 q2) := ⟨_, rfl⟩
  have c3 : w3.cell? ⟨bl, 0, none⟩ = some (.slice A2 n2 q2) := by rw [hw3]; exact World.cell?_setCell_same _ _ _ (u := .slice A n c) c2
  rw [← hw3] at b3 t3
  obtain ⟨m, hm⟩ : ∃ m, m = acc ++ [s] := ⟨_, rfl⟩
  have t03 : Wk 9 bl B w w3 := Wk.trans (Wk.new l1) t3
  have low3 := t03.low low hlb hlB
  have CL : Hid (∀ W, Below w3.heap.size w3 W → W.cell? ⟨bl, 0, none⟩ = some (.slice A2 n2 q2)) := Lib.hid fun W h => cellL c3 h
  have hrd3 : StrsR w3 (.slice A2 n2 q2) m := by
    obtain ⟨A3, n3, q3, k3, o3, _⟩ := b3
    have e3 : w3.cell? ⟨bl, 0, none⟩ = some (.slice A3 n3 q3) := (cell_of_row w3 bl 0 _ _ _ k3).trans rfl
    rw [c3] at e3
    rw [Option.some.inj e3, hm]
    exact OwK.rd strC_len o3
  have HPk : Hid (∀ W, Below w3.heap.size w3 W → Calls Tryz.prog 34 #[.slice A2 n2 q2] W (BoolB (packsB m) W)) := Lib.hid fun W h => arePacks_p m _ W (RdK.below hrd3 h (Nat.le_refl _)) (fun x hx => by
    rw [hm] at hx
    rcases List.mem_append.1 hx with hx | hx
    · exact hf x hx
    · rw [List.mem_singleton.1 hx]; unfold maxLen; omega) (by rw [hm]; simp; omega)
  obtain ⟨b, hbb⟩ : ∃ b, b = packsB m := ⟨_, rfl⟩
  rw [← hbb] at HPk
  have ew := (hp.er.below low3).wrong
  obtain ⟨x, hx⟩ : ∃ x, x = E.wrong := ⟨_, rfl⟩
  rw [← hx] at ew
  obtain ⟨nv, hnv⟩ : ∃ v, v = if b = true then .nilIface else ev x := ⟨_, rfl⟩
  have HNd : Hid (∀ W, Calls Tryz.prog 77 #[.bool b, .iface 206 (.pointer (some x))] W fun e w' => e = .returned nv ∧ W = w') := Lib.hid fun W => need_p b x nv hnv W
  unfold ev at ew
  have EW : Hid (∀ W, Below w3.heap.size w3 W → W.cell? ⟨1, 0, none⟩ = some (.iface 206 (.pointer (some x)))) := Lib.hid fun W h => cellL ew h
  have HF : Hid (∀ W, Below w3.heap.size w3 W → Pk1P acc s bl B w (.returned nv) W) := Lib.hid fun W h => by
    refine ⟨nv, rfl, ?_, by rw [← hm] at b3 ⊢; exact b3.below h (Nat.le_refl _), Wk.trans t03 (Wk.new h)⟩
    rw [← hm, ← packsB_iff, ← hbb]
    cases b with
    | true => exact .inl ⟨rfl, hnv⟩
    | false => exact .inr ⟨by simp, x, hnv⟩
  have HW1 := Lib.hid hw1; have HW3 := Lib.hid hw3; have R2 := Lib.hid r2
  have LD : Hid (Below w3.heap.size w3 w3.drew) := Lib.hid (bdr (Below.refl _ _) 1)
  clear hk ho hn hw1 l1 hr1 hk1 ho1 r2 o2 g2 b3 t3 c3 hw3 hm t03 low3 hrd3 hbb ew hx hnv hp low hB hlb hlB ha hf hs
  go_enter Tryz.func76, Tryz.ntmps76
  go_wp2_with (
    rw [← HW1.out]
    refine wpList_appR (o := ⟨some 7, _, _, _, _, _⟩) rfl _ _ rfl (.slice A n c) _ (.slice A2 n2 q2) w2 rfl rfl R2.out ?_)
  rw [← HW3.out]
  clear c0 c2 f2 HW1 HW3 R2
  refine AnyB.start (by kernel_rfl) ?_
  refine AnyB.take 0 (.slice A2 n2 q2) rfl (by kernel_rfl) (by kernel_rfl) (by kernel_rfl) (fun _ _ _ h => h) (by kernel_rfl) (fun W hW => y_load (sv := .pointer (some ⟨bl, 0, none⟩)) rfl (by kernel_rfl) (l_Sl W bl 0 A2 n2 q2 (CL.out W (LD.out.trans (hW.mono LD.out.size))))) ?_
  refine AnyB.take 2 (.iface 206 (.pointer (some x))) rfl (by kernel_rfl) (by kernel_rfl) (by kernel_rfl) (fun _ _ _ h => h) (by kernel_rfl) (fun W hW => y_load (sv := .pointer (some ⟨1, 0, none⟩)) rfl (by kernel_rfl) (l_Er W 1 _ _ (EW.out W (LD.out.trans (hW.mono LD.out.size))))) ?_
  refine AnyB.call 1 34 #[.slice A2 n2 q2] (by kernel_rfl) rfl (by kernel_rfl) (by kernel_rfl) ?_
  refine (HPk.out _ LD.out).mono ?_
  rintro e w7 ⟨rfl, hb7⟩
  have LD1 := Lib.hid (LD.out.trans (hb7.mono LD.out.size))
  refine ⟨_, rfl, hb7, ?_⟩
  refine AnyB.call 3 77 #[.bool b, .iface 206 (.pointer (some x))] (by kernel_rfl) rfl (by kernel_rfl) (by kernel_rfl) ?_
  refine (HNd.out _).mono ?_
  rintro e w8 ⟨rfl, rfl⟩
  have LD2 := LD1
  refine ⟨_, rfl, Below.refl _ _, ?_⟩
  refine AnyB.take 4 (nv) rfl (by kernel_rfl) (by kernel_rfl) (by kernel_rfl) (fun _ _ _ h => h) (by kernel_rfl) (fun W hW => by kernel_rfl) ?_
  refine AnyB.done _ (by kernel_rfl) ?_
  go_simp
  clear LD LD1 HPk HNd EW CL
  go_wp2_with fail
  go_ret
  exact HF.out _ LD2.out
end Go.Proofs.YtnboagmibhllpaaGreatDoor.Ro


namespace Go.Proofs.YtnboagmibhllpaaGreatDoor.Ro
open Go.Proofs.YtnboagmibhllpaaGreatDoor
open Go.Proofs.YtnboagmibhllpaaGreatDoor.Rf (BoolB RefsR OwS)
open Go Go.RowKit

theorem Rd.blkt {w0 w : World} {a : Nat} {s : Bs} (h : Rd w0 w a s) : ∃ cs, w.heap[a]? = some (.cells cs 82 (0, 0)) := by obtain ⟨A, n, c, k, h, _⟩ := h.blk; exact ⟨_, h⟩
theorem RdE.blkt {w0 w : World} {a : Nat} {v : Value} (h : RdE w0 w a v) : ∃ cs, w.heap[a]? = some (.cells cs 82 (0, 0)) := by obtain ⟨A, n, c, k, p, j, h, _⟩ := h.blk; exact ⟨_, h⟩
theorem St.blkt {w0 w : World} {a : Nat} {o : Option Bs} (h : St w0 w a o) : ∃ cs, w.heap[a]? = some (.cells cs 82 (0, 0)) := by
  cases o with
  | some s => exact Rd.blkt h
  | none => obtain ⟨v, h⟩ := h; exact h.blkt
/-- A change of the reader alone leaves a box. -/
theorem Bx.far {α : Type} {st t : TypeId} {k : Nat} {f : α → List Value} {w w' : World} {b base a : Nat} {l : List α} {cs : Array Value} (h : Bx st t k f w b base l) (ha : w.heap[a]? = some (.cells cs 82 (0, 0))) (hst : st ≠ 82) (ht : t ≠ 82) (hb : But (fun k => k = a) w w') : Bx st t k f w' b base l :=
  h.but hb (fun e => by
    obtain ⟨A, n, c, hk, _⟩ := h
    rw [e, ha] at hk; cases hk; exact hst rfl) (fun g _ ⟨cs', fr, hg⟩ e => by
    rw [e, ha] at hg; cases hg; exact ht rfl)
/-- A change of a box leaves the reader, and faults. -/
theorem Wk.ch {t : TypeId} {b base : Nat} {w0 w w' : World} {a : Nat} {cs cs' : Array Value} {st : TypeId} (h : Wk t b base w w') (ha : w.heap[a]? = some (.cells cs 82 (0, 0))) (hb : w.heap[b]? = some (.cells cs' st (0, 0))) (hst : st ≠ 82) (hst2 : st ≠ 148) (ht : t ≠ 82) (ht2 : t ≠ 148) (hlb : w0.heap.size ≤ b) (hlB : w0.heap.size ≤ base) : Ch w0 a w w' :=
  But.mono h fun k _ hk => by
    rcases hk with hk | ⟨hk, c1, f1, h1⟩
    · subst hk
      refine ⟨hlb, fun e => ?_, fun ⟨c2, f2, h2⟩ => ?_⟩
      · subst e; rw [ha] at hb; cases hb; exact hst rfl
      · rw [hb] at h2; cases h2; exact hst2 rfl
    · refine ⟨by omega, fun e => ?_, fun ⟨c2, f2, h2⟩ => ?_⟩
      · subst e; rw [ha] at h1; cases h1; exact ht rfl
      · rw [h1] at h2; cases h2; exact ht2 rfl
/-- Behind a change of a box that is new. -/
theorem butNew {t : TypeId} {b base a : Nat} {w x y : World} (h : But (fun k => k = a) w x) (k : Wk t b base x y) (hb : w.heap.size ≤ b) (hB : w.heap.size ≤ base) : But (fun k => k = a) w y :=
  ⟨k.os.trans h.os, k.tape.trans h.tape, k.output.trans h.output, Nat.le_trans h.size (But.size k), fun i hi hn => (k.block i (Nat.lt_of_lt_of_le hi h.size) fun hs => by rcases hs with hs | hs; omega; omega).trans (h.block i hi hn)⟩
def PksP (w0 : World) (a : Nat) (o : Option (List Bs × Bs)) (w : World) (e : Ending) (w' : World) : Prop :=
  ∃ A n c, e = .returned (.slice A n c) ∧ But (fun k => k = a) w w' ∧ ((∃ l r, o = some (l, r) ∧ n = l.length ∧ OwS w' w.heap.size (.slice A n c) l ∧ Rd w0 w' a r) ∨ (o = none ∧ (∃ l, n = l.length ∧ OwS w' w.heap.size (.slice A n c) l) ∧ ∃ v, RdE w0 w' a v))
open Classical in
set_option maxHeartbeats 8000000 in
set_option maxRecDepth 100000 in
theorem packs_p {w0 w : World} {E : ErA} (hp : PrA E w0) {a : Nat} {o : Option Bs} (hs : St w0 w a o) (n : Nat) (hn : n ≤ 1000) :
    Calls Tryz.prog 53 #[.pointer (some ⟨a, 0, none⟩), .int .i64 (n : Int)] w (PksP w0 a (o.bind (packsO n [])) w) := by
  obtain ⟨w1, hw1⟩ : ∃ y, y = w.alloc (.cells #[.slice none 0 0] 22) := ⟨_, rfl⟩
  have l1 : Below w.heap.size w w1 := by rw [hw1]; exact below_new _ _
  obtain ⟨bl, hbl⟩ : ∃ z, z = w.heap.size := ⟨_, rfl⟩
  have hk1 : w1.heap[bl]? = some (.cells #[.slice none 0 0] 22 (0, 0)) := by rw [hw1, hbl]; exact heap_alloc_new _ _
  have hx1 : BxS w1 bl w.heap.size [] := ⟨none, 0, 0, hk1, OwK.nil _ _ _ _ _, rfl⟩
  have hs1 := hs.ch (Ch.new l1)
  have HE : Hid (a < w.heap.size ∧ w0.heap.size ≤ a ∧ bl = w.heap.size) := Lib.hid ⟨hs.lt, hs.lo, hbl⟩
  have HS := Lib.hid hs1; have HX := Lib.hid hx1; have HW := Lib.hid hw1; have HP := Lib.hid hp; have HB := Lib.hid l1
  clear hs1 hx1 hw1 hp l1 hs hk1
  go_enter Tryz.func53, Tryz.ntmps53
  go_upto_region 2 with fail
  rw [← HW.out, ← hbl]
  clear hbl HW
  go_wp2_with fail
  go_loopw [7] (fun i wr => ∃ (k : Nat) (acc : List Bs) (o' : Option Bs), k ≤ n ∧ i = .int .i64 k ∧ Hid (BxS wr bl w.heap.size acc) ∧ Hid (FitS acc ∧ acc.length ≤ k) ∧ Hid (St w0 wr a o') ∧ Hid (But (fun k => k = a) w wr) ∧ Hid (o.bind (packsO n []) = o'.bind (packsO (n - k) acc))) (fun i _ => n - (intOf i).toNat)
  case atStart => exact ⟨0, [], o, Nat.zero_le _, rfl, HX, Lib.hid ⟨fun x h => (by cases h), Nat.le_refl _⟩, HS, Lib.hid (But.of_new HB.out), Lib.hid (by rw [Nat.sub_zero])⟩
  case round =>
    obtain ⟨wo, hwo⟩ : ∃ wo, wo = wr := ⟨_, rfl⟩
    subst hwo
    clear HX HS HB
    obtain ⟨k, acc, o', hk, rfl, hX, hF, hS, hT, hR⟩ := hrel
    by_cases hlt : k < n
    case neg =>
      have hkn : k = n := by omega
      obtain ⟨A, m, c, hkk, ho, hm⟩ := hX.out
      have c0 : wo.cell? ⟨bl, 0, none⟩ = some (.slice A m c) := (cell_of_row wo bl 0 _ _ _ hkk).trans rfl
      have HQ : Hid (PksP w0 a (o.bind (packsO n [])) w (.returned (.slice A m c)) wo) := Lib.hid (by
        refine ⟨A, m, c, rfl, hT.out, ?_⟩
        rw [hR.out, hkn, Nat.sub_self]
        cases o' with
        | some s => exact .inl ⟨acc, s, rfl, hm, ho, hS.out⟩
        | none => exact .inr ⟨rfl, ⟨acc, hm, ho⟩, hS.out⟩)
      clear hkn hkk ho hm hX hF hS hT hR
      go_wp2_with fail
      go_ret
      exact HQ.out
    obtain ⟨d, hd⟩ : ∃ d, n - k = d + 1 := ⟨n - k - 1, by omega⟩
    have hd2 : n - (k + 1) = d := by omega
    cases o' with
    | none =>
      obtain ⟨v, hv⟩ := hS.out
      have HL := Lib.hid (line_has hv (.func (.func 76) #[] #[.pointer (some ⟨bl, 0, none⟩)]))
      have HR2 : Hid (o.bind (packsO n []) = (none : Option Bs).bind (packsO (n - (k + 1)) acc)) := Lib.hid (by rw [hR.out]; rfl)
      have HF2 : Hid (FitS acc ∧ acc.length ≤ k + 1) := Lib.hid ⟨hF.out.1, by have := hF.out.2; omega⟩
      clear hd hd2 hv hR hF
      go_wp2_with fail
      refine HL.out.mono ?_
      rintro e w2 ⟨rfl, rfl⟩
      clear HL
      go_wp2_with fail
      go_roundw
      case rel => exact ⟨k + 1, acc, none, by omega, by go_num, hX, HF2, hS, hT, HR2⟩
      case measure => simp [intOf]; omega
    | some s =>
      have hrd : Rd w0 wo a s := hS.out
      cases hc : cutAt 10 s with
      | none =>
        have HL := Lib.hid (line_end hrd HP.out.er hc (.func (.func 76) #[] #[.pointer (some ⟨bl, 0, none⟩)]))
        have HR2 : Hid (o.bind (packsO n []) = (none : Option Bs).bind (packsO (n - (k + 1)) acc)) := Lib.hid (by rw [hR.out, hd]; show packsO (d + 1) acc s = none; rw [packsO, hc])
        have HF2 : Hid (FitS acc ∧ acc.length ≤ k + 1) := Lib.hid ⟨hF.out.1, by have := hF.out.2; omega⟩
        obtain ⟨cs, hcs⟩ := hrd.blkt
        have Hcs := Lib.hid hcs
        clear hd hd2 hR hF hrd hc hcs hS
        go_wp2_with fail
        refine HL.out.mono ?_
        rintro e w2 ⟨rfl, r2, t2⟩
        have HX2 : Hid (BxS w2 bl w.heap.size acc) := Lib.hid (Bx.far hX.out Hcs.out (by decide) (by decide) t2)
        have HS2 : Hid (St w0 w2 a none) := Lib.hid ⟨_, r2⟩
        have HT2 := Lib.hid (hT.out.trans t2)
        clear r2 t2 HL hX hT
        go_wp2_with fail
        go_roundw
        case rel => exact ⟨k + 1, acc, none, by omega, by go_num, HX2, HF2, HS2, HT2, HR2⟩
        case measure => simp [intOf]; omega
      | some p =>
        obtain ⟨l, r⟩ := p
        have hll := cutAt_len hc
        have hsl := hrd.len
        obtain ⟨cs, hcs⟩ := hrd.blkt
        have hcz : w.heap.size ≤ wo.heap.size := But.size hT.out
        have HL := Lib.hid (line_take hrd hc 76 #[.pointer (some ⟨bl, 0, none⟩)] (enters_of Tryz.func76 (by kernel_rfl) rfl)
          (fun v W' => ((PacksOk (acc ++ [l]) ∧ v = .nilIface) ∨ (¬ PacksOk (acc ++ [l]) ∧ ∃ x, v = ev x)) ∧ BxS W' bl w.heap.size (acc ++ [l]) ∧ But (fun k => k = a) w W' ∧ Rd w0 W' a r)
          (fun W hW hT2 => by
            have hXW : BxS W bl w.heap.size acc := Bx.far hX.out hcs (by decide) (by decide) hT2
            refine (pk1_p HP.out hW.low hXW (Nat.le_trans hcz hT2.size) (by have := HE.out; omega) (by have := HE.out; omega) (by have := hF.out.2; omega) hF.out.1 l (by omega)).mono ?_
            rintro e W' ⟨v, rfl, hv, hx, hwk⟩
            obtain ⟨cs', hcs'⟩ := hW.blkt
            have hch : Ch w0 a W W' := by
              obtain ⟨A9, n9, c9, k9, _⟩ := hXW
              exact Wk.ch hwk hcs' k9 (by decide) (by decide) (by decide) (by decide) (by have := HE.out; omega) (by have := HE.out; omega)
            refine ⟨v, rfl, ?_, hch, hv, hx, ?_, hW.ch hch⟩
            · rcases hv with ⟨_, rfl⟩ | ⟨_, x, rfl⟩
              · exact .inl rfl
              · exact .inr ⟨_, _, rfl⟩
            · exact butNew (hT.out.trans hT2) hwk (by have := HE.out; omega) (Nat.le_refl _)))
        have HFl : Hid (FitS (acc ++ [l]) ∧ (acc ++ [l]).length ≤ k + 1) := Lib.hid ⟨fun x hx => by
          rcases List.mem_append.1 hx with hx | hx
          · exact hF.out.1 x hx
          · rw [List.mem_singleton.1 hx]; unfold maxLen; omega, by have := hF.out.2; simp; omega⟩
        have HR1 : Hid (o.bind (packsO n []) = if PacksOk (acc ++ [l]) then packsO (n - (k + 1)) (acc ++ [l]) r else none) := Lib.hid (by rw [hR.out, hd, hd2]; show packsO (d + 1) acc s = _; rw [packsO, hc])
        clear hd hd2 hR hF hrd hc hcs hS hll hsl hcz hX hT
        go_wp2_with fail
        refine HL.out.mono ?_
        rintro e w2 ⟨rfl, v, W', ⟨hv, hx, ht, hr⟩, t2, hst⟩
        obtain ⟨cs, hcs⟩ := hr.blkt
        have HX2 : Hid (BxS w2 bl w.heap.size (acc ++ [l])) := Lib.hid (Bx.far hx hcs (by decide) (by decide) t2)
        have HT2 := Lib.hid (ht.trans t2)
        obtain ⟨o2, HS2, HR2⟩ : ∃ o2, Hid (St w0 w2 a o2) ∧ Hid (o.bind (packsO n []) = o2.bind (packsO (n - (k + 1)) (acc ++ [l]))) := by
          rcases hv with ⟨h1, rfl⟩ | ⟨h1, x, rfl⟩
          · refine ⟨some r, Lib.hid ?_, Lib.hid ?_⟩
            · rcases hst with ⟨_, h⟩ | ⟨h, _⟩
              · exact h
              · exact absurd rfl h
            · rw [HR1.out, if_pos h1]; rfl
          · refine ⟨none, Lib.hid ?_, Lib.hid ?_⟩
            · rcases hst with ⟨h, _⟩ | ⟨_, h⟩
              · cases h
              · exact ⟨_, h⟩
            · rw [HR1.out, if_neg h1]; rfl
        clear hv hx ht hr t2 hst hcs HL HR1
        go_wp2_with fail
        go_roundw
        case rel => exact ⟨k + 1, acc ++ [l], o2, by omega, by go_num, HX2, HFl, HS2, HT2, HR2⟩
        case measure => simp [intOf]; omega
end Go.Proofs.YtnboagmibhllpaaGreatDoor.Ro


namespace Go.Proofs.YtnboagmibhllpaaGreatDoor.Ro
open Go.Proofs.YtnboagmibhllpaaGreatDoor
open Go.Proofs.YtnboagmibhllpaaGreatDoor.Rf (BoolB RefsR OwR OwS Ref nameB Fit elRef refC rightB rightB_yes rightB_no)
open Go Go.RowKit

abbrev BxR (w : World) (b base : Nat) (l : List Ref) : Prop := Bx 40 75 2 refC w b base l
theorem st_R (W : World) (b i : Nat) (A : Option Addr) (n c : Nat) (u : Value) (h : W.cell? ⟨b, i, none⟩ = some u) (hf : W.frozen? ⟨b, i, none⟩ = false) : (Instr.storeAt 40 (.pointer (some ⟨b, i, none⟩)) (.slice A n c)).run Tryz.prog W = .ok () (W.setCell ⟨b, i, none⟩ (.slice A n c)) := by
  simp [go_sem, h, hf]
/-- What refs' closure makes of a line. -/
def Rf1P (acc : List Ref) (s : Bs) (bl B : Nat) (w : World) (e : Ending) (w' : World) : Prop :=
  ∃ v acc2, e = .returned v ∧ ((∃ one, getR (s ++ [10]) = some one ∧ v = .nilIface ∧ acc2 = acc ++ one) ∨ (getR (s ++ [10]) = none ∧ (∃ x, v = ev x) ∧ acc2 = acc)) ∧ BxR w' bl B acc2 ∧ Wk 75 bl B w w'
set_option maxHeartbeats 8000000 in
set_option maxRecDepth 100000 in
theorem rf1_p {w0 w : World} {E : ErA} (hp : PrA E w0) (low : Below w0.heap.size w0 w) {bl B : Nat} {acc : List Ref} (hb : BxR w bl B acc) (hB : B ≤ w.heap.size) (hlb : w0.heap.size ≤ bl) (hlB : w0.heap.size ≤ B) (ha : acc.length ≤ 1000) (s : Bs) (hs : s.length ≤ 900000) :
    Calls Tryz.prog 102 #[.string ⟨s.toArray⟩, .pointer (some ⟨bl, 0, none⟩)] w (Rf1P acc s bl B w) := by
  obtain ⟨st, hst⟩ : ∃ t : ByteArray, t = ⟨(s ++ [10]).toArray⟩ := ⟨_, rfl⟩
  have hadd := cat_run s [10] st hst (by omega) (by simp)
  have HG := Lib.hid (Rf.Get_p (s ++ [10]) w (by simp; omega))
  rw [← hst] at HG
  have HB := Lib.hid hb; have HP := Lib.hid hp; have HL := Lib.hid (And.intro low (And.intro hB (And.intro hlb (And.intro hlB ha))))
  clear hb hp low hB hlb hlB ha hst hs
  go_enter Tryz.func102, Tryz.ntmps102
  go_wp2_with fail
  refine HG.out.mono ?_
  rintro e w1 ⟨hv, l1⟩
  have hb1 := HB.out.below l1 (Nat.le_refl _)
  obtain ⟨A, n, c, hk1, ho1, hn1⟩ := hb1
  have c0 : w1.cell? ⟨bl, 0, none⟩ = some (.slice A n c) := (cell_of_row w1 bl 0 _ _ _ hk1).trans rfl
  have hB1 : B ≤ w1.heap.size := Nat.le_trans HL.out.2.1 l1.size
  rcases hv with ⟨v, one, rfl, hone, hg⟩ | ⟨rfl, hno⟩
  · have hgo := getR_iff.2 hg
    obtain ⟨Ao, no, co, rfl, -⟩ := Rf.OwK.shape hone
    have hlo : one.length ≤ 64 := hg.1.len
    obtain ⟨v2, w2, r2, o2, g2⟩ := run_all' elRef ho1 (OwK.rd Rf.refC_len hone) (by have := HL.out.2.2.2.2; omega) (by decide) hB1
    obtain ⟨b3, t3, c2, f2⟩ := Bx.app hk1 (by decide) ho1 o2 g2
    obtain ⟨A2, n2, q2, rfl, -⟩ := Rf.OwK.shape o2
    obtain ⟨w3, hw3⟩ : ∃ y, y = w2.setCell ⟨bl, 0, none⟩ (.slice A2 n2 q2) := ⟨_, rfl⟩
    rw [← hw3] at b3 t3
    have t03 := Wk.trans (Wk.new l1) t3
    have ew := (HP.out.er.below (t03.low HL.out.1 HL.out.2.2.1 HL.out.2.2.2.1)).wrong
    obtain ⟨x, hx⟩ : ∃ x, x = E.wrong := ⟨_, rfl⟩
    rw [← hx] at ew
    unfold ev at ew
    have HNd := Lib.hid (need_p true x .nilIface rfl w3)
    have HF : Hid (Rf1P acc s bl B w (.returned .nilIface) w3) := Lib.hid ⟨_, _, rfl, .inl ⟨one, hgo, rfl, rfl⟩, b3, t03⟩
    have EW3 := Lib.hid ew
    have HW3 := Lib.hid hw3; have R2 := Lib.hid r2
    clear ew hk1 ho1 hn1 hone hg hgo hlo r2 o2 g2 b3 t3 hw3 t03 hx l1 HG hB1
    go_upto_region 2 with fail
    refine wp_region_lit ?_
    refine wpList_run (by kernel_rfl) (.slice A n c) w1 (y_load (sv := .pointer (some ⟨bl, 0, none⟩)) rfl (by kernel_rfl) (l_Rl w1 bl 0 A n c c0)) ?_
    refine wpList_run (by kernel_rfl) (.slice Ao no co) w1 (by kernel_rfl) ?_
    refine wpList_run (by kernel_rfl) (.slice A2 n2 q2) w2 (y_appendS (s := .tmp 12) (y := .tmp 13) rfl (by kernel_rfl) (by kernel_rfl) (R2.out _)) ?_
    go_simp
    go_upto_region 3 with fail
    rw [← HW3.out]
    clear c0 c2 f2 HW3 R2
    have e3 := EW3.out
    go_wp2_with fail
    refine HNd.out.mono ?_
    rintro e w4 ⟨rfl, rfl⟩
    go_wp2_with fail
    go_ret
    exact HF.out
  · have hgo := getR_none.2 hno
    have r2 : ∀ ty, (Builtin.append_ #[40, 40] ty #[.slice A n c, .slice none 0 0]).run Tryz.prog w1 = .ok (.slice A n c) w1 := fun ty => by
      obtain ⟨z, hz, _⟩ := elRef.info
      obtain ⟨i0, hi, _⟩ := info_parts hz
      exact run_append_nilC B 40 ty 75 i0 2 elRef.ut hi (.slice A n c) acc.length 0 _ ho1
    have f2 : w1.frozen? ⟨bl, 0, none⟩ = false := by unfold World.frozen?; simp only [hk1]; rfl
    obtain ⟨w3, hw3⟩ : ∃ y, y = w1.setCell ⟨bl, 0, none⟩ (.slice A n c) := ⟨_, rfl⟩
    have t3 : Wk 75 bl B w1 w3 := by rw [hw3]; exact (but_set w1 bl 0 _).mono fun k _ h => .inl h
    have b3 : BxR w3 bl B acc := ⟨A, n, c, by rw [hw3]; exact (blk_set hk1 _).trans rfl, by
      rw [hw3]
      exact row_but ho1 (but_set w1 bl 0 _) fun g hg e => by
        obtain ⟨_, _, cur, hc⟩ := own_block ho1 hg
        rw [e, hk1] at hc; (cases hc), hn1⟩
    have t03 := Wk.trans (Wk.new l1) t3
    have ew := (HP.out.er.below (t03.low HL.out.1 HL.out.2.2.1 HL.out.2.2.2.1)).wrong
    obtain ⟨x, hx⟩ : ∃ x, x = E.wrong := ⟨_, rfl⟩
    rw [← hx] at ew
    unfold ev at ew
    have HNd := Lib.hid (need_p false x (ev x) rfl w3)
    have HF : Hid (Rf1P acc s bl B w (.returned (ev x)) w3) := Lib.hid ⟨_, _, rfl, .inr ⟨hgo, ⟨x, rfl⟩, rfl⟩, b3, t03⟩
    have EW3 := Lib.hid ew
    have HW3 := Lib.hid hw3; have R2 := Lib.hid r2
    unfold ev at HF HNd
    clear ew hk1 ho1 hn1 hgo r2 b3 t3 hw3 t03 hx l1 HG hB1 hno
    go_upto_region 2 with fail
    refine wp_region_lit ?_
    refine wpList_run (by kernel_rfl) (.slice A n c) w1 (y_load (sv := .pointer (some ⟨bl, 0, none⟩)) rfl (by kernel_rfl) (l_Rl w1 bl 0 A n c c0)) ?_
    refine wpList_run (by kernel_rfl) (.slice none 0 0) w1 (by kernel_rfl) ?_
    refine wpList_run (by kernel_rfl) (.slice A n c) w1 (y_appendS (s := .tmp 12) (y := .tmp 13) rfl (by kernel_rfl) (by kernel_rfl) (R2.out _)) ?_
    go_simp
    go_upto_region 3 with fail
    rw [← HW3.out]
    clear c0 f2 HW3 R2
    have e3 := EW3.out
    go_wp2_with fail
    refine HNd.out.mono ?_
    rintro e w4 ⟨rfl, rfl⟩
    go_wp2_with fail
    go_ret
    exact HF.out
open Classical in
/-- All refs of a fork, read. -/
noncomputable def refsR (n : Nat) (s : Bs) : Option (List Ref × Bs) := match refsO n [] s with | some (rs, r) => if Rf.Right rs then some (rs, r) else none | none => none
def RfsP (w0 : World) (a : Nat) (o : Option (List Ref × Bs)) (w : World) (e : Ending) (w' : World) : Prop :=
  ∃ A n c, e = .returned (.slice A n c) ∧ But (fun k => k = a) w w' ∧ ((∃ l r, o = some (l, r) ∧ n = l.length ∧ OwR w' w.heap.size (.slice A n c) l ∧ Rd w0 w' a r) ∨ (o = none ∧ (∃ l, n = l.length ∧ OwR w' w.heap.size (.slice A n c) l) ∧ ∃ v, RdE w0 w' a v))
def OkA (acc : List Ref) : Prop := ∀ r ∈ acc, nameB r.name = true ∧ namedB r.id = true
theorem OkA.fit {acc : List Ref} (h : OkA acc) : Fit acc := fun r hr => by
  have h1 := Rf.nameB_len (h r hr).1; have h2 := Rf.named_len64 (h r hr).2
  unfold maxLen; omega
open Classical in
set_option maxHeartbeats 8000000 in
set_option maxRecDepth 100000 in
theorem refs_p {w0 w : World} {E : ErA} (hp : PrA E w0) {a : Nat} {o : Option Bs} (hs : St w0 w a o) (hsl : ∀ s, o = some s → s.length ≤ 900000) (n : Nat) (hn : n ≤ 900) :
    Calls Tryz.prog 80 #[.pointer (some ⟨a, 0, none⟩), .int .i64 (n : Int)] w (RfsP w0 a (o.bind (refsR n)) w) := by
  obtain ⟨w1, hw1⟩ : ∃ y, y = w.alloc (.cells #[.slice none 0 0] 40) := ⟨_, rfl⟩
  have l1 : Below w.heap.size w w1 := by rw [hw1]; exact below_new _ _
  obtain ⟨bl, hbl⟩ : ∃ z, z = w.heap.size := ⟨_, rfl⟩
  have hk1 : w1.heap[bl]? = some (.cells #[.slice none 0 0] 40 (0, 0)) := by rw [hw1, hbl]; exact heap_alloc_new _ _
  have hx1 : BxR w1 bl w.heap.size [] := ⟨none, 0, 0, hk1, OwK.nil _ _ _ _ _, rfl⟩
  have hs1 := hs.ch (Ch.new l1)
  have HE : Hid (a < w.heap.size ∧ w0.heap.size ≤ a ∧ bl = w.heap.size) := Lib.hid ⟨hs.lt, hs.lo, hbl⟩
  have HS := Lib.hid hs1; have HX := Lib.hid hx1; have HW := Lib.hid hw1; have HP := Lib.hid hp; have HB := Lib.hid l1; have HSl := Lib.hid hsl
  clear hs1 hx1 hw1 hp l1 hs hk1 hsl
  go_enter Tryz.func80, Tryz.ntmps80
  go_upto_region 2 with fail
  rw [← HW.out, ← hbl]
  clear hbl HW
  go_wp2_with fail
  go_loopw [7] (fun i wr => ∃ (k : Nat) (acc : List Ref) (o' : Option Bs), k ≤ n ∧ i = .int .i64 k ∧ Hid (BxR wr bl w.heap.size acc) ∧ Hid (OkA acc ∧ acc.length ≤ k) ∧ Hid (St w0 wr a o' ∧ ∀ s, o' = some s → s.length ≤ 900000) ∧ Hid (But (fun k => k = a) w wr) ∧ Hid (o.bind (refsO n []) = o'.bind (refsO (n - k) acc))) (fun i _ => n - (intOf i).toNat)
  case atStart => exact ⟨0, [], o, Nat.zero_le _, rfl, HX, Lib.hid ⟨fun x h => (by cases h), Nat.le_refl _⟩, Lib.hid ⟨HS.out, HSl.out⟩, Lib.hid (But.of_new HB.out), Lib.hid (by rw [Nat.sub_zero])⟩
  case round =>
    obtain ⟨wo, hwo⟩ : ∃ wo, wo = wr := ⟨_, rfl⟩
    subst hwo
    clear HX HS HB
    obtain ⟨k, acc, o', hk, rfl, hX, hF, hS, hT, hR⟩ := hrel
    by_cases hlt : k < n
    case neg =>
      have hkn : k = n := by omega
      obtain ⟨A, m, c, hkk, ho, hm⟩ := hX.out
      have c0 : wo.cell? ⟨bl, 0, none⟩ = some (.slice A m c) := (cell_of_row wo bl 0 _ _ _ hkk).trans rfl
      obtain ⟨q, hq⟩ : ∃ q, q = rightB acc := ⟨_, rfl⟩
      obtain ⟨wz, hwz⟩ : ∃ y, y = wo.drew := ⟨_, rfl⟩
      have lz : Below wo.heap.size wo wz := by rw [hwz]; exact bdr (Below.refl _ _) 1
      have hsz : St w0 wz a o' := hS.out.1.ch (Ch.new lz)
      obtain ⟨cs, hcs⟩ := hsz.blkt
      have hz : (0 : Nat) = 0 := rfl
      have CL : Hid (∀ W, But (fun k => k = a) wz W → W.cell? ⟨bl, 0, none⟩ = some (.slice A m c)) := Lib.hid fun W h => by
        rw [h.cell (p := ⟨bl, 0, none⟩) (Nat.lt_of_lt_of_le (lt_heap hkk) lz.size) (fun e => by have := HE.out; simp only at e; omega), lz.cell (p := ⟨bl, 0, none⟩) (lt_heap hkk)]; exact c0
      obtain ⟨x, hx⟩ : ∃ x, x = E.wrong := ⟨_, rfl⟩
      have EW : Hid (∀ W, But (fun k => k = a) wz W → W.cell? ⟨1, 0, none⟩ = some (.iface 206 (.pointer (some x)))) := Lib.hid fun W h => by
        have h1 := (HP.out.er.below (hsz.low.trans (h.below (fun k _ hk => by have := HE.out; omega) hsz.low.size))).wrong
        rw [← hx] at h1; exact h1
      have HRt : Hid (∀ W, But (fun k => k = a) wz W → Calls Tryz.prog 63 #[.slice A m c] W (BoolB q W)) := Lib.hid fun W h => by
        rw [hq]
        have hoz : OwR wz w.heap.size (.slice A m c) acc := ho.below lz (Nat.le_refl _)
        have hoW : OwR W w.heap.size (.slice A m c) acc := OwK.but hoz h (fun g hg e => by
          obtain ⟨_, _, cur, hc⟩ := own_block hoz hg
          rw [e, hcs] at hc; cases hc)
        exact Rf.Right_p acc _ W (OwK.rd Rf.refC_len hoW) hF.out.1.fit (by have := hF.out.2; omega)
      obtain ⟨nv, hnv⟩ : ∃ v, v = if q = true then .nilIface else ev x := ⟨_, rfl⟩
      have HNd : Hid (∀ W, Calls Tryz.prog 77 #[.bool q, .iface 206 (.pointer (some x))] W fun e w' => e = .returned nv ∧ W = w') := Lib.hid fun W => need_p q x nv hnv W
      have HQ : Hid (∀ W, Below wz.heap.size wz W → Calls Tryz.prog 97 #[.pointer (some ⟨a, 0, none⟩), nv] W fun e w' => e = .returned (.tuple #[]) ∧ But (fun k => k = a) W w' ∧ RfsP w0 a (o.bind (refsR n)) w (.returned (.slice A m c)) w') := Lib.hid fun W hW => by
        have hsW : St w0 W a o' := hsz.ch (Ch.new hW)
        have htW : But (fun k => k = a) w W := (hT.out.trans (But.of_new lz)).trans (But.of_new hW)
        have hoW : OwR W w.heap.size (.slice A m c) acc := (ho.below lz (Nat.le_refl _)).below hW (Nat.le_refl _)
        have hres : o.bind (refsR n) = o'.bind fun s => if Rf.Right acc then some (acc, s) else none := by
          have h := hR.out
          rw [hkn, Nat.sub_self] at h
          have e1 : o.bind (refsR n) = (o.bind (refsO n [])).bind fun p => if Rf.Right p.1 then some p else none := by
            cases o with
            | none => rfl
            | some s =>
              show refsR n s = (refsO n [] s).bind _
              unfold refsR
              cases refsO n [] s with
              | none => rfl
              | some p => rfl
          rw [e1, h]
          cases o' with
          | none => rfl
          | some s => rfl
        have hfin : ∀ w', But (fun k => k = a) W w' → (∃ cs, W.heap[a]? = some (.cells cs 82 (0, 0))) → OwR w' w.heap.size (.slice A m c) acc := fun w' h ⟨cs, hc2⟩ => OwK.but hoW h (fun g hg e => by
          obtain ⟨_, _, cur, hc⟩ := own_block hoW hg
          rw [e, hc2] at hc; cases hc)
        cases o' with
        | none =>
          obtain ⟨v, hv⟩ := hsW
          obtain ⟨A9, n9, c9, k9, p9, j9, h9, _⟩ := hv.blk
          refine (keep_has h9).mono ?_
          rintro e w' ⟨rfl, rfl⟩
          refine ⟨rfl, But.refl _ _, A, m, c, rfl, htW, ?_⟩
          rw [hres]
          exact .inr ⟨rfl, ⟨acc, hm, hoW⟩, _, hv⟩
        | some s =>
          have hsW : Rd w0 W a s := hsW
          obtain ⟨A9, n9, c9, k9, h9, _⟩ := hsW.blk
          cases q with
          | true =>
            have hr : Rf.Right acc := Classical.byContradiction fun h => by rw [rightB_no h] at hq; cases hq
            rw [if_pos rfl] at hnv
            subst hnv
            refine (keep_nil h9).mono ?_
            rintro e w' ⟨rfl, rfl⟩
            refine ⟨rfl, But.refl _ _, A, m, c, rfl, htW, ?_⟩
            rw [hres]
            exact .inl ⟨acc, s, if_pos hr, hm, hoW, hsW⟩
          | false =>
            have hr : ¬ Rf.Right acc := fun h => by rw [rightB_yes h] at hq; cases hq
            rw [if_neg (by decide)] at hnv
            subst hnv
            refine (keep_err h9).mono ?_
            rintro e w' ⟨rfl, hw'⟩
            obtain ⟨r1, r2⟩ := RdE.mk' h9 hsW.low hsW.lo hw'
            refine ⟨rfl, r2, A, m, c, rfl, htW.trans r2, ?_⟩
            rw [hres]
            exact .inr ⟨if_neg hr, ⟨acc, hm, hfin w' r2 ⟨_, h9⟩⟩, _, r1⟩
      have HBl : Hid (bl < w.heap.size + 1 ∧ bl ≠ a) := Lib.hid ⟨by have := HE.out; omega, by have := HE.out; omega⟩
      have HWz := Lib.hid hwz
      clear hkn hkk ho hm hX hF hS hT hR hq hnv hwz lz hsz hcs hz hx c0
      go_upto_region 6 with fail
      have T0 : Hid (But (fun k => k = a) wz wz) := Lib.hid (But.refl _ _)
      refine held_start (But (fun k => k = a) wz) (by kernel_rfl) ?_
      rw [← HWz.out]
      refine held_take 0 (.pointer (some ⟨a, 0, none⟩)) rfl (by kernel_rfl) (by kernel_rfl) (by kernel_rfl) (fun _ _ _ h => h) (by kernel_rfl) (fun W hW => by kernel_rfl) T0.out ?_
      refine held_take 1 (.slice A m c) rfl (by kernel_rfl) (by kernel_rfl) (by kernel_rfl) (fun _ _ _ h => h) (by kernel_rfl) (fun W hW => y_load (sv := .pointer (some ⟨bl, 0, none⟩)) rfl (by kernel_rfl) (l_Rl W bl 0 A m c (CL.out W hW))) T0.out ?_
      refine held_take 3 (.iface 206 (.pointer (some x))) rfl (by kernel_rfl) (by kernel_rfl) (by kernel_rfl) (fun _ _ _ h => h) (by kernel_rfl) (fun W hW => y_load (sv := .pointer (some ⟨1, 0, none⟩)) rfl (by kernel_rfl) (l_Er W 1 _ _ (EW.out W hW))) T0.out ?_
      refine held_one_call (i := 2) 63 #[.slice A m c] (by kernel_rfl) rfl (by kernel_rfl) (by kernel_rfl) ?_
      refine (HRt.out wz T0.out).mono ?_
      rintro e w7 ⟨rfl, hb7⟩
      have T7 : Hid (But (fun k => k = a) wz w7) := Lib.hid (But.of_new hb7)
      have L7 := Lib.hid hb7
      clear hb7
      refine ⟨_, rfl, T7.out, ?_⟩
      refine held_one_call (i := 4) 77 #[.bool q, .iface 206 (.pointer (some x))] (by kernel_rfl) rfl (by kernel_rfl) (by kernel_rfl) ?_
      refine (HNd.out w7).mono ?_
      rintro e w8 ⟨rfl, rfl⟩
      refine ⟨_, rfl, T7.out, ?_⟩
      refine held_one_call (i := 5) 97 #[.pointer (some ⟨a, 0, none⟩), nv] (by kernel_rfl) rfl (by kernel_rfl) (by kernel_rfl) ?_
      refine (HQ.out w7 L7.out).mono ?_
      rintro e w8 ⟨rfl, t8, hfin⟩
      have T5 := Lib.hid (T7.out.trans t8)
      have HFin := Lib.hid hfin
      clear t8 hfin
      refine ⟨_, rfl, T5.out, ?_⟩
      refine held_done _ (by kernel_rfl) ?_
      go_simp
      have c0 := CL.out _ T5.out
      clear CL EW HRt HNd HQ
      go_wp2_with fail
      go_ret
      exact HFin.out
    obtain ⟨d, hd⟩ : ∃ d, n - k = d + 1 := ⟨n - k - 1, by omega⟩
    have hd2 : n - (k + 1) = d := by omega
    cases o' with
    | none =>
      obtain ⟨v, hv⟩ := hS.out.1
      have HL := Lib.hid (line_has hv (.func (.func 102) #[] #[.pointer (some ⟨bl, 0, none⟩)]))
      have HR2 : Hid (o.bind (refsO n []) = (none : Option Bs).bind (refsO (n - (k + 1)) acc)) := Lib.hid (by rw [hR.out]; rfl)
      have HF2 : Hid (OkA acc ∧ acc.length ≤ k + 1) := Lib.hid ⟨hF.out.1, by have := hF.out.2; omega⟩
      clear hd hd2 hv hR hF
      go_wp2_with fail
      refine HL.out.mono ?_
      rintro e w2 ⟨rfl, rfl⟩
      clear HL
      go_wp2_with fail
      go_roundw
      case rel => exact ⟨k + 1, acc, none, by omega, by go_num, hX, HF2, hS, hT, HR2⟩
      case measure => simp [intOf]; omega
    | some s =>
      have hrd : Rd w0 wo a s := hS.out.1
      have hsl := hS.out.2 s rfl
      cases hc : cutAt 10 s with
      | none =>
        have HL := Lib.hid (line_end hrd HP.out.er hc (.func (.func 102) #[] #[.pointer (some ⟨bl, 0, none⟩)]))
        have HR2 : Hid (o.bind (refsO n []) = (none : Option Bs).bind (refsO (n - (k + 1)) acc)) := Lib.hid (by rw [hR.out, hd]; show refsO (d + 1) acc s = none; rw [refsO, hc])
        have HF2 : Hid (OkA acc ∧ acc.length ≤ k + 1) := Lib.hid ⟨hF.out.1, by have := hF.out.2; omega⟩
        obtain ⟨cs, hcs⟩ := hrd.blkt
        have Hcs := Lib.hid hcs
        clear hd hd2 hR hF hrd hc hcs hS hsl
        go_wp2_with fail
        refine HL.out.mono ?_
        rintro e w2 ⟨rfl, r2, t2⟩
        have HX2 : Hid (BxR w2 bl w.heap.size acc) := Lib.hid (Bx.far hX.out Hcs.out (by decide) (by decide) t2)
        have HS2 : Hid (St w0 w2 a none ∧ ∀ s, (none : Option Bs) = some s → s.length ≤ 900000) := Lib.hid ⟨⟨_, r2⟩, fun s h => by cases h⟩
        have HT2 := Lib.hid (hT.out.trans t2)
        clear r2 t2 HL hX hT
        go_wp2_with fail
        go_roundw
        case rel => exact ⟨k + 1, acc, none, by omega, by go_num, HX2, HF2, HS2, HT2, HR2⟩
        case measure => simp [intOf]; omega
      | some p =>
        obtain ⟨l, r⟩ := p
        have hll := cutAt_len hc
        obtain ⟨cs, hcs⟩ := hrd.blkt
        have hcz : w.heap.size ≤ wo.heap.size := But.size hT.out
        have HL := Lib.hid (line_take hrd hc 102 #[.pointer (some ⟨bl, 0, none⟩)] (enters_of Tryz.func102 (by kernel_rfl) rfl)
          (fun v W' => (∃ acc2, ((∃ one, getR (l ++ [10]) = some one ∧ v = .nilIface ∧ acc2 = acc ++ one) ∨ (getR (l ++ [10]) = none ∧ (∃ x, v = ev x) ∧ acc2 = acc)) ∧ BxR W' bl w.heap.size acc2) ∧ But (fun k => k = a) w W' ∧ Rd w0 W' a r)
          (fun W hW hT2 => by
            have hXW : BxR W bl w.heap.size acc := Bx.far hX.out hcs (by decide) (by decide) hT2
            refine (rf1_p HP.out hW.low hXW (Nat.le_trans hcz hT2.size) (by have := HE.out; omega) (by have := HE.out; omega) (by have := hF.out.2; omega) l (by omega)).mono ?_
            rintro e W' ⟨v, acc2, rfl, hv, hx, hwk⟩
            obtain ⟨cs', hcs'⟩ := hW.blkt
            have hch : Ch w0 a W W' := by
              obtain ⟨A9, n9, c9, k9, _⟩ := hXW
              exact Wk.ch hwk hcs' k9 (by decide) (by decide) (by decide) (by decide) (by have := HE.out; omega) (by have := HE.out; omega)
            refine ⟨v, rfl, ?_, hch, ⟨acc2, hv, hx⟩, ?_, hW.ch hch⟩
            · rcases hv with ⟨_, _, rfl, _⟩ | ⟨_, ⟨x, rfl⟩, _⟩
              · exact .inl rfl
              · exact .inr ⟨_, _, rfl⟩
            · exact butNew (hT.out.trans hT2) hwk (by have := HE.out; omega) (Nat.le_refl _)))
        have HN10 : Hid ((10 : UInt8) ∉ l) := Lib.hid (cutAt_some hc).2
        have HA := Lib.hid hF.out
        have Hrl : Hid (r.length ≤ 900000) := Lib.hid (by omega)
        have HR1 : Hid (o.bind (refsO n []) = match getR (l ++ [10]) with | some one => refsO (n - (k + 1)) (acc ++ one) r | none => none) := Lib.hid (by rw [hR.out, hd, hd2]; show refsO (d + 1) acc s = _; rw [refsO, hc]; rfl)
        clear hd hd2 hR hF hrd hc hcs hS hll hsl hcz hX hT
        go_wp2_with fail
        refine HL.out.mono ?_
        rintro e w2 ⟨rfl, v, W', ⟨⟨acc2, hv, hx⟩, ht, hr⟩, t2, hst⟩
        obtain ⟨cs, hcs⟩ := hr.blkt
        have HX2 : Hid (BxR w2 bl w.heap.size acc2) := Lib.hid (Bx.far hx hcs (by decide) (by decide) t2)
        have HT2 := Lib.hid (ht.trans t2)
        obtain ⟨o2, HS2, HR2, HF2⟩ : ∃ o2, Hid (St w0 w2 a o2 ∧ ∀ s, o2 = some s → s.length ≤ 900000) ∧ Hid (o.bind (refsO n []) = o2.bind (refsO (n - (k + 1)) acc2)) ∧ Hid (OkA acc2 ∧ acc2.length ≤ k + 1) := by
          rcases hv with ⟨one, h1, rfl, rfl⟩ | ⟨h1, ⟨x, rfl⟩, rfl⟩
          · refine ⟨some r, Lib.hid ⟨?_, fun s h => ?_⟩, Lib.hid ?_, Lib.hid ⟨fun y hy => ?_, ?_⟩⟩
            · rcases hst with ⟨_, h⟩ | ⟨h, _⟩
              · exact h
              · exact absurd rfl h
            · cases h; exact Hrl.out
            · rw [HR1.out, h1]; rfl
            · rcases List.mem_append.1 hy with hy | hy
              · exact HA.out.1 y hy
              · exact (getR_iff.1 h1).1.each y hy
            · obtain ⟨y, rfl⟩ := getR_one HN10.out h1
              have := HA.out.2; simp; omega
          · refine ⟨none, Lib.hid ⟨?_, fun s h => by cases h⟩, Lib.hid ?_, Lib.hid ⟨HA.out.1, by have := HA.out.2; omega⟩⟩
            · rcases hst with ⟨h, _⟩ | ⟨_, h⟩
              · cases h
              · exact ⟨_, h⟩
            · rw [HR1.out, h1]; rfl
        clear hv hx ht hr t2 hst hcs HL HR1 HA HN10 Hrl
        go_wp2_with fail
        go_roundw
        case rel => exact ⟨k + 1, acc2, o2, by omega, by go_num, HX2, HF2, HS2, HT2, HR2⟩
        case measure => simp [intOf]; omega
end Go.Proofs.YtnboagmibhllpaaGreatDoor.Ro
