/-
  The document's Sound.
  What the laws' walks share.
  What comes in: objects with their names, objects, texts, as they read.
  What the rows' condition gives; a world that meets it; arguments that read as they did, and what they may be.
-/
import Derived.Test.YtbglfnbdhdbjjaaGreatDoorC24
import Derived.Test.YtbglfnbdhdbjjaaGreatDoorC23
import Derived.Deep.Slices
import Derived.ChangeArms
import Derived.DataShut
import Derived.SizedLaws
import Derived.Carry
import Derived.Test.YtbglfnbdhdbjjaaGreatDoorCards
import Derived.Test.YtbglfnbdhdbjjaaGreatDoorTie
import Derived.WalkKit
import Derived.ProofKit
import Derived.OpenShut
import Derived.Deep.DeepHandedRow
import Derived.LaidLaws
import Derived.LaidHandle
import Derived.Stop.LaidErr
import Derived.Stop.LaidTwo
import Derived.Lib.LaidU8
import Derived.Test.YtbglfnbdhdbjjaaGreatDoorC13

namespace Go.Proofs.YtbglfnbdhdbjjaaGreatDoor
open Go Go.RowKit Go.Maps

theorem findV_kind (L : List Hld) (x : Bs) : ∃ d : Bs, findV L x = .tuple #[.agg #[.int .i64 (kindB L x), .string ⟨d.toArray⟩], .bool (thB L x)] := by
  unfold findV kindB
  cases findL L x with
  | none => exact ⟨[], rfl⟩
  | some u => exact ⟨u.data, rfl⟩
/-- The wants of the first k are of the kinds that they must be. -/
def OkUpto (L : List Hld) (a : List Bs) (k : Nat) : Prop := ∀ x ∈ a.take k, ∀ p ∈ wfL L x, kindB L p.1 = p.2
def OkWs (L : List Hld) (ws : List (Bs × Int)) (k : Nat) : Prop := ∀ p ∈ ws.take k, kindB L p.1 = p.2
theorem OkUpto.step {L : List Hld} {a : List Bs} {k : Nat} (h : OkUpto L a k) (hk : k < a.length) (hw : OkWs L (wfL L (a.getD k [])) (wfL L (a.getD k [])).length) : OkUpto L a (k + 1) := fun x hx => by
  rw [take_getD a [] k hk] at hx
  rcases List.mem_append.1 hx with hx | hx
  · exact h x hx
  · rw [List.mem_singleton.1 hx]
    have := hw
    unfold OkWs at this
    rw [List.take_length] at this; exact this
theorem OkWs.step {L : List Hld} {ws : List (Bs × Int)} {k : Nat} (h : OkWs L ws k) (hk : k < ws.length) (hw : kindB L (ws.getD k ([], 0)).1 = (ws.getD k ([], 0)).2) : OkWs L ws (k + 1) := fun p hp => by
  rw [take_getD ws ([], 0) k hk] at hp
  rcases List.mem_append.1 hp with hp | hp
  · exact h p hp
  · rw [List.mem_singleton.1 hp]; exact hw

set_option maxHeartbeats 8000000 in
set_option maxRecDepth 100000 in
theorem RSound_any {w : World} {v tv : Value} {L : List Hld} {tips : List Bs} (h : HldsR w v L) (ht : StrsR w tv tips)
    (hL : L.length ≤ 2000) (hT : tips.length ≤ 1000) (hd : ∀ x ∈ L, x.data.length ≤ 10000) :
    Calls Tryz.prog 20 #[v, tv] w (SouPost L tips w) := by
  have hC := RClosure_any h ht hL hT hd
  obtain ⟨A0, c0, rfl⟩ := h.shape
  obtain ⟨At, ct, rfl⟩ := ht.shape
  have Hx := Lib.hid h; have HC := Lib.hid hC; have HD := Lib.hid hd
  clear h ht hd hC
  go_enter Tryz.func20, Tryz.ntmps20
  go_wp2_with fail
  refine HC.out.mono ?_
  rintro e w1 ⟨va, vb, a, b, rfl, ha, hb, hClo, hla, hlb, b1⟩
  obtain ⟨Aa, ca, rfl⟩ := ha.shape
  obtain ⟨Ab, cb, rfl⟩ := hb.shape
  have Ha := Lib.hid ha; have Hclo := Lib.hid hClo; have HB1 := Lib.hid b1
  clear ha hb hClo b1
  by_cases hb0 : 0 < b.length
  · obtain ⟨x, hx⟩ := List.exists_mem_of_length_pos hb0
    have HXx := Lib.hid ((Hclo.out.mb x).1 hx)
    have hbI : (0 : Int) < (b.length : Int) := by omega
    clear hx
    go_wp2_with fail
    go_ret
    exact ⟨51, rfl, .inl ⟨rfl, x, HXx.out⟩, HB1.out⟩
  obtain rfl : b = [] := List.eq_nil_of_length_eq_zero (by omega)
  have hall : ∀ x, Reach (wfL L) tips x → thB L x = true := fun x hx => by
    cases ht : thB L x with
    | true => rfl
    | false => exact absurd ((Hclo.out.mb x).2 ⟨hx, ht⟩) (by simp)
  have HAll := Lib.hid hall
  clear hall hb0 hlb
  go_wp2_with fail
  go_loopw [7] (fun vi wr => Hid (Below w.heap.size w wr) ∧ Hid (Below w1.heap.size w1 wr) ∧ ∃ k : Nat, k ≤ a.length ∧ vi = .int .i64 k ∧ Hid (OkUpto L a k)) (fun vi _ => a.length - (intOf vi).toNat)
  case atStart => exact ⟨HB1, Lib.hid (Below.refl _ _), 0, Nat.zero_le _, rfl, Lib.hid (fun x hx => by cases hx)⟩
  case round =>
    obtain ⟨hB, hB', k, hk, rfl, hO⟩ := hrel
    by_cases hlt : k < a.length
    · obtain ⟨g, o, c', e, _, hg⟩ := Ha.out.pos (by omega)
      cases e
      have p0 := StrsR.cell (Ha.out.below hB'.out (Nat.le_refl _)) k hlt
      have hm := getD_mem a [] k hlt
      have hst := hO.out.step hlt
      obtain ⟨x, hx⟩ : ∃ x, x = a.getD k ([] : Bs) := ⟨_, rfl⟩
      rw [← hx] at p0 hm hst
      unfold SV at p0
      have hr := (Hclo.out.ma x).1 hm
      obtain ⟨u, hu⟩ := thB_some.1 hr.2
      have hF := RFind_any (Hx.out.below hB.out (Nat.le_refl _)) (by omega) x
      have hwf := wfL_some hu
      have hV : findV L x = .tuple #[.agg #[.int .i64 u.kind, .string ⟨u.data.toArray⟩], .bool true] := by unfold findV thB; rw [hu]; rfl
      have hdl := HD.out u (List.mem_of_find?_eq_some hu)
      obtain ⟨ui, q, d⟩ := u
      simp only at hV hwf hdl
      rw [hV] at hF
      have HF := Lib.hid hF; have HWf := Lib.hid hwf; have HDl := Lib.hid hdl; have HR := Lib.hid hr.1; have HSt := Lib.hid hst
      clear hF hV hwf hdl hr hst hx hm hu hO
      go_wp2_with fail
      refine HF.out.mono ?_
      rintro e w2 ⟨rfl, b2⟩
      obtain ⟨w3, hw3⟩ : ∃ w3, w3 = w2.alloc (.cells #[.int .i64 q, .string ⟨d.toArray⟩] 30) := ⟨_, rfl⟩
      have hb3 := b2.alloc b2.size (.cells #[.int .i64 q, .string ⟨d.toArray⟩] 30)
      rw [← hw3] at hb3
      have HB3 := Lib.hid hb3
      have hk3 : w3.heap[w2.heap.size]? = some (.cells #[.int .i64 q, .string ⟨d.toArray⟩] 30 (0, 0)) := by rw [hw3]; exact heap_alloc_new w2 _
      have q0 : w3.cell? ⟨w2.heap.size, 0, none⟩ = some (.int .i64 q) := (cell_of_row w3 _ 0 _ _ _ hk3).trans rfl
      have q1 : w3.cell? ⟨w2.heap.size, 1, none⟩ = some (.string ⟨d.toArray⟩) := (cell_of_row w3 _ 1 _ _ _ hk3).trans rfl
      have HW3 := Lib.hid hw3
      have HWa := Lib.hid (RWants_any q d (by have := HDl.out; omega) w3)
      clear b2 p0 hb3 hk3 hw3
      go_upto_region 8 with fail
      rw [← HW3.out]
      go_wp2_with fail
      refine HWa.out.mono ?_
      rintro e w5 ⟨b5, vw, rfl, hrw, hwl, -⟩
      rw [← HWf.out] at hrw hwl
      obtain ⟨Aw, cw, rfl⟩ := hrw.shape
      have hb5 := HB3.out.trans (b5.mono HB3.out.size)
      have HRw := Lib.hid hrw; have HWl := Lib.hid hwl
      have HB5 := Lib.hid (hB.out.trans (hb5.mono hB.out.size)); have HB5' := Lib.hid (hB'.out.trans (hb5.mono hB'.out.size))
      obtain ⟨ws, hws⟩ : ∃ ws, ws = wfL L x := ⟨_, rfl⟩
      have HWs := Lib.hid hws
      rw [← hws] at HRw HWl HSt
      clear hrw hwl b5 hb5 q0 q1
      rw [← HWs.out]
      clear hws
      go_wp2_with fail
      go_loopw [11] (fun vi wr => Hid (Below w5.heap.size w5 wr) ∧ ∃ k : Nat, k ≤ ws.length ∧ vi = .int .i64 k ∧ Hid (OkWs L ws k)) (fun vi _ => ws.length - (intOf vi).toNat)
      case atStart => exact ⟨Lib.hid (Below.refl _ _), 0, Nat.zero_le _, rfl, Lib.hid (fun x hx => by cases hx)⟩
      case round =>
        obtain ⟨hBi, j, hj, rfl, hOj⟩ := hrel
        have hwl := HWl.out
        by_cases hjl : j < ws.length
        · have hrd := HRw.out.below hBi.out (Nat.le_refl _)
          obtain ⟨g2, o2, c2, e, _, hg2⟩ := HRw.out.pos (by omega)
          cases e
          obtain ⟨r0, r1⟩ := WantsR.cells hrd j hjl
          have hst := hOj.out.step hjl
          have hym := getD_mem ws ([], 0) j hjl
          obtain ⟨y, hy⟩ : ∃ y, y = ws.getD j ([], 0) := ⟨_, rfl⟩
          rw [← hy] at r0 r1 hst hym
          obtain ⟨yi, yk⟩ := y
          unfold SV at r0
          simp only at r0 r1 hst
          have hF2 := RFind_any (Hx.out.below (HB5.out.trans (hBi.out.mono HB5.out.size)) (Nat.le_refl _)) (by omega) yi
          obtain ⟨d2, hV2⟩ := findV_kind L yi
          obtain ⟨t2, ht2⟩ : ∃ t2, t2 = thB L yi := ⟨_, rfl⟩
          rw [hV2, ← ht2] at hF2
          obtain ⟨kk, hkk⟩ : ∃ kk, kk = kindB L yi := ⟨_, rfl⟩
          rw [← hkk] at hF2 hst
          have HF2 := Lib.hid hF2; have HSt2 := Lib.hid hst; have HYm := Lib.hid hym; have HKk := Lib.hid hkk; have HRd := Lib.hid hrd; have HY := Lib.hid hy
          clear hF2 hst hym hkk hV2 ht2 hrd hy hOj
          go_wp2_with fail
          refine HF2.out.mono ?_
          rintro e w6 ⟨rfl, b6⟩
          obtain ⟨w7, hw7⟩ : ∃ w7, w7 = w6.alloc (.cells #[.int .i64 kk, .string ⟨d2.toArray⟩] 30) := ⟨_, rfl⟩
          have hb7 := b6.alloc b6.size (.cells #[.int .i64 kk, .string ⟨d2.toArray⟩] 30)
          rw [← hw7] at hb7
          have hk7 : w7.heap[w6.heap.size]? = some (.cells #[.int .i64 kk, .string ⟨d2.toArray⟩] 30 (0, 0)) := by rw [hw7]; exact heap_alloc_new w6 _
          have s0 : w7.cell? ⟨w6.heap.size, 0, none⟩ = some (.int .i64 kk) := (cell_of_row w7 _ 0 _ _ _ hk7).trans rfl
          have HW7 := Lib.hid hw7
          have HB7 := Lib.hid (hBi.out.trans (hb7.mono hBi.out.size))
          obtain ⟨r0, r1⟩ := WantsR.cells (HRd.out.below hb7 (Nat.le_refl _)) j hjl
          rw [← HY.out] at r0 r1
          unfold SV at r0
          simp only at r0 r1
          clear b6 hb7 hk7 hw7
          go_upto_region 13 with fail
          rw [← HW7.out]
          by_cases e : kk = yk
          · subst e
            have HO2 := Lib.hid (HSt2.out rfl)
            go_quiet (fail)
            go_wp2_with fail
            go_roundw
            case rel => exact ⟨Lib.hid (below_drewN' HB7.out _), j + 1, hjl, by go_num, HO2⟩
            case measure => simp [intOf]; omega
          · have HNe := Lib.hid e
            go_quiet (fail)
            go_wp2_with fail
            go_ret
            refine ⟨3, rfl, .inr ⟨HAll.out, .inl ⟨rfl, x, yi, yk, HR.out, ?_, ?_⟩⟩, below_drewN' (HB5.out.trans (HB7.out.mono HB5.out.size)) _⟩
            · rw [← HWs.out]; exact HYm.out
            · rw [← HKk.out]; exact HNe.out
        · obtain rfl : j = ws.length := by omega
          have HO2 := Lib.hid (HSt.out hOj.out)
          clear hOj
          go_wp2_with fail
          go_roundw
          case rel => exact ⟨Lib.hid (HB5.out.trans (hBi.out.mono HB5.out.size)), Lib.hid (HB5'.out.trans (hBi.out.mono HB5'.out.size)), k + 1, hlt, by go_num, HO2⟩
          case measure => simp [intOf]; omega
    · obtain rfl : k = a.length := by omega
      go_wp2_with fail
      go_ret
      refine ⟨0, rfl, .inr ⟨HAll.out, .inr ⟨rfl, fun x y q hx hy => ?_⟩⟩, hB.out⟩
      have := hO.out x (by rw [List.take_length]; exact (Hclo.out.ma x).2 ⟨hx, HAll.out x hx⟩) (y, q) hy
      exact this
end Go.Proofs.YtbglfnbdhdbjjaaGreatDoor


namespace Go.Proofs.YtbglfnbdhdbjjaaGreatDoor
open Go Go.RowKit Go.Maps

theorem has_yes {w : World} {v : Value} {l : List Bs} (h : StrsR w v l) (hl : l.length ≤ 1000000) {s : Bs} (hm : s ∈ l) : Calls Tryz.prog 28 #[v, .string ⟨s.toArray⟩] w fun e w' => e = .returned (.bool true) ∧ w = w' := by
  have := Has_any h hl s
  rw [hasB_iff.2 hm] at this; exact this
theorem has_no {w : World} {v : Value} {l : List Bs} (h : StrsR w v l) (hl : l.length ≤ 1000000) {s : Bs} (hm : s ∉ l) : Calls Tryz.prog 28 #[v, .string ⟨s.toArray⟩] w fun e w' => e = .returned (.bool false) ∧ w = w' := by
  have := Has_any h hl s
  rw [hasB_no.2 hm] at this; exact this
/-- What Closure gives at what is small. -/
theorem clo_small {w : World} {v tv : Value} {L : List Hld} {tips : List Bs} (h : HldsR w v L) (ht : StrsR w tv tips) (ho : Ob w) (hL : SmallH L) (hT : tips.length ≤ 1000) (hs : ∀ x ∈ tips, x.length ≤ 10000) :
    Calls Tryz.prog 14 #[v, tv] w (CloPost L tips w) :=
  Closure_any h ht ho.eb ho.tb (by have := hL.1; omega) hT (fun x hx => ⟨by have := (hL.2 x hx).1; omega, by have := (hL.2 x hx).2; omega⟩) hs
theorem sou_small {w : World} {v tv : Value} {L : List Hld} {tips : List Bs} (h : HldsR w v L) (ht : StrsR w tv tips) (ho : Ob w) (hL : SmallH L) (hT : tips.length ≤ 1000) (hs : ∀ x ∈ tips, x.length ≤ 10000) :
    Calls Tryz.prog 19 #[v, tv] w (SouPost L tips w) :=
  Sound_any h ht ho.eb ho.tb (by have := hL.1; omega) hT (fun x hx => ⟨by have := (hL.2 x hx).1; omega, by have := (hL.2 x hx).2; omega⟩) hs
theorem ge_strH (W : World) (x y : Bs) (h : Op.bytesLess x y = true) : (binOp .geq 9 (.string ⟨x.toArray⟩) (.string ⟨y.toArray⟩)).run Tryz.prog W = .ok (.bool false) W := by
  simp [go_sem, h]
theorem gtrH (W : World) (k : Nat) (h : 0 < k) : (binOp .gtr 3 (.int .i64 (k : Int)) (.int .i64 0)).run Tryz.prog W = .ok (.bool true) W := by
  simp [go_sem, h]
theorem wpList_wanted {P : Program} {ops : Array Oper} {rest : List Oper} {o : Oper} {a : Act} {w : World} {Q : Exit → Act → World → Prop} (hw : Region.wanted o (yielded ops a.tmps) = true)
    (h : ∀ K : Act → World → Prop, (∀ a w, wpList P ops Q rest a w → K a w) → o.wp P a w K Q) : wpList P ops Q (o :: rest) a w :=
  wpList_step fun K hK => by rw [if_pos hw]; exact h K hK
/-- 'wpList_all' at an operation that is guarded, and wanted. -/
theorem wpList_allG {α : Type} {st t : TypeId} {k bt : Nat} {f : α → List Value} (E : ElK st t k bt f) {ops : Array Oper} {rest : List Oper} {o : Oper} {a : Act} {w : World} {Q : Exit → Act → World → Prop} (hgd : Region.wanted o (yielded ops a.tmps) = true) (s y : Operand)
    (ho : o.op = .call { callee := .builtin .append, args := #[s, y], argTypes := #[st, st] }) (base : Nat) (v sv : Value) (l m : List α) (hs : a.eval s = v) (hy : a.eval y = sv)
    (h : OwK t k f w base v l) (hm : RdK k f w sv m) (hl : l.length + m.length ≤ 1000000) (hbt : bt ≤ 1000) (hb : base ≤ w.heap.size)
    (kk : ∀ v' w', OwK t k f w' base v' (l ++ m) → Below base w w' → wpList Tryz.prog ops Q rest (a.put o.dst v') w') : wpList Tryz.prog ops Q (o :: rest) a w := by
  refine wpList_wanted hgd fun K hK => ?_
  obtain ⟨v', w', h1, h2, h3, _⟩ := run_all E h hm hl hbt hb o.type
  unfold Oper.wp
  simp [execOp, ho, resolve, invoke, builtin, hs, hy, h1, Result.andThen]
  exact hK _ _ (kk v' w' h2 h3)
theorem smallT_len {l : List Bs} (h : SmallT l) : l.length ≤ 1000 ∧ ∀ x ∈ l, x.length ≤ 10000 := ⟨by have := h.1; omega, fun x hx => by have := h.2 x hx; omega⟩
end Go.Proofs.YtbglfnbdhdbjjaaGreatDoor


namespace Go.Proofs.YtbglfnbdhdbjjaaGreatDoor
open Go Go.RowKit Go.Deep

theorem add_at (b off k : Nat) : (⟨b, off, none⟩ : Addr).add k = ⟨b, off + k, none⟩ := by
  unfold Addr.add; split <;> simp_all

section
variable {H : Type} {enc : TypeId × Value → H} {W : World} {base : Nat} {held : Bool}

/-- What came in is no greater than a reach. -/
def Fits (t : TypeId) (d : DataW H) : Prop := ∀ n ∈ d.weights Tryz.prog t, n ≤ reachBytes
theorem Fits.slice {t e : TypeId} {el sp : List (DataW H)} (h : Fits t (.slice el sp)) (hu : Tryz.prog.underlying t = some (.slice e)) : (el.length + sp.length) * Tryz.prog.bytesOf e ≤ reachBytes := h _ (by simp [DataW.weights, hu])
theorem mem_all {P : Program} {e : TypeId} {n : Nat} {d : DataW H} : ∀ {l : List (DataW H)}, d ∈ l → n ∈ d.weights P e → n ∈ DataW.weightsAll P e l
  | x :: l, hd, hn => by
    rw [DataW.weightsAll, List.mem_append]
    rcases List.mem_cons.1 hd with rfl | hd
    · exact .inl hn
    · exact .inr (mem_all hd hn)
theorem Fits.elem {t e : TypeId} {el sp : List (DataW H)} {d : DataW H} (h : Fits t (.slice el sp)) (hu : Tryz.prog.underlying t = some (.slice e)) (hd : d ∈ el) : Fits e d := fun n hn =>
  h _ (by simp only [DataW.weights, hu]; exact List.mem_cons_of_mem _ (List.mem_append_left _ (mem_all hd hn)))
theorem Fits.field {t : TypeId} {fs : Array Field} {xs : List (DataW H × List MemPlace)} {y : DataW H × List MemPlace} {i : Nat} {f : Field} (h : Fits t (.agg (xs.map (·.1)))) (hu : Tryz.prog.underlying t = some (.struct fs)) (hf : fs[i]? = some f) (hy : xs[i]? = some y) : Fits f.type y.1 := fun n hn =>
  h _ (by simp only [DataW.weights, hu]; exact DataW.weights_mem_each (j := i) (t := f.type) (d := y.1) (by simp [hf]) (by simp [hy]) n hn)

/-- A slice, opened. -/
theorem open_rd {α : Type} [Inhabited α] {t e : TypeId} {k fuel : Nat} {v : Value} {x : DataW H × List MemPlace} (f : α → List Value) (Q : α → Prop) (ht : Tryz.prog.underlying t = some (.slice e)) (hs : Tryz.prog.cellsOf e = k)
    (h : DataW.trod enc Tryz.prog W base (fun _ => true) held fuel t [v] = some x) (h0 : 0 < k) (hF : Fits t x.1) (hby : 0 < Tryz.prog.bytesOf e)
    (hel : ∀ b off n cs y, W.cells? base ⟨b, off, none⟩ k = some cs → DataW.trod enc Tryz.prog W base (fun _ => true) held n e cs = some y → Fits e y.1 → ∃ o, Q o ∧ ∀ i, i < k → W.cell? ⟨b, off + i, none⟩ = (f o)[i]?) :
    ∃ l : List α, l.length ≤ limW ∧ (∀ o ∈ l, Q o) ∧ RdK k f W v l := by
  rcases open_slice ht h with ⟨h0, _⟩ | ⟨a, len, cap, m, n, D, Pl, h0', hb, hl, hm, hmm, rfl, hx⟩
  · cases h0
    exact ⟨[], by simp, fun o ho => by simp at ho, .inl ⟨⟨_, _, rfl⟩, rfl⟩⟩
  · cases h0'
    have hlm : len ≤ m := by rw [hmm]; split <;> omega
    rw [hs] at hx
    by_cases hl0 : len = 0
    · subst hl0
      exact ⟨[], by simp, fun o ho => by simp at ho, .inl ⟨⟨_, _, rfl⟩, rfl⟩⟩
    have hsp : a.spot = none := by
      obtain ⟨cs, h1, _⟩ := hx 0 (by omega)
      obtain ⟨_, h3, h4⟩ := World.cells?_some h1
      have hc0 := h4 0 h0
      rw [List.getElem?_eq_getElem (by omega)] at hc0
      have hsp := World.cell?_spot hc0
      simpa [Addr.add] using hsp
    obtain ⟨b, off, sp⟩ := a
    cases hsp
    have each : ∀ i, i < len → ∃ o, Q o ∧ ∀ j, j < k → W.cell? ⟨b, off + i * k + j, none⟩ = (f o)[j]? := fun i hi => by
      obtain ⟨cs, h1, h2⟩ := hx i (by omega)
      rw [add_at] at h1
      exact hel _ _ _ _ _ h1 h2 (hF.elem ht (List.mem_map.2 ⟨i, List.mem_range.2 hi, rfl⟩))
    obtain ⟨g, hg⟩ := choose_lt each
    have hlen : ((List.range len).map g).length = len := by simp
    have hw := hF.slice ht
    have hw2 : len ≤ reachBytes := by
      refine Nat.le_trans ?_ hw
      simp only [List.length_map, List.length_range]
      exact Nat.le_trans (Nat.le_add_right _ _) (Nat.le_mul_of_pos_right _ hby)
    have hlt : b < W.heap.size := by
      obtain ⟨cs, h1, _⟩ := hx 0 (by omega)
      obtain ⟨_, h3, h4⟩ := World.cells?_some h1
      have hc0 := h4 0 h0
      rw [List.getElem?_eq_getElem (by omega), add_at, add_at] at hc0
      exact World.block_lt_of_cell? W _ hc0
    refine ⟨(List.range len).map g, by rw [hlen]; simp [reachBytes] at hw2; unfold limW; omega, fun o ho => ?_, .inr ⟨b, off, cap, by rw [hlen], by rw [hlen]; exact hl, hlt, fun j hj x hx i hi => ?_⟩⟩
    · obtain ⟨i, hi, rfl⟩ := List.mem_map.1 ho
      exact (hg i (List.mem_range.1 hi)).1
    · rw [hlen] at hj
      have eo : g j = x := by simpa [hj] using hx
      subst eo
      exact (hg j hj).2 i hi

theorem cell1S : Tryz.prog.cellsOf 9 = 1 := by kernel_rfl
theorem cell1I : Tryz.prog.cellsOf 3 = 1 := by kernel_rfl
theorem cell1L : Tryz.prog.cellsOf 23 = 1 := by kernel_rfl
theorem fld {n off k : Nat} {t : TypeId} {cs : List Value} {y : Option (DataW H × List MemPlace)} (hc : Tryz.prog.cellsOf t = k) (h : DataW.trod enc Tryz.prog W base (fun _ => true) held n t ((cs.drop off).take (Tryz.prog.cellsOf t)) = y) : DataW.trod enc Tryz.prog W base (fun _ => true) held n t ((cs.drop off).take k) = y := hc ▸ h

set_option maxRecDepth 100000 in
theorem open_S {fuel : Nat} {v : Value} {x : DataW H × List MemPlace} (h : DataW.trod enc Tryz.prog W base (fun _ => true) held fuel 9 [v] = some x) (hF : Fits 9 x.1) : ∃ p : List UInt8, p.length ≤ limW ∧ v = SV p := by
  obtain ⟨s, h1, rfl, h3⟩ := DataW.trod_string Tryz.underlying9 h
  cases h1
  have hw := hF s.data.toList.length (by simp [DataW.weights])
  exact ⟨s.data.toList, by simp [reachBytes] at hw; rw [Array.length_toList]; unfold limW; show s.size ≤ _; omega, rfl⟩
set_option maxRecDepth 100000 in
theorem open_I {fuel : Nat} {v : Value} {x : DataW H × List MemPlace} (h : DataW.trod enc Tryz.prog W base (fun _ => true) held fuel 3 [v] = some x) : ∃ n : Int, v = .int .i64 n := by
  obtain ⟨n, h1, _⟩ := DataW.trod_int Tryz.underlying3 h
  exact ⟨n, by simpa using h1⟩

set_option maxRecDepth 100000 in
theorem open_str (b off n : Nat) (cs : List Value) (y : DataW H × List MemPlace) (h1 : W.cells? base ⟨b, off, none⟩ 1 = some cs) (h2 : DataW.trod enc Tryz.prog W base (fun _ => true) held n 9 cs = some y) (hF : Fits 9 y.1) :
    ∃ o : List UInt8, o.length ≤ limW ∧ ∀ i, i < 1 → W.cell? ⟨b, off + i, none⟩ = (strC o)[i]? := by
  obtain ⟨_, h3, h4⟩ := World.cells?_some h1
  match cs, h3 with
  | [v0], _ =>
    obtain ⟨p, hp, rfl⟩ := open_S (v := v0) h2 hF
    refine ⟨p, hp, fun i hi => ?_⟩
    have c := h4 i hi
    rw [add_at] at c
    rw [c]
    match i, hi with
    | 0, _ => rfl
theorem open_strs {fuel : Nat} {v : Value} {x : DataW H × List MemPlace} (h : DataW.trod enc Tryz.prog W base (fun _ => true) held fuel 23 [v] = some x) (hF : Fits 23 x.1) : ∃ l : List (List UInt8), l.length ≤ limW ∧ (∀ o ∈ l, o.length ≤ limW) ∧ StrsR W v l :=
  open_rd strC (fun o => o.length ≤ limW) Tryz.underlying23 (by kernel_rfl) h (by omega) hF (of_decide_eq_true (by kernel_rfl)) open_str

set_option maxRecDepth 100000 in
theorem open_obj {fuel : Nat} {cs : List Value} {y : DataW H × List MemPlace} (h3 : cs.length = 2) (h2 : DataW.trod enc Tryz.prog W base (fun _ => true) held fuel 30 cs = some y) (hF : Fits 30 y.1) :
    ∃ k d, d.length ≤ limW ∧ cs = [.int .i64 k, SV d] := by
  obtain ⟨xs, n', _, rfl, _, hlen, hf⟩ := DataW.trod_struct Tryz.underlying30 h2
  match cs, h3 with
  | [v0, v1], _ =>
    match xs, hlen with
    | [y0, y1], _ =>
      have f0 := fld (cs := [v0, v1]) (off := 0) cell1I (hf 0 _ rfl)
      have f1 := fld (cs := [v0, v1]) (off := 1) cell1S (hf 1 _ rfl)
      obtain ⟨k, rfl⟩ := open_I (v := v0) f0
      obtain ⟨p, hp, rfl⟩ := open_S (v := v1) f1 (hF.field Tryz.underlying30 (i := 1) rfl rfl)
      exact ⟨k, p, hp, rfl⟩

theorem cell2O : Tryz.prog.cellsOf 30 = 2 := by kernel_rfl
set_option maxRecDepth 100000 in
theorem open_held (b off n : Nat) (cs : List Value) (y : DataW H × List MemPlace) (h1 : W.cells? base ⟨b, off, none⟩ 3 = some cs) (h2 : DataW.trod enc Tryz.prog W base (fun _ => true) held n 51 cs = some y) (hF : Fits 51 y.1) :
    ∃ o : Hld, True ∧ ∀ i, i < 3 → W.cell? ⟨b, off + i, none⟩ = (heldC o)[i]? := by
  obtain ⟨_, h3, h4⟩ := World.cells?_some h1
  obtain ⟨xs, n', _, rfl, _, hlen, hf⟩ := DataW.trod_struct Tryz.underlying51 h2
  match cs, h3 with
  | [v0, v1, v2], _ =>
    match xs, hlen with
    | [y0, y1], _ =>
      have f0 := fld (cs := [v0, v1, v2]) (off := 0) cell1S (hf 0 _ rfl)
      have f1 := fld (cs := [v0, v1, v2]) (off := 1) cell2O (hf 1 _ rfl)
      obtain ⟨p, hp, rfl⟩ := open_S (v := v0) f0 (hF.field Tryz.underlying51 (i := 0) rfl rfl)
      obtain ⟨k, d, hd, e⟩ := open_obj (cs := [v1, v2]) rfl f1 (hF.field Tryz.underlying51 (i := 1) rfl rfl)
      cases e
      refine ⟨⟨p, k, d⟩, trivial, fun i hi => ?_⟩
      have c := h4 i hi
      rw [add_at] at c
      rw [c]
      match i, hi with
      | 0, _ => rfl
      | 1, _ => rfl
      | 2, _ => rfl
theorem open_helds {fuel : Nat} {v : Value} {x : DataW H × List MemPlace} (h : DataW.trod enc Tryz.prog W base (fun _ => true) held fuel 22 [v] = some x) (hF : Fits 22 x.1) : ∃ l : List Hld, l.length ≤ limW ∧ HldsR W v l := by
  obtain ⟨l, h1, _, h2⟩ := open_rd heldC (fun _ => True) Tryz.underlying22 (by kernel_rfl) h (by omega) hF (of_decide_eq_true (by kernel_rfl)) open_held
  exact ⟨l, h1, h2⟩
set_option maxRecDepth 100000 in
theorem open_ob (b off n : Nat) (cs : List Value) (y : DataW H × List MemPlace) (h1 : W.cells? base ⟨b, off, none⟩ 2 = some cs) (h2 : DataW.trod enc Tryz.prog W base (fun _ => true) held n 30 cs = some y) (hF : Fits 30 y.1) :
    ∃ o : Int × Bs, True ∧ ∀ i, i < 2 → W.cell? ⟨b, off + i, none⟩ = (obC o)[i]? := by
  obtain ⟨_, h3, h4⟩ := World.cells?_some h1
  obtain ⟨k, d, hd, rfl⟩ := open_obj h3 h2 hF
  refine ⟨(k, d), trivial, fun i hi => ?_⟩
  have c := h4 i hi
  rw [add_at] at c
  rw [c]
  match i, hi with
  | 0, _ => rfl
  | 1, _ => rfl
theorem open_objs {fuel : Nat} {v : Value} {x : DataW H × List MemPlace} (h : DataW.trod enc Tryz.prog W base (fun _ => true) held fuel 39 [v] = some x) (hF : Fits 39 x.1) : ∃ l : List (Int × Bs), l.length ≤ limW ∧ ObjsR W v l := by
  obtain ⟨l, h1, _, h2⟩ := open_rd obC (fun _ => True) Tryz.underlying39 (by kernel_rfl) h (by omega) hF (of_decide_eq_true (by kernel_rfl)) open_ob
  exact ⟨l, h1, h2⟩
end
end Go.Proofs.YtbglfnbdhdbjjaaGreatDoor


namespace Go.Proofs.YtbglfnbdhdbjjaaGreatDoor
open Go Go.ChangeShapes Go.WideShapes Go.ChangeAt Go.RowKit

theorem own : ownKnob Tryz.prog.godebug = none := by kernel_rfl
theorem gTab : Tryz.prog.globalNamed "internal/strconv.uint64pow10" = some 6 := by kernel_rfl
theorem gPr : Tryz.prog.globalNamed "sacristy/digest.primes" = some 4 := by kernel_rfl
theorem gPrT : (Tryz.prog.globals[4]?).map (·.type) = some 226 := by kernel_rfl
theorem gOther : Tryz.prog.globalNamed "sacristy/object.errOther" = some 5 := by kernel_rfl
theorem gWrong : Tryz.prog.globalNamed "sacristy/object.errWrong" = some 1 := by kernel_rfl
theorem gOver : Tryz.prog.globalNamed "sacristy/object.errOver" = some 0 := by kernel_rfl
theorem etG : Tryz.prog.globalNamed "errors.errorType" = some 2 := by kernel_rfl
theorem etR : (Tryz.prog.cutTypes.find? (·.1 == "internal/reflectlite.rtype")).map (·.2) = some 178 := by kernel_rfl
theorem etT : Tryz.prog.types.size = 297 := by kernel_rfl
theorem etOne : ((List.range 297).filter fun t => Tryz.prog.rowNamed t [101, 114, 114, 111, 114]) = [99] := by kernel_rfl
theorem star : "*" ++ "errors.errorString" = "*errors.errorString" := by decide
theorem rowErr (u : TypeId) (h : Tryz.prog.typeName? 3 u = some "*errors.errorString") : u = 266 :=
  typeName_ptr_named (nm := "errors.errorString") (by rw [star]; kernel_rfl) (by kernel_rfl) (by decide) u (by rw [star]; exact h)
theorem tab_data : (Rows.laid_internal_strconv_uint64pow10 : DataW Unit) = Lib.tabData .u64 Lib.pow10Tab := by rfl
def primesD : List (DataW Unit) := match (Rows.laid_sacristy_digest_primes : DataW Unit) with | .agg ds => ds | _ => []
theorem primesD_eq : (Rows.laid_sacristy_digest_primes : DataW Unit) = .agg primesD := rfl
theorem primes_data : primesD.map (fun d => match d with | .lit (.int .u16 n) => n | _ => 0) = (List.range 64).map fun i => (primeN i : Int) := by decide +kernel
theorem prime_of {i : Nat} {n : Int} (hi : i < 64) (h : primesD[i]? = some (.lit (.int .u16 n))) : n = (primeN i : Int) := by
  have h1 := congrArg (·[i]?) primes_data
  simpa [List.getElem?_map, h, List.getElem?_range hi] using h1

def laidD : List (String × DataW Unit) := [("math/bits.deBruijn32tab", Rows.laid_math_bits_deBruijn32tab), ("math/bits.deBruijn64tab", Rows.laid_math_bits_deBruijn64tab), ("internal/strconv.uint64pow10", Rows.laid_internal_strconv_uint64pow10), ("sacristy/digest.primes", Rows.laid_sacristy_digest_primes), ("sacristy/object.errOther", Rows.laid_sacristy_object_errOther), ("sacristy/object.errWrong", Rows.laid_sacristy_object_errWrong), ("sacristy/object.errOver", Rows.laid_sacristy_object_errOver)]
def laidL : List (String × DataW Unit) := [("math/bits.deBruijn32tab", Rows.laid_math_bits_deBruijn32tab), ("math/bits.deBruijn64tab", Rows.laid_math_bits_deBruijn64tab), ("internal/strconv.uint64pow10", Rows.laid_internal_strconv_uint64pow10), ("sacristy/digest.primes", Rows.laid_sacristy_digest_primes), ("errors.errorType", Rows.laid_errors_errorType), ("sacristy/object.errOther", Rows.laid_sacristy_object_errOther), ("sacristy/object.errWrong", Rows.laid_sacristy_object_errWrong), ("sacristy/object.errOver", Rows.laid_sacristy_object_errOver)]

theorem cell_of_var {W : World} {n : String} {g : Nat} {v : Value} (hg : Tryz.prog.globalNamed n = some g) (h : W.var? Tryz.prog n = some #[v]) : W.cell? ⟨g, 0, none⟩ = some v := by
  simpa using World.var?_cell hg h 0

theorem et_of {W : World} (h : handlesMet Tryz.prog [("errors.errorType", Rows.laid_errors_errorType)] W) : Et W := by
  obtain ⟨name, u, ty, e1, e2, e3, e4, e5⟩ := h _ (List.mem_singleton.2 rfl)
  have en : name = [101, 114, 114, 111, 114] := (Option.some.inj e1).symm
  subst en
  obtain rfl := Option.some.inj (etR.symm.trans e2)
  have hm : ty ∈ (List.range 297).filter fun t => Tryz.prog.rowNamed t [101, 114, 114, 111, 114] := List.mem_filter.2 ⟨List.mem_range.2 (by rw [← etT]; exact e3), e4⟩
  rw [etOne] at hm
  obtain rfl := List.mem_singleton.1 hm
  have hh : typeHandle Tryz.prog 99 = .pointer (some ⟨11, 99, none⟩) := by kernel_rfl
  rw [hh] at e5
  unfold Et
  simpa using World.var?_cell etG e5 0

theorem pr_of {W : World} (h' : laidMet Tryz.prog laidD W) : Pr W := by
  obtain ⟨g, t, cs, fuel, p, h1, h2, h3, h4⟩ := Lib.laidMet.reads h' (n := "sacristy/digest.primes") (d := Rows.laid_sacristy_digest_primes) (.tail _ (.tail _ (.tail _ (.head _))))
  obtain rfl := Option.some.inj (gPr.symm.trans h1)
  obtain rfl := Option.some.inj (gPrT.symm.trans h2)
  rw [primesD_eq] at h4
  intro i hi
  obtain ⟨fuel', d, q, hd, ht⟩ := Lib.array_elem Tryz.underlying226 h4 i hi
  have c1 : Tryz.prog.cellsOf 225 = 1 := by kernel_rfl
  rw [c1, Nat.mul_one] at ht
  obtain ⟨n, hcs, hx, _⟩ := DataW.trod_int Tryz.underlying225 ht
  have hn : d = .lit (.int .u16 n) := congrArg Prod.fst hx
  subst hn
  rw [prime_of hi hd] at hcs
  have hc : cs[i]? = some (.int .u16 (primeN i : Int)) := by
    have h5 := congrArg (·[0]?) hcs
    simpa [List.getElem?_take, List.getElem?_drop] using h5
  have := World.var?_cell gPr h3 i
  rw [this]
  simpa using hc

set_option maxRecDepth 100000 in
theorem ob_of_laid {W : World} (h : laidMetH Tryz.prog laidL W) : Ob W := by
  have h' : laidMet Tryz.prog laidD W ∧ handlesMet Tryz.prog [("errors.errorType", Rows.laid_errors_errorType)] W := h
  have t2 := h'.1.tail.tail
  have t4 := t2.tail.tail
  obtain ⟨ao, aw, so, sw, co, cw, ty0, ty1, ho, hw, _, _, _, _, _, _, hne, hbo, hbw⟩ := laid_sentinels2 (g0 := 5) (g1 := 1) t4 gOther (by kernel_rfl) gWrong (by kernel_rfl) Tryz.underlying99 rowErr Tryz.underlying266 Tryz.underlying287 rfl rfl Tryz.underlying9 (by kernel_rfl) (by kernel_rfl)
  obtain ⟨av, sv, hv, _⟩ := laid_sentinel (g := 0) t4.tail.tail gOver (by kernel_rfl) Tryz.underlying99 rowErr Tryz.underlying266 Tryz.underlying287 rfl rfl Tryz.underlying9 (by kernel_rfl) (by kernel_rfl)
  refine ⟨⟨⟨⟨_, cell_of_var gOver hv⟩, ⟨aw, ao, fun e => hne e.symm, cell_of_var gWrong hw, cell_of_var gOther ho⟩, et_of h'.2⟩, ⟨aw, ao, cw, co, ty1, ty0, fun e => hne e.symm, cell_of_var gWrong hw, cell_of_var gOther ho, hbw, hbo⟩⟩, ?_, pr_of h'.1⟩
  rw [tab_data] at t2
  exact Lib.tabIs_of_head gTab (by kernel_rfl) Tryz.underlying240 Tryz.underlying133 (by kernel_rfl) (by kernel_rfl) t2

/-- A world that meets the condition. -/
noncomputable def low : Nat := (World.holding Tryz.prog default ⟨#[], #[], []⟩).heap.size
def litsOf : DataW Unit → List Value
  | .agg ds => ds.map fun d => match d with | .lit (.int k n) => .int k n | _ => .nilIface
  | _ => []
def textOf : DataW Unit → ByteArray
  | .iface _ (.ptr (.agg [.lit (.string s)])) => ⟨s.toArray⟩
  | _ => ⟨#[]⟩
def setCells (cs : List Value) : Obj → Obj
  | .cells _ t frozen => .cells cs.toArray t frozen
  | o => o
noncomputable def laidWorld (os : Os) : World :=
  let w0 := World.holding Tryz.prog os ⟨#[.cells #[.string (textOf Rows.laid_sacristy_object_errOther)] 287, .cells #[.string (textOf Rows.laid_sacristy_object_errWrong)] 287, .cells #[.string (textOf Rows.laid_sacristy_object_errOver)] 287], #[], []⟩
  { w0 with heap := ((((((((w0.heap.modify 5 (setCells [.iface 266 (.pointer (some ⟨low, 0, none⟩))])).modify 1 (setCells [.iface 266 (.pointer (some ⟨low + 1, 0, none⟩))])).modify 0 (setCells [.iface 266 (.pointer (some ⟨low + 2, 0, none⟩))])).modify
      6 (setCells (litsOf Rows.laid_internal_strconv_uint64pow10))).modify 9 (setCells (litsOf Rows.laid_math_bits_deBruijn32tab))).modify 10 (setCells (litsOf Rows.laid_math_bits_deBruijn64tab))).modify 4 (setCells (litsOf Rows.laid_sacristy_digest_primes))).modify 2 (setCells [.iface 178 (.agg #[.pointer (some ⟨11, 99, none⟩)])])) }
theorem laid_met (os : Os) (args : Array Value) : laidMetH Tryz.prog laidL ((laidWorld os).forCall (fun _ _ => 0) ⟨#[], args, []⟩).memory :=
  laidMetH_of_parts (laidMet_of_run' 8 (by kernel_rfl) (by kernel_rfl)) (by kernel_rfl)

theorem laid_out : laidOutB Tryz.prog = true := by kernel_rfl

/-- The arguments read as they did, where nothing below has turned. -/
theorem below_trodAll {H : Type} {enc : TypeId × Value → H} {W W' : World} (hb : Below W.heap.size W W') : ∀ {ts : List TypeId} {vs : List Value} {ds : List (DataW H)} {ps : List MemPlace},
    (∀ t ∈ ts, Tryz.prog.readableRec t = true ∧ t < Tryz.prog.types.size) → DataW.TrodAll enc Tryz.prog W 0 (fun _ => true) true ts vs ds ps → (∀ x ∈ ps, x.block < W.heap.size) → DataW.TrodAll enc Tryz.prog W' 0 (fun b => decide (b < W.heap.size)) true ts vs ds ps
  | [], [], [], _, _, h, _ => h
  | _ :: _, _ :: _, _ :: _, _, hT, ⟨p, q, h1, h2, e⟩, hs =>
    ⟨p, q, Below.trod laid_out (hT _ (List.mem_cons.2 (Or.inl rfl))).1 (hT _ (List.mem_cons.2 (Or.inl rfl))).2 h1 hb (fun x hx => hs x (by rw [e]; exact List.mem_append_left _ hx)),
      below_trodAll hb (fun t ht => hT t (List.mem_cons.2 (Or.inr ht))) h2 (fun x hx => hs x (by rw [e]; exact List.mem_append_right _ hx)), e⟩

theorem fits_of {H : Type} {ts : List TypeId} {ds : List (DataW H)} (h : (DataW.weightsEach Tryz.prog ts ds).all (· ≤ reachBytes) = true) {j : Nat} {t : TypeId} {d : DataW H} (ht : ts[j]? = some t) (hd : ds[j]? = some d) : Fits t d := fun n hn => by
  simpa using List.all_eq_true.1 h _ (DataW.weights_mem_each ht hd n hn)

section
variable {H : Type} {enc : TypeId × Value → H} {W : World} {r : Go.Reach} {b0 : Nat} {v : Value} {d : DataW H} {ps : List MemPlace}
set_option maxRecDepth 100000

theorem helds_of (hval : Value.okWide Tryz.prog W r b0 22 v) (hd : DataW.Trod enc Tryz.prog W 0 (fun _ => true) true 22 v d ps) (hF : Fits 22 d) : ∃ l : List Hld, l.length ≤ limW ∧ HldsR W v l := by
  obtain ⟨a, len, cap, rfl⟩ := okWide_slice Tryz.underlying22 hval
  obtain ⟨fuel, h⟩ := hd
  exact open_helds (v := .slice a len cap) h hF
theorem objs_of (hval : Value.okWide Tryz.prog W r b0 39 v) (hd : DataW.Trod enc Tryz.prog W 0 (fun _ => true) true 39 v d ps) (hF : Fits 39 d) : ∃ l : List (Int × Bs), l.length ≤ limW ∧ ObjsR W v l := by
  obtain ⟨a, len, cap, rfl⟩ := okWide_slice Tryz.underlying39 hval
  obtain ⟨fuel, h⟩ := hd
  exact open_objs (v := .slice a len cap) h hF
theorem strs_of (hval : Value.okWide Tryz.prog W r b0 23 v) (hd : DataW.Trod enc Tryz.prog W 0 (fun _ => true) true 23 v d ps) (hF : Fits 23 d) : ∃ l : List Bs, l.length ≤ limW ∧ StrsR W v l := by
  obtain ⟨a, len, cap, rfl⟩ := okWide_slice Tryz.underlying23 hval
  obtain ⟨fuel, h⟩ := hd
  obtain ⟨l, h1, _, h2⟩ := open_strs (v := .slice a len cap) h hF
  exact ⟨l, h1, h2⟩
theorem u8_of (hval : Value.okWide Tryz.prog W r b0 5 v) (hd : DataW.Trod enc Tryz.prog W 0 (fun _ => true) true 5 v d ps) : ∃ n : Nat, n < 256 ∧ v = .int .u8 (n : Int) := by
  obtain ⟨n, rfl, _, _, hw⟩ := open_int Tryz.underlying5 hval hd
  have hn := bounds_u8 hw
  obtain ⟨m, rfl⟩ := Int.eq_ofNat_of_zero_le hn.1
  exact ⟨m, by omega, rfl⟩
end
end Go.Proofs.YtbglfnbdhdbjjaaGreatDoor
