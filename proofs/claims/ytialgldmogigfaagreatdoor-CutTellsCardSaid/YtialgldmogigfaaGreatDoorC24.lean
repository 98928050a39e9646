/-
  What the laws' walks share.
  The document's Closure.
-/
import Derived.Test.YtialgldmogigfaaGreatDoorC23
import Derived.Test.YtialgldmogigfaaGreatDoorC14
import Derived.Test.YtialgldmogigfaaGreatDoorC10
import Derived.Test.YtialgldmogigfaaGreatDoorC22
import Derived.Test.YtialgldmogigfaaGreatDoorC20
import Derived.Test.YtialgldmogigfaaGreatDoorC21

namespace Go.Proofs.YtialgldmogigfaaGreatDoor
open Go Go.RowKit Go.Maps
theorem has_yes {w : World} {v : Value} {l : List Bs} (h : StrsR w v l) (hl : l.length ≤ 1000000) {s : Bs} (hm : s ∈ l) : Calls Tryz.prog 19 #[v, .string ⟨s.toArray⟩] w fun e w' => e = .returned (.bool true) ∧ w = w' := by
  have := Has_any h hl s
  rw [hasB_iff.2 hm] at this; exact this
theorem has_no {w : World} {v : Value} {l : List Bs} (h : StrsR w v l) (hl : l.length ≤ 1000000) {s : Bs} (hm : s ∉ l) : Calls Tryz.prog 19 #[v, .string ⟨s.toArray⟩] w fun e w' => e = .returned (.bool false) ∧ w = w' := by
  have := Has_any h hl s
  rw [hasB_no.2 hm] at this; exact this
/-- What Closure gives at what is small. -/
theorem clo_small {w : World} {v tv : Value} {L : List Hld} {tips : List Bs} (h : HldsR w v L) (ht : StrsR w tv tips) (ho : Ob w) (hL : SmallH L) (hT : tips.length ≤ 2000) (hs : ∀ x ∈ tips, x.length ≤ 10000) :
    Calls Tryz.prog 18 #[v, tv] w (CloPost L tips w) :=
  Closure_any h ht ho.eb ho.tb (by have := hL.1; omega) hT (fun x hx => ⟨by have := (hL.2 x hx).1; omega, by have := (hL.2 x hx).2; omega⟩) hs
theorem ge_strH (W : World) (x y : Bs) (h : Op.bytesLess x y = true) : (binOp .geq 9 (.string ⟨x.toArray⟩) (.string ⟨y.toArray⟩)).run Tryz.prog W = .ok (.bool false) W := by
  simp [go_sem, h]
theorem gtrH (W : World) (k : Nat) (h : 0 < k) : (binOp .gtr 3 (.int .i64 (k : Int)) (.int .i64 0)).run Tryz.prog W = .ok (.bool true) W := by
  simp [go_sem, h]
theorem wpList_wanted {P : Program} {ops : Array Oper} {rest : List Oper} {o : Oper} {a : Act} {w : World} {Q : Exit → Act → World → Prop} (hw : Region.wanted o (yielded ops a.tmps) = true)
    (h : ∀ K : Act → World → Prop, (∀ a w, wpList P ops Q rest a w → K a w) → o.wp P a w K Q) : wpList P ops Q (o :: rest) a w :=
  wpList_step fun K hK => by rw [if_pos hw]; exact h K hK
/-- 'wpList_all' at an operation that is guarded, and wanted. -/
theorem wpList_allG {α : Type} {st t : TypeId} {k bt : Nat} {f : α → List Value} (E : ElK st t k bt f) {ops : Array Oper} {rest : List Oper} {o : Oper} {a : Act} {w : World} {Q : Exit → Act → World → Prop} (hgd : Region.wanted o (yielded ops a.tmps) = true) (s y : Operand)
    (ho : o.op = .call { callee := .builtin .append, args := #[s, y], argTypes := #[st, st] }) (base : Nat) (v sv : Value) (l m : List α) (hs : a.eval s = v) (hy : a.eval y = sv)
    (h : OwK t k f w base v l) (hm : RdK k f w sv m) (hl : l.length + m.length ≤ 1000000) (hbt : bt ≤ 1000) (hb : base ≤ w.heap.size)
    (kk : ∀ v' w', OwK t k f w' base v' (l ++ m) → Below base w w' → wpList Tryz.prog ops Q rest (a.put o.dst v') w') : wpList Tryz.prog ops Q (o :: rest) a w := by
  refine wpList_wanted hgd fun K hK => ?_
  obtain ⟨v', w', h1, h2, h3, _⟩ := run_all E h hm hl hbt hb o.type
  unfold Oper.wp
  simp [execOp, ho, resolve, invoke, builtin, hs, hy, h1, Result.andThen]
  exact hK _ _ (kk v' w' h2 h3)
theorem smallT_len {l : List Bs} (h : SmallT l) : l.length ≤ 1000 ∧ ∀ x ∈ l, x.length ≤ 10000 := ⟨by have := h.1; omega, fun x hx => by have := h.2 x hx; omega⟩
end Go.Proofs.YtialgldmogigfaaGreatDoor


namespace Go.Proofs.YtialgldmogigfaaGreatDoor
open Go Go.RowKit Go.Maps
def sLen : Value → Nat
  | .slice _ n _ => n
  | _ => 0
theorem withL_len {s : Bs} : ∀ {l : List Bs}, s ∉ l → (withL l s).length = l.length + 1
  | [], _ => rfl
  | x :: l, h => by
    unfold withL
    by_cases h1 : s < x
    · rw [if_pos h1]; rfl
    · rw [if_neg h1, if_neg (fun e => h (by rw [e]; simp)), List.length_cons, withL_len (fun hm => h (List.mem_cons_of_mem _ hm))]; rfl
theorem DocI.len {L : List Hld} {tips todo a b : List Bs} (h : DocI (wfL L) (thB L) tips todo a b) : a.length + b.length ≤ tips.length + 256 * L.length := by
  refine Nat.le_trans ?_ (allN_len L tips)
  rw [← List.length_append]
  refine nodup_len (List.nodup_append.2 ⟨h.ra.nodup, h.rb.nodup, fun x hx y hy e => ?_⟩) fun x hx => ?_
  · subst e
    have h1 := (h.ma x hx).2
    rw [(h.mb x hy).2] at h1; cases h1
  · exact reach_allN ((List.mem_append.1 hx).elim (fun hx => (h.ma x hx).1) (fun hx => (h.mb x hx).1))
/-- What lies where, at the loop's head. -/
structure RC (L : List Hld) (tips : List Bs) (w wr : World) (va vb vt : Value) (a b todo : List Bs) : Prop where
  hB : Below w.heap.size w wr
  na : NewS w.heap.size wr va a
  nb : NewS w.heap.size wr vb b
  nt : Win w.heap.size wr vt todo
  dis : ∀ g, vt.ownBlock = some g → va.ownBlock ≠ some g ∧ vb.ownBlock ≠ some g ∧ g < wr.heap.size
  inv : DocI (wfL L) (thB L) tips todo a b
  few : todo.length ≤ tips.length + 256 * a.length
theorem RC.la {L : List Hld} {tips : List Bs} {w wr : World} {va vb vt : Value} {a b todo : List Bs} (h : RC L tips w wr va vb vt a b todo) : sLen va = a.length := by
  obtain ⟨A, c, rfl⟩ := h.na.rd.shape; rfl
theorem RC.lb {L : List Hld} {tips : List Bs} {w wr : World} {va vb vt : Value} {a b todo : List Bs} (h : RC L tips w wr va vb vt a b todo) : sLen vb = b.length := by
  obtain ⟨A, c, rfl⟩ := h.nb.rd.shape; rfl
theorem RC.lt {L : List Hld} {tips : List Bs} {w wr : World} {va vb vt : Value} {a b todo : List Bs} (h : RC L tips w wr va vb vt a b todo) : sLen vt = todo.length := by
  obtain ⟨A, c, rfl⟩ := h.nt.shape; rfl
theorem But.trans2 {S T : Nat → Prop} {a b c : World} (h : But S a b) (k : But T b c) (hs : ∀ i, i < a.heap.size → T i → S i) : But S a c :=
  ⟨k.os.trans h.os, k.tape.trans h.tape, k.output.trans h.output, Nat.le_trans h.size k.size, fun i hi hn => (k.block i (Nat.lt_of_lt_of_le hi h.size) (fun ht => hn (hs i hi ht))).trans (h.block i hi hn)⟩
theorem wfL_some {L : List Hld} {x : Bs} {u : Hld} (h : findL L x = some u) : wfL L x = (wantsO u.kind u.data).getD [] := by unfold wfL; rw [h]
theorem thB_some {L : List Hld} {x : Bs} : thB L x = true ↔ ∃ u, findL L x = some u := by unfold thB; rw [Option.isSome_iff_exists]
/-- In the loop over what an object wants. -/
structure RI (w w5 wr : World) (v1 vt : Value) (todo : List Bs) (ws : List (Bs × Int)) (k : Nat) : Prop where
  nt : Win w.heap.size wr vt (todo ++ (ws.take k).map Prod.fst)
  bt : But (fun k => v1.ownBlock = some k) w5 wr
  hB : Below w.heap.size w5 wr
  at_ : ∀ g, vt.ownBlock = some g → v1.ownBlock = some g ∨ (w5.heap.size ≤ g ∧ g < wr.heap.size)
theorem RI.start {w wr w5 : World} {v1 : Value} {todo : List Bs} {ws : List (Bs × Int)} (h : Win w.heap.size wr v1 todo) (hb : Below wr.heap.size wr w5) : RI w w5 w5 v1 v1 todo ws 0 :=
  ⟨by simpa using h.below hb (Nat.le_refl _), But.refl _ _, Below.refl _ _, fun g hg => .inl hg⟩
theorem RI.step {w w5 wr w6 : World} {v1 vt v' : Value} {todo : List Bs} {ws : List (Bs × Int)} {k : Nat} (h : RI w w5 wr v1 vt todo ws k) (hk : k < ws.length)
    (hN : Win w.heap.size w6 v' (todo ++ (ws.take k).map Prod.fst ++ [(ws.getD k ([], 0)).1])) (hb : But (fun k => vt.ownBlock = some k) wr w6) (ha : ∀ g, v'.ownBlock = some g → vt.ownBlock = some g ∨ (wr.heap.size ≤ g ∧ g < w6.heap.size)) (hB : Below w.heap.size wr w6) :
    RI w w5 w6 v1 v' todo ws (k + 1) := by
  refine ⟨?_, h.bt.trans2 hb (fun i hi ht => ?_), h.hB.trans hB, fun g hg => ?_⟩
  · rw [take_getD ws ([], 0) k hk, List.map_append, ← List.append_assoc]; exact hN
  · rcases h.at_ i ht with e | e
    · exact e
    · omega
  · rcases ha g hg with e | e
    · rcases h.at_ g e with e | e
      · exact .inl e
      · exact .inr ⟨e.1, Nat.lt_of_lt_of_le e.2 hB.size⟩
    · exact .inr ⟨Nat.le_trans h.hB.size e.1, e.2⟩
theorem RC.skip {L : List Hld} {tips : List Bs} {w wr : World} {va vb vt v1 : Value} {a b todo : List Bs} {x : Bs} (h : RC L tips w wr va vb vt a b (x :: todo)) (hW : Win w.heap.size wr v1 todo) (ho : v1.ownBlock = vt.ownBlock) (hx : x ∈ a ∨ x ∈ b) : RC L tips w wr va vb v1 a b todo :=
  ⟨h.hB, h.na, h.nb, hW, fun g hg => h.dis g (by rw [← ho]; exact hg), h.inv.skip hx, by have := h.few; simp only [List.length_cons] at this; omega⟩
theorem RC.lack {L : List Hld} {tips : List Bs} {w wr w3 w4 : World} {va vb vt v1 vb' : Value} {a b todo : List Bs} {x : Bs} (h : RC L tips w wr va vb vt a b (x :: todo)) (hW : Win w.heap.size wr v1 todo) (ho : v1.ownBlock = vt.ownBlock) (hx : thB L x = false)
    (b3 : Below wr.heap.size wr w3) (hN : NewS w3.heap.size w4 vb' (withL b x)) (b4 : Below w3.heap.size w3 w4) : RC L tips w w4 va vb' v1 a (withL b x) todo := by
  have hb := b3.trans (b4.mono b3.size)
  refine ⟨h.hB.trans (hb.mono h.hB.size), OwK.below h.na hb (Nat.le_refl _), OwK.mono hN (Nat.le_trans h.hB.size b3.size), hW.below hb (Nat.le_refl _), fun g hg => ?_, h.inv.lack hx, by have := h.few; simp only [List.length_cons] at this; omega⟩
  obtain ⟨h1, h2, h3⟩ := h.dis g (by rw [← ho]; exact hg)
  refine ⟨h1, fun e => ?_, Nat.lt_of_lt_of_le h3 hb.size⟩
  have := (own_block hN e).1
  have := b3.size
  omega
theorem RC.more {L : List Hld} {tips : List Bs} {w wr w3 w4 w5 w6 : World} {va vb vt v1 va' vt' : Value} {a b todo : List Bs} {x : Bs} (h : RC L tips w wr va vb vt a b (x :: todo)) (ho : v1.ownBlock = vt.ownBlock) (hxa : x ∉ a) (hx : thB L x = true)
    (b3 : Below wr.heap.size wr w3) (hN : NewS w3.heap.size w4 va' (withL a x)) (b4 : Below w3.heap.size w3 w4) (b5 : Below w4.heap.size w4 w5) (hI : RI w w5 w6 v1 vt' todo (wfL L x) (wfL L x).length) :
    RC L tips w w6 va' vb vt' (withL a x) b (todo ++ (wfL L x).map Prod.fst) := by
  have hb := (b3.trans (b4.mono b3.size)).trans (b5.mono (Nat.le_trans b3.size b4.size))
  have hn1 : ∀ g, va'.ownBlock = some g → w3.heap.size ≤ g ∧ g < w4.heap.size := fun g hg => ⟨(own_block hN hg).1, (own_block hN hg).2.1⟩
  have hs3 := b3.size; have hs4 := b4.size; have hs5 := b5.size
  have hv1 : ∀ g, v1.ownBlock = some g → va.ownBlock ≠ some g ∧ vb.ownBlock ≠ some g ∧ g < wr.heap.size := fun g hg => h.dis g (by rw [← ho]; exact hg)
  refine ⟨(h.hB.trans (hb.mono h.hB.size)).trans hI.hB, ?_, ?_, ?_, fun g hg => ?_, h.inv.have hx, ?_⟩
  · refine OwK.but (OwK.mono (OwK.below hN b5 (Nat.le_refl _)) (Nat.le_trans h.hB.size hs3)) hI.bt fun g hg e => ?_
    have := hn1 g hg
    have := (hv1 g e).2.2
    omega
  · refine OwK.but (OwK.below h.nb hb (Nat.le_refl _)) hI.bt fun g hg e => (hv1 g e).2.1 hg
  · have := hI.nt
    rw [List.take_length] at this; exact this
  · have h6 := hI.hB.size
    rcases hI.at_ g hg with e | e
    · obtain ⟨h1, h2, h3⟩ := hv1 g e
      refine ⟨fun e2 => ?_, h2, by omega⟩
      have := hn1 g e2
      omega
    · refine ⟨fun e2 => ?_, fun e2 => ?_, e.2⟩
      · have := hn1 g e2; omega
      · have := (own_block h.nb e2).2.1; omega
  · have := h.few
    have hw := wfL_le L x
    rw [List.length_append, List.length_map, withL_len hxa]
    simp only [List.length_cons] at this
    omega
def CloPostR (L : List Hld) (tips : List Bs) (w : World) (e : Ending) (w' : World) : Prop :=
  ∃ va vb a b, e = .returned (.tuple #[va, vb]) ∧ StrsR w' va a ∧ StrsR w' vb b ∧ IsClo (wfL L) (thB L) tips a b ∧ a.length ≤ 600000 ∧ b.length ≤ 600000 ∧ Below w.heap.size w w'
set_option maxHeartbeats 8000000 in
set_option maxRecDepth 100000 in
theorem RClosure_any {w : World} {v tv : Value} {L : List Hld} {tips : List Bs} (h : HldsR w v L) (ht : StrsR w tv tips)
    (hL : L.length ≤ 2000) (hT : tips.length ≤ 2000) (hd : ∀ x ∈ L, x.data.length ≤ 10000) :
    Calls Tryz.prog 29 #[v, tv] w (CloPostR L tips w) := by
  obtain ⟨A0, c0, rfl⟩ := h.shape
  obtain ⟨At, ct, rfl⟩ := ht.shape
  have hmem : ∀ x u, findL L x = some u → u.data.length ≤ 10000 := fun x u hu => hd u (List.mem_of_find?_eq_some hu)
  have Hx := Lib.hid h; have Ht := Lib.hid ht; have HD := Lib.hid hmem
  clear h ht hd hmem
  go_enter Tryz.func29, Tryz.ntmps29
  go_wp2_with (at_builtin; refine wpList_all strK rfl _ _ rfl w.heap.size (.slice (some ⟨w.heap.size, 0, none⟩) 0 0) (.slice At tips.length ct) [] tips rfl rfl (OwK.new0 w _ (Nat.le_refl _)) (Ht.out.below (below_new w _) (Nat.le_refl _)) ?c1 (by decide) ?c2 ?_)
  case c1 => simp; omega
  case c2 => simp
  intro vt w1 hN1 hb1
  have HS : Hid (RC L tips w w1 (.slice none 0 0) (.slice none 0 0) vt [] [] tips) := Lib.hid (by
    have hN2 : NewS w.heap.size w1 vt tips := hN1
    exact ⟨(below_new w _).trans hb1, OwK.nil _ _ _ _ _, OwK.nil _ _ _ _ _, Win.of_own hN2, fun g hg => ⟨fun e => (by cases e), fun e => (by cases e), (own_block hN2 hg).2.1⟩, DocI.start _ _ _, Nat.le_add_right _ _⟩)
  clear hN1 hb1
  go_wp2_with fail
  go_loopw [6, 7, 8] (fun va vb vt wr => ∃ a b todo, Hid (RC L tips w wr va vb vt a b todo)) (fun va vb vt _ => (600000 - (sLen va + sLen vb)) * 1000 + sLen vt)
  case atStart => exact ⟨[], [], tips, HS⟩
  case round =>
    obtain ⟨a, b, todo, hR⟩ := hrel
    have hab := hR.out.inv.len
    have hla := hR.out.la; have hlb := hR.out.lb; have hlt := hR.out.lt
    obtain ⟨Aa, ca, rfl⟩ := hR.out.na.rd.shape
    obtain ⟨Ab, cb, rfl⟩ := hR.out.nb.rd.shape
    cases todo with
    | nil =>
      obtain ⟨A, c, rfl⟩ := hR.out.nt.shape
      go_wp2_with fail
      exact bodyPost_ret (v := .tuple #[.slice Aa a.length ca, .slice Ab b.length cb]) (by simp [results, Tryz.results29, go_sem]) rfl
        ⟨_, _, a, b, rfl, hR.out.na.rd, hR.out.nb.rd, hR.out.inv.done (fun x hx => wfL_no hx), by omega, by omega, hR.out.hB⟩
    | cons x todo =>
      obtain ⟨g, o, c, e, p0⟩ := hR.out.nt.first
      subst e
      obtain ⟨v1, hsl, hW1, ho1⟩ := hR.out.nt.rest
      unfold SV at p0
      have hH1 := Has_any hR.out.na.rd (by omega) x
      have hH2 := Has_any hR.out.nb.rd (by omega) x
      have HR := Lib.hid hR.out
      have HSl := Lib.hid hsl; have HW1 := Lib.hid hW1; have HO1 := Lib.hid ho1
      have HAB := Lib.hid hab; have HT := Lib.hid hlt
      have hfew := hR.out.few
      have HF := Lib.hid hfew
      clear hsl hW1 ho1 hR hab hlt hfew hla hlb HS
      have hN1 := fun hx => HR.out.skip HW1.out HO1.out hx
      by_cases ha : x ∈ a
      · rw [hasB_iff.2 ha] at hH1
        have H1 := Lib.hid hH1
        have HN := Lib.hid (hN1 (.inl ha))
        clear hH1 hH2 hN1 ha
        go_wp2_with (refine wpList_rest rfl _ _ rfl rfl _ v1 rfl HSl.out ?_)
        refine H1.out.mono ?_
        rintro e w2 ⟨rfl, rfl⟩
        go_wp2_with fail
        go_roundw
        case rel => exact ⟨a, b, todo, HN⟩
        case measure =>
          show (600000 - (a.length + b.length)) * 1000 + sLen v1 < (600000 - (a.length + b.length)) * 1000 + (todo.length + 1)
          rw [HN.out.lt]; omega
      rw [hasB_no.2 ha] at hH1
      by_cases hb : x ∈ b
      · rw [hasB_iff.2 hb] at hH2
        have H1 := Lib.hid hH1; have H2 := Lib.hid hH2
        have HN := Lib.hid (hN1 (.inr hb))
        clear hH1 hH2 hN1 ha hb
        go_wp2_with (refine wpList_rest rfl _ _ rfl rfl _ v1 rfl HSl.out ?_)
        refine H1.out.mono ?_
        rintro e w2 ⟨rfl, rfl⟩
        go_wp2_with fail
        refine H2.out.mono ?_
        rintro e w2 ⟨rfl, rfl⟩
        go_wp2_with fail
        go_roundw
        case rel => exact ⟨a, b, todo, HN⟩
        case measure =>
          show (600000 - (a.length + b.length)) * 1000 + sLen v1 < (600000 - (a.length + b.length)) * 1000 + (todo.length + 1)
          rw [HN.out.lt]; omega
      rw [hasB_no.2 hb] at hH2
      have hF := RFind_any (Hx.out.below HR.out.hB (Nat.le_refl _)) (by omega) x
      cases hf : findL L x with
      | none =>
        have hth : thB L x = false := by unfold thB; rw [hf]; rfl
        have hV : findV L x = .tuple #[.agg #[.int .i64 0, .string ⟨#[]⟩], .bool false] := by unfold findV thB; rw [hf]; rfl
        rw [hV] at hF
        have H1 := Lib.hid hH1; have H2 := Lib.hid hH2; have HFi := Lib.hid hF; have HTh := Lib.hid hth; have HNb := Lib.hid hb
        clear hH1 hH2 hN1 ha hb hV hF hth hf
        go_wp2_with (refine wpList_rest rfl _ _ rfl rfl _ v1 rfl HSl.out ?_)
        refine H1.out.mono ?_
        rintro e w2 ⟨rfl, rfl⟩
        go_wp2_with fail
        refine H2.out.mono ?_
        rintro e w2 ⟨rfl, rfl⟩
        go_wp2_with fail
        refine HFi.out.mono ?_
        rintro e w2 ⟨rfl, b2⟩
        have HB3 := Lib.hid (b2.alloc b2.size (.cells #[.int .i64 0, .string ⟨#[]⟩] 44))
        have HWi := Lib.hid (With_any (HR.out.nb.rd.below HB3.out (Nat.le_refl _)) (by have := HAB.out; omega) HR.out.inv.rb x)
        clear b2 p0
        go_wp2_with fail
        refine HWi.out.mono ?_
        rintro e w4 ⟨vb', rfl, hN4, b4⟩
        have HN := Lib.hid (HR.out.lack HW1.out HO1.out HTh.out HB3.out hN4 b4)
        clear hN4 b4
        go_wp2_with fail
        go_roundw
        case rel => exact ⟨a, _, todo, HN⟩
        case measure =>
          show (600000 - (a.length + sLen vb')) * 1000 + sLen v1 < (600000 - (a.length + b.length)) * 1000 + (todo.length + 1)
          rw [HN.out.lt, HN.out.lb, withL_len HNb.out]
          have := HAB.out
          omega
      | some u =>
        have hth : thB L x = true := thB_some.2 ⟨u, hf⟩
        have hwf := wfL_some hf
        have hV : findV L x = .tuple #[.agg #[.int .i64 u.kind, .string ⟨u.data.toArray⟩], .bool true] := by unfold findV thB; rw [hf]; rfl
        have hdl := HD.out x u hf
        obtain ⟨ui, k, d⟩ := u
        simp only at hV hwf hdl
        rw [hV] at hF
        have H1 := Lib.hid hH1; have H2 := Lib.hid hH2; have HFi := Lib.hid hF; have HTh := Lib.hid hth; have HNa := Lib.hid ha; have HWf := Lib.hid hwf; have HDl := Lib.hid hdl
        clear hH1 hH2 hN1 ha hb hV hF hth hf hwf hdl
        go_wp2_with (refine wpList_rest rfl _ _ rfl rfl _ v1 rfl HSl.out ?_)
        refine H1.out.mono ?_
        rintro e w2 ⟨rfl, rfl⟩
        go_wp2_with fail
        refine H2.out.mono ?_
        rintro e w2 ⟨rfl, rfl⟩
        go_wp2_with fail
        refine HFi.out.mono ?_
        rintro e w2 ⟨rfl, b2⟩
        obtain ⟨w3, hw3⟩ : ∃ w3, w3 = w2.alloc (.cells #[.int .i64 k, .string ⟨d.toArray⟩] 44) := ⟨_, rfl⟩
        have hb3 := b2.alloc b2.size (.cells #[.int .i64 k, .string ⟨d.toArray⟩] 44)
        rw [← hw3] at hb3
        have HB3 := Lib.hid hb3
        have hk3 : w3.heap[w2.heap.size]? = some (.cells #[.int .i64 k, .string ⟨d.toArray⟩] 44 (0, 0)) := by rw [hw3]; exact heap_alloc_new w2 _
        have HK3 := Lib.hid hk3; have HW3 := Lib.hid hw3
        have HWi := Lib.hid (With_any (HR.out.na.rd.below HB3.out (Nat.le_refl _)) (by have := HAB.out; omega) HR.out.inv.ra x)
        clear b2 p0 hb3 hk3 hw3
        go_wp2_with (rw [← HW3.out])
        refine HWi.out.mono ?_
        rintro e w4 ⟨va', rfl, hN4, b4⟩
        have hk4 := (b4.block _ (lt_heap HK3.out)).trans HK3.out
        have q0 : w4.cell? ⟨w2.heap.size, 0, none⟩ = some (.int .i64 k) := (cell_of_row w4 _ 0 _ _ _ hk4).trans rfl
        have q1 : w4.cell? ⟨w2.heap.size, 1, none⟩ = some (.string ⟨d.toArray⟩) := (cell_of_row w4 _ 1 _ _ _ hk4).trans rfl
        have HN4 := Lib.hid hN4; have HB4 := Lib.hid b4
        have HWa := Lib.hid (RWants_any k d (by have := HDl.out; omega) w4)
        clear hN4 b4 hk4
        go_wp2_with fail
        refine HWa.out.mono ?_
        rintro e w5 ⟨b5, vw, rfl, hrw, hwl, hfr⟩
        rw [← HWf.out] at hrw hwl
        have hI0 : RI w w5 w5 v1 v1 todo (wfL L x) 0 := RI.start HW1.out ((HB3.out.trans (HB4.out.mono HB3.out.size)).trans (b5.mono (Nat.le_trans HB3.out.size HB4.out.size)))
        obtain ⟨Aw, cw, rfl⟩ := hrw.shape
        have hfr2 : ∀ g, (Value.slice Aw (wfL L x).length cw).ownBlock = some g → ¬ v1.ownBlock = some g := fun g hg e => by
          have h1 := hfr g hg
          have h2 := (HR.out.dis g (by rw [← HO1.out]; exact e)).2.2
          have h3 := HB3.out.size; have h4 := HB4.out.size
          omega
        have HRw := Lib.hid hrw; have HWl := Lib.hid hwl; have HFr := Lib.hid hfr2; have HI0 := Lib.hid hI0; have HB5 := Lib.hid b5
        have h5 : w.heap.size ≤ w5.heap.size := by have := HR.out.hB.size; have h3 := HB3.out.size; have h4 := HB4.out.size; have h5 := b5.size; omega
        have H5 := Lib.hid h5
        have htl : todo.length ≤ 200000000 := by have h1 := HF.out; have h2 := HAB.out; simp only [List.length_cons] at h1; omega
        have HTl := Lib.hid htl
        obtain ⟨ws, hws⟩ : ∃ ws, ws = wfL L x := ⟨_, rfl⟩
        have HWs := Lib.hid hws
        rw [← hws] at HRw HWl HFr HI0
        clear hrw hwl hfr hfr2 hI0 b5 h5 q0 q1 htl
        rw [← HWs.out]
        clear hws
        go_wp2_with fail
        go_loopw [13, 8] (fun vi vt wr => ∃ k : Nat, k ≤ ws.length ∧ vi = .int .i64 k ∧ Hid (RI w w5 wr v1 vt todo ws k)) (fun vi _ _ => ws.length - (intOf vi).toNat)
        case atStart => exact ⟨0, Nat.zero_le _, rfl, HI0⟩
        case round =>
          obtain ⟨k, hk, rfl, hI⟩ := hrel
          have hwl := HWl.out
          by_cases hlt : k < ws.length
          · have hrd : WantsR wr (.slice Aw ws.length cw) ws := HRw.out.but hI.out.bt HFr.out
            obtain ⟨g2, o2, c2, e, _, hg2⟩ := hrd.pos (by omega)
            cases e
            obtain ⟨r0, r1⟩ := WantsR.cells hrd k hlt
            have hst := fun v' w6 h1 h2 h3 h4 => RI.step (v' := v') (w6 := w6) hI.out hlt h1 h2 h3 h4
            obtain ⟨y, hy⟩ : ∃ y, y = ws.getD k ([], 0) := ⟨_, rfl⟩
            rw [← hy] at r0 r1 hst
            obtain ⟨yi, yk⟩ := y
            unfold SV at r0
            simp only at r0 r1 hst
            have HSt := Lib.hid hst
            clear hst hrd hy
            go_wp2_with (at_builtin; refine wpList_push rfl _ _ rfl w.heap.size u8 _ yi rfl rfl hI.out.nt ?c1 ?c2 ?_)
            case c1 =>
              have h1 := HTl.out; have h2 := HWl.out
              rw [List.length_append, List.length_map, List.length_take]; omega
            case c2 => exact Nat.le_trans H5.out hI.out.hB.size
            intro v' w6 hN6 hb6 ha6 hB6
            have HI6 := Lib.hid (HSt.out v' w6 (by rw [List.append_assoc, List.map_take]; exact hN6) hb6 ha6 hB6)
            clear hN6 hb6 ha6 hB6 r0 r1
            go_wp2_with fail
            go_roundw
            case rel => exact ⟨k + 1, hlt, by go_num, HI6⟩
            case measure => simp [intOf]; omega
          · obtain rfl : k = ws.length := by omega
            have HN : Hid (RC L tips w wr va' (.slice Ab b.length cb) u8 (withL a x) b (todo ++ (wfL L x).map Prod.fst)) := Lib.hid (by
              have hI2 := hI.out
              rw [HWs.out] at hI2
              exact HR.out.more HO1.out HNa.out HTh.out HB3.out HN4.out HB4.out HB5.out hI2)
            go_wp2_with fail
            go_roundw
            case rel => exact ⟨_, b, _, HN⟩
            case measure =>
              show (600000 - (sLen va' + b.length)) * 1000 + sLen u8 < (600000 - (a.length + b.length)) * 1000 + (todo.length + 1)
              rw [HN.out.lt, HN.out.la, withL_len HNa.out, List.length_append, List.length_map, ← HWs.out]
              have := HAB.out
              have := HWl.out
              omega
end Go.Proofs.YtialgldmogigfaaGreatDoor
