/-
  A name is met: the row, and how often each was met.
  Pieces of a slice of items, made and read.
  Pieces of lists, joined: appends of what a slice holds; steps of a region that draws its order.
-/
import Derived.Deep.AppendLies
import Derived.Test.YtngphfogomchfaaGreatDoorC25
import Derived.Test.YtngphfogomchfaaGreatDoorC09
import Derived.Test.YtngphfogomchfaaGreatDoorC20
import Derived.Deep.QuietTactic
import Derived.BigQuiet
import Derived.IntWalk
import Derived.Test.YtngphfogomchfaaGreatDoorC23
import Derived.Test.YtngphfogomchfaaGreatDoorC24

namespace Go.Proofs.YtngphfogomchfaaGreatDoor
open Go Go.RowKit Go.Maps

theorem zeroInt (w : World) : (zeroValue 3).run Tryz.prog w = .ok (.int .i64 0) w := by kernel_rfl
theorem infoW : (Tryz.prog.info? 9).map (fun i => (i.zero, i.size, i.bytes)) = some (some (.string ⟨#[]⟩), 1, 16) := by kernel_rfl
/-- How often each was met, as a map holds it. -/
def timesF (c : Bs → Nat) (x : Bs) : Option Value := if c x = 0 then none else some (.int .i64 (c x))
theorem timesF_get (c : Bs → Nat) (x : Bs) : (timesF c x).getD (.int .i64 0) = .int .i64 (c x) := by
  unfold timesF
  by_cases h : c x = 0
  · rw [if_pos h, h]; rfl
  · rw [if_neg h]; rfl
def incC (c : Bs → Nat) (x : Bs) : Bs → Nat := fun y => if y = x then c x + 1 else c y
theorem timesF_inc (c : Bs → Nat) (x : Bs) : updF (timesF c) x (.int .i64 ((c x : Int) + 1)) = timesF (incC c x) := by
  funext y
  unfold updF timesF incC
  by_cases e : y = x
  · rw [if_pos e, if_pos e, if_neg (by omega)]; rfl
  · rw [if_neg e, if_neg e]
def addR (row : List Bs) (x : Bs) : List Bs := if x ∈ row then row else row ++ [x]

/-- The row, in a variable's box; how often each was met, in another. -/
structure MSt (B rb xb mb : Nat) (row : List Bs) (c : Bs → Nat) (n : Nat) (v : Value) (w : World) : Prop where
  rbx : Boxed w rb 23 v
  own : OwK 9 1 strC w B v row
  xbx : Boxed w xb 73 (.map (some mb))
  mp : MapS w mb n (timesF c)
  seen : ∀ x, c x = 0 ↔ x ∉ row
  le : ∀ x, c x ≤ n
  hB : B ≤ rb ∧ B ≤ xb ∧ B ≤ mb ∧ B ≤ w.heap.size
  ne : rb ≠ mb ∧ xb ≠ mb ∧ rb ≠ xb
/-- The blocks that it lies in. -/
def Mine (rb xb mb : Nat) (v : Value) (k : Nat) : Prop := k = rb ∨ k = xb ∨ k = mb ∨ v.ownBlock = some k
theorem MSt.low {B rb xb mb : Nat} {row : List Bs} {c : Bs → Nat} {n : Nat} {v : Value} {w : World} (h : MSt B rb xb mb row c n v w) {k : Nat} (hk : Mine rb xb mb v k) : B ≤ k ∧ k < w.heap.size := by
  rcases hk with rfl | rfl | rfl | hk
  · exact ⟨h.hB.1, h.rbx.lt⟩
  · exact ⟨h.hB.2.1, h.xbx.lt⟩
  · exact ⟨h.hB.2.2.1, h.mp.lt⟩
  · obtain ⟨h1, h2, _⟩ := own_block h.own hk; exact ⟨h1, h2⟩
theorem MSt.but {B rb xb mb : Nat} {row : List Bs} {c : Bs → Nat} {n : Nat} {v : Value} {w w' : World} {S : Nat → Prop} (h : MSt B rb xb mb row c n v w) (hb : But S w w') (hn : ∀ k, Mine rb xb mb v k → ¬ S k) : MSt B rb xb mb row c n v w' :=
  ⟨boxed_but h.rbx hb (hn _ (.inl rfl)), h.own.but hb (fun _ hg => hn _ (.inr (.inr (.inr hg)))), boxed_but h.xbx hb (hn _ (.inr (.inl rfl))), h.mp.but hb (hn _ (.inr (.inr (.inl rfl)))), h.seen, h.le, ⟨h.hB.1, h.hB.2.1, h.hB.2.2.1, Nat.le_trans h.hB.2.2.2 hb.size⟩, h.ne⟩
theorem row_ne_map {w : World} {B n k mb m : Nat} {t : TypeId} {v : Value} {xs : List Value} {f : Bs → Option Value} (h : w.ownsRow B t k v n xs) (hm : MapS w mb m f) : v.ownBlock ≠ some mb := fun e => by
  obtain ⟨_, _, cur, h1⟩ := own_block h e
  obtain ⟨D, ⟨es, cl, h2, _⟩, _⟩ := hm
  rw [h1] at h2; cases h2
theorem row_ne_box {w : World} {B n k b : Nat} {t t' : TypeId} {v u : Value} {xs : List Value} (h : w.ownsRow B t k v n xs) (hb : Boxed w b t' u) (hne : t' ≠ t) : v.ownBlock ≠ some b := fun e => by
  obtain ⟨_, _, cur, h1⟩ := own_block h e
  rw [show w.heap[b]? = _ from hb] at h1
  simp at h1
  exact hne h1.2

def MeetPost (B rb xb mb : Nat) (row : List Bs) (c : Bs → Nat) (n : Nat) (v : Value) (x : Bs) (w : World) (e : Ending) (w' : World) : Prop :=
  e = .returned (.tuple #[]) ∧ ∃ v', MSt B rb xb mb (addR row x) (incC c x) (n + 1) v' w' ∧ But (Mine rb xb mb v) w w' ∧ (∀ g, v'.ownBlock = some g → v.ownBlock = some g ∨ w.heap.size ≤ g)

set_option maxHeartbeats 4000000 in
set_option maxRecDepth 100000 in
theorem meet_any {B rb xb mb : Nat} {row : List Bs} {c : Bs → Nat} {n : Nat} {v : Value} {w : World} (h : MSt B rb xb mb row c n v w) (x : Bs) (hx : x.length ≤ 1000000) (hr : row.length ≤ 1000000000) (hn : n ≤ 1000000000000) :
    Calls Tryz.prog 53 #[.string ⟨x.toArray⟩, .pointer (some ⟨xb, 0, none⟩), .pointer (some ⟨rb, 0, none⟩)] w (MeetPost B rb xb mb row c n v x w) := by
  have c0 := h.xbx.cell
  have hlook := h.mp.look Tryz.underlying73 (zeroInt w) (x := x) (by unfold maxLen; omega)
  rw [timesF_get] at hlook
  have hle := h.le x
  obtain ⟨k, hk⟩ : ∃ k, k = c x := ⟨_, rfl⟩
  rw [← hk] at hlook hle
  have H := Lib.hid h; have HK := Lib.hid hk
  clear h hk
  go_enter Tryz.func53, Tryz.ntmps53
  go_wp2_with (at_mapUpdate; refine wpList_putS rfl _ _ _ 73 3 rfl Tryz.underlying73 mb n _ x (.int .i64 ((k : Int) + 1)) rfl rfl rfl H.out.mp (by unfold maxLen; omega) (by unfold maxLen; omega) ?_)
  intro w1 hM1 hg1
  rw [HK.out, timesF_inc] at hM1
  have hb1 := But.of_grown hg1
  have r1 := boxed_but H.out.rbx hb1 (fun e => H.out.ne.1 (Option.some.inj e).symm)
  have o1 := H.out.own.but hb1 (fun _ hg e => row_ne_map H.out.own H.out.mp (by rw [hg, e]))
  have x1 := boxed_but H.out.xbx hb1 (fun e => H.out.ne.2.1 (Option.some.inj e).symm)
  have hlook1 := hM1.look Tryz.underlying73 (zeroInt w1) (x := x) (by unfold maxLen; omega)
  rw [timesF_get] at hlook1
  have hi : incC c x x = k + 1 := by unfold incC; rw [if_pos rfl, HK.out]
  rw [hi] at hlook1
  have c1 := x1.cell
  have M1 := Lib.hid hM1; have HB1 := Lib.hid hb1; have R1 := Lib.hid r1; have O1 := Lib.hid o1; have X1 := Lib.hid x1
  have hle2 : ∀ y, incC c x y ≤ n + 1 := fun y => by
    unfold incC
    by_cases e : y = x
    · rw [if_pos e, ← HK.out]; omega
    · rw [if_neg e]; have := H.out.le y; omega
  have HLe := Lib.hid hle2
  have hsz1 := hb1.size
  have HZ := Lib.hid hsz1
  have hmem := H.out.seen x
  rw [← HK.out] at hmem
  have HMem := Lib.hid hmem
  clear hM1 hg1 hb1 r1 o1 x1 hi hle2 hsz1 hmem c0 hlook
  by_cases h0 : k = 0
  · -- met for the first time
    have hno : x ∉ row := HMem.out.1 h0
    have HA : Hid (addR row x = row ++ [x]) := Lib.hid (if_neg hno)
    have hseen2 : ∀ y, incC c x y = 0 ↔ y ∉ row ++ [x] := fun y => by
      unfold incC
      by_cases e : y = x
      · rw [if_pos e, e]; simp
      · rw [if_neg e, H.out.seen y]; simp [e]
    have HSe := Lib.hid hseen2
    subst h0
    have d0 := R1.out.cell
    have f0 := R1.out.frozen
    obtain ⟨A, cp, rfl⟩ := own_slice O1.out
    obtain ⟨i0, hi0, hz0, hz1, hz2⟩ := info_parts infoW
    have hbz : B ≤ w1.heap.size := Nat.le_trans H.out.hB.2.2.2 HZ.out
    clear hno hseen2
    go_wp2_with (at_builtin; refine wpList_append_lies _ rfl _ _ 23 rfl B 9 i0 _ 1 16 Tryz.underlying23 hi0 hz0 hz1 hz2 rfl (by decide) _ row.length _ rfl (World.ownsRow.alloc O1.out _) ⟨w1.heap.size, 0, none⟩ 1 1 [.string ⟨x.toArray⟩] rfl rfl (cell_one_new _ _ _) (by simp [Value.oneCell']) (by omega) (by unfold maxLen; omega) (by omega) (by simp; omega) _ rfl ?_)
    intro g cap w2 hown hgrow hat hlt
    have hown' : OwK 9 1 strC w2 B (.slice (some ⟨g, 0, none⟩) (row.length + 1) cap) (row ++ [x]) := by
      unfold OwK; rw [List.length_append, List.flatMap_append]; exact hown
    have hb2 := (But.of_new (S := fun k => (Value.slice A row.length cp).ownBlock = some k) (below_new w1 (.cells #[.string ⟨x.toArray⟩] 9))).trans (But.of_grown hgrow)
    have r2 := boxed_but R1.out hb2 (fun e => row_ne_box O1.out R1.out (by decide) e)
    have x2 := boxed_but X1.out hb2 (fun e => row_ne_box O1.out X1.out (by decide) e)
    have m2 := M1.out.but hb2 (fun e => row_ne_map O1.out M1.out e)
    have hgr : g ≠ rb := fun e => row_ne_box hown' r2 (by decide) (by rw [e]; rfl)
    have d2 := r2.cell
    have f2 := r2.frozen
    have HOw := Lib.hid hown'; have HB2 := Lib.hid hb2; have R2 := Lib.hid r2; have X2 := Lib.hid x2; have M2 := Lib.hid m2; have HGr := Lib.hid hgr; have HAt := Lib.hid hat; have HLt := Lib.hid hlt
    clear hown hown' hgrow hb2 r2 x2 m2 hgr hat hlt d0 f0 c1 hlook1
    go_wp2_with fail
    go_end0
    have hb3 : But (fun k => k = rb) w2 (w2.setCell ⟨rb, 0, none⟩ (.slice (some ⟨g, 0, none⟩) (row.length + 1) cap)) := (But.refl (fun k => k = rb) w2).setCell (p := ⟨rb, 0, none⟩) rfl _
    refine ⟨rfl, .slice (some ⟨g, 0, none⟩) (row.length + 1) cap, ?_, ?_, ?_⟩
    · rw [HA.out]
      exact ⟨R2.out.set _, HOw.out.but hb3 (fun _ hg e => HGr.out (by cases hg; exact e)), boxed_but X2.out hb3 (fun e => H.out.ne.2.2 e.symm), M2.out.but hb3 (fun e => H.out.ne.1 e.symm), HSe.out, HLe.out, ⟨H.out.hB.1, H.out.hB.2.1, H.out.hB.2.2.1, Nat.le_trans H.out.hB.2.2.2 (Nat.le_trans HZ.out (Nat.le_trans HB2.out.size hb3.size))⟩, H.out.ne⟩
    · exact ((HB1.out.mono (fun k _ e => .inr (.inr (.inl (Option.some.inj e).symm)))).trans (HB2.out.mono (fun k _ e => .inr (.inr (.inr e))))).trans (hb3.mono (fun k _ e => .inl e))
    · intro g' hg'
      cases hg'
      rcases HAt.out with e | e
      · exact .inl e
      · refine .inr ?_
        have h1 := HZ.out
        show w.heap.size ≤ g
        omega
  · -- met before
    have hin : x ∈ row := Classical.byContradiction fun hn => h0 (HMem.out.2 hn)
    have HA : Hid (addR row x = row) := Lib.hid (if_pos hin)
    have hseen2 : ∀ y, incC c x y = 0 ↔ y ∉ row := fun y => by
      unfold incC
      by_cases e : y = x
      · rw [if_pos e, e]; simp [hin]
      · rw [if_neg e]; exact H.out.seen y
    have HSe := Lib.hid hseen2
    have h1 : ¬ (k : Int) + 1 = 1 := by omega
    have h2 : ((k : Int) + 1 == 1) = false := by simpa using h1
    clear hin hseen2 h0
    go_wp2_with fail
    go_end0
    refine ⟨rfl, v, ?_, HB1.out.mono (fun k _ e => .inr (.inr (.inl (Option.some.inj e).symm))), fun g hg => .inl hg⟩
    rw [HA.out]
    exact ⟨R1.out, O1.out, X1.out, M1.out, HSe.out, HLe.out, ⟨H.out.hB.1, H.out.hB.2.1, H.out.hB.2.2.1, Nat.le_trans H.out.hB.2.2.2 HZ.out⟩, H.out.ne⟩
end Go.Proofs.YtngphfogomchfaaGreatDoor


namespace Go.Proofs.YtngphfogomchfaaGreatDoor
open Go Go.RowKit Go.Shelf
section
variable {P : Program} {a : Go.Act} {o : Oper} {W : World}
theorem y_build {t : TypeId} {n : Nat} {parts : Array (Nat × Operand)} {ps : Array (Nat × Value)} {r : Value} {W' : World} (ho : o.op = .buildSlice t n parts) (hp : (parts.map fun (i, x) => (i, a.eval x)) = ps) (h : (Instr.buildSlice t n ps).run P W = .ok r W') : (execOp a.eval o).run P W = .ok (.value r) W' := by
  subst hp
  simp only [execOp, ho]
  simp [h, Result.andThen]
end
theorem build1 (W : World) (xm : Int) (xn xi : List UInt8) : (Instr.buildSlice 60 1 #[(0, .agg #[.int .i64 xm, .string ⟨xn.toArray⟩, .string ⟨xi.toArray⟩])]).run Tryz.prog W = .ok (.slice (some ⟨W.heap.size, 0, none⟩) 1 1) (W.alloc (.cells #[.int .i64 xm, .string ⟨xn.toArray⟩, .string ⟨xi.toArray⟩] 59)) := by
  simp [go_sem]
theorem at_one (W : World) (g o n c k : Nat) (hk : k < n) : (Instr.indexAt 60 (.slice (some ⟨g, o, none⟩) n c) (.int .i64 (k : Int))).run Tryz.prog W = .ok (.pointer (some ⟨g, o + k * 3, none⟩)) W := by
  have h1 : (k : Int) < (n : Int) := by omega
  simp [go_sem, h1]
end Go.Proofs.YtngphfogomchfaaGreatDoor


namespace Go.Proofs.YtngphfogomchfaaGreatDoor
open Go Go.RowKit Go.Shelf
section
variable {α : Type} {st t : TypeId} {k bt : Nat} {f : α → List Value}
theorem RdK.take' {w : World} {g o n c : Nat} {l : List α} (h : RdK k f w (.slice (some ⟨g, o, none⟩) n c) l) (hn : n = l.length) (hn0 : 0 < n) (m : Nat) (hm : m ≤ n) :
    ∀ j u, ((l.take m).flatMap f)[j]? = some u → (∀ x, (f x).length = k) → 0 < k → w.cell? ⟨g, o + j, none⟩ = some u := by
  intro j u hj hf hk
  rcases h with ⟨_, rfl⟩ | ⟨g', o', c', e, hc, hg, hcell⟩
  · simp at hn; omega
  cases e
  have hlt : j < (l.take m).length * k := by
    rw [← flat_length hf]
    exact (List.getElem?_eq_some_iff.1 hj).1
  have hq : j / k < (l.take m).length := Nat.div_lt_of_lt_mul (by rw [Nat.mul_comm]; exact hlt)
  have hr : j % k < k := Nat.mod_lt _ hk
  have hj2 : j / k * k + j % k = j := by rw [Nat.mul_comm]; exact Nat.div_add_mod j k
  have hx : (l.take m)[j / k]? = some (l.take m)[j / k] := List.getElem?_eq_getElem hq
  have h1 := flat_get hf (l.take m) (j / k) _ hx (j % k) hr
  rw [hj2, hj] at h1
  have hq2 : j / k < l.length := by rw [List.length_take] at hq; omega
  have hx2 : l[j / k]? = some (l.take m)[j / k] := by rw [List.getElem_take]; exact List.getElem?_eq_getElem hq2
  have h2 := hcell (j / k) hq2 _ hx2 (j % k) hr
  rw [Nat.add_assoc, hj2] at h2
  rw [h2, ← h1]
theorem RdK.drop' {w : World} {g o n c : Nat} {l : List α} (h : RdK k f w (.slice (some ⟨g, o, none⟩) n c) l) (hn : n = l.length) (hn0 : 0 < n) (m : Nat) (hm : m ≤ n) :
    ∀ j u, ((l.drop m).flatMap f)[j]? = some u → (∀ x, (f x).length = k) → 0 < k → w.cell? ⟨g, o + m * k + j, none⟩ = some u := by
  intro j u hj hf hk
  rcases h with ⟨_, rfl⟩ | ⟨g', o', c', e, hc, hg, hcell⟩
  · simp at hn; omega
  cases e
  have hlt : j < (l.drop m).length * k := by
    rw [← flat_length hf]
    exact (List.getElem?_eq_some_iff.1 hj).1
  have hq : j / k < (l.drop m).length := Nat.div_lt_of_lt_mul (by rw [Nat.mul_comm]; exact hlt)
  have hr : j % k < k := Nat.mod_lt _ hk
  have hj2 : j / k * k + j % k = j := by rw [Nat.mul_comm]; exact Nat.div_add_mod j k
  have hx : (l.drop m)[j / k]? = some (l.drop m)[j / k] := List.getElem?_eq_getElem hq
  have h1 := flat_get hf (l.drop m) (j / k) _ hx (j % k) hr
  rw [hj2, hj] at h1
  have hq2 : m + j / k < l.length := by rw [List.length_drop] at hq; omega
  have hx2 : l[m + j / k]? = some (l.drop m)[j / k] := by rw [List.getElem_drop]; exact List.getElem?_eq_getElem hq2
  have h2 := hcell (m + j / k) hq2 _ hx2 (j % k) hr
  have e : o + (m + j / k) * k + j % k = o + m * k + j := by rw [Nat.add_mul]; omega
  rw [e] at h2
  rw [h2, ← h1]

/-- What a slice holds, behind. -/
theorem run_appK (E : ElK st t k bt f) {w : World} {base : Nat} {v : Value} {l m : List α} (h : OwK t k f w base v l) (a : Addr) (n c : Nat) (hn : n = m.length) (hs : ∀ j u, (m.flatMap f)[j]? = some u → w.cell? (a.add j) = some u) (hl : l.length + m.length ≤ 1000000) (hbt : bt ≤ 1000) (hb : base ≤ w.heap.size) (ty : TypeId) :
    ∃ v' w', (Builtin.append_ #[st, st] ty #[v, .slice (some a) n c]).run Tryz.prog w = .ok v' w' ∧ OwK t k f w' base v' (l ++ m) ∧ Below base w w' ∧ w.grownBy w' v.ownBlock := by
  subst hn
  obtain ⟨z, hz, hzs⟩ := E.info
  obtain ⟨i0, hi, hz0, hz1, hz2⟩ := info_parts hz
  obtain ⟨v', w', h1, h2, h3, _⟩ := run_append_own (P := Tryz.prog) w base st ty t i0 z k bt E.ut hi hz0 hz1 hz2 hzs E.pos v l.length (l.flatMap f) h a m.length c (m.flatMap f) (flat_length E.len m) hs
    (fun u hu => by obtain ⟨x, _, hx⟩ := List.mem_flatMap.1 hu; exact E.one x u hx) (by unfold maxLen; omega) (by
      have : (l.length + m.length) * bt ≤ 1000000 * 1000 := Nat.mul_le_mul hl hbt
      omega) hb
  refine ⟨v', w', h1, ?_, ⟨h3.os, h3.tape, h3.output, h3.size, fun j hj => h3.block j (by omega) ?_⟩, h3⟩
  · unfold OwK; rw [List.length_append, List.flatMap_append]; exact h2
  · intro e
    have := (h.lt j e.symm).1
    omega
theorem OwK.new0 (w : World) (base : Nat) (hb : base ≤ w.heap.size) : OwK t k f (w.alloc (.cells #[] t)) base (.slice (some ⟨w.heap.size, 0, none⟩) 0 0) [] :=
  ⟨by simp, .inr ⟨w.heap.size, 0, #[], rfl, hb, heap_alloc_new w _, by simp, by simp, by simp, by simp⟩⟩
end
section
variable {P : Program} {ops : Array Oper} {Q : Exit → Go.Act → World → Prop}
/-- One of two may come up. -/
theorem AnyB.two (i j : Nat) {fuel : Nat} {listed : Array Bool} {a : Go.Act} {w : World} (hr : Region.ready .any ops listed = [i, j]) {oi oj : Oper} (v v' : Value) (w1 w2 : World) (hi : ops[i]? = some oi) (hj : ops[j]? = some oj)
    (hwi : Region.wanted oi (yielded ops a.tmps) = true) (hwj : Region.wanted oj (yielded ops a.tmps) = true)
    (hei : (execOp a.eval oi).run P w = .ok (.value v) w1) (hej : (execOp a.eval oj).run P w = .ok (.value v') w2) (hb1 : Below w.heap.size w w1) (hb2 : Below w.heap.size w w2)
    (h1 : AnyB P ops Q fuel (listed.setIfInBounds i true) (a.put oi.dst v) w1) (h2 : AnyB P ops Q fuel (listed.setIfInBounds j true) (a.put oj.dst v') w2) : AnyB P ops Q (fuel + 1) listed a w :=
  held_two hr (held_op v w1 hi hwi hei hb1 (held_mono (fun _ hW => hb1.trans (hW.mono hb1.size)) _ _ _ _ h1)) (held_op v' w2 hj hwj hej hb2 (held_mono (fun _ hW => hb2.trans (hW.mono hb2.size)) _ _ _ _ h2))
end
section
variable {P : Program} {ops : Array Oper} {Q : Exit → Go.Act → World → Prop} {b : Nat} {w0 : World}
/-- Whatever order is picked from here on; what lies in w0 below b stays as it is. -/
def AnyK (P : Program) (ops : Array Oper) (Q : Exit → Go.Act → World → Prop) (b : Nat) (w0 : World) (fuel : Nat) (listed : Array Bool) (a : Go.Act) (w : World) : Prop :=
  wpAnyH P .any ops Q (fun W => Below b w0 W) fuel listed a w
theorem AnyK.start (b : Nat) (w0 : World) {id : Nat} {a : Go.Act} {w : World} (hm : P.follows .mixedOrders = true) (h : AnyK P ops Q b w0 ops.size (Array.replicate ops.size false) a w.drew) : (Code.region id ops true).wp P Q a w :=
  held_start _ hm h
theorem AnyK.take (i : Nat) (v : Value) {oi : Oper} {fuel : Nat} {listed : Array Bool} {a : Go.Act} {w : World} (hS : Below b w0 w) (hi : ops[i]? = some oi)
    (hs : Region.noSelect ops = true) (hf : Region.free .any ops listed i = true) (hr : (Region.ready .any ops listed).contains i = true)
    (hQ : ∀ c a w, Q (.panic c) (a.put oi.dst v) w → Q (.panic c) a w) (hw : Region.wanted oi (yielded ops a.tmps) = true)
    (hy : ∀ W, Below b w0 W → (execOp a.eval oi).run P W = .ok (.value v) W)
    (h : AnyK P ops Q b w0 fuel (listed.setIfInBounds i true) (a.put oi.dst v) w) : AnyK P ops Q b w0 (fuel + 1) listed a w :=
  held_take i v hi hs hf hr hQ hw hy hS h
theorem AnyK.call (i : Nat) {oi : Oper} {fuel : Nat} {listed : Array Bool} {a : Go.Act} {w : World} (f : FuncId) (vs : Array Value) (hr : Region.ready .any ops listed = [i]) (hi : ops[i]? = some oi)
    (hw : Region.wanted oi (yielded ops a.tmps) = true) (he : (execOp a.eval oi).run P w = .ok (.enter f vs) w)
    (hc : Calls P f vs w fun e w' => ∃ v, e = .returned v ∧ Below b w0 w' ∧ AnyK P ops Q b w0 fuel (listed.setIfInBounds i true) (a.put oi.dst v) w') : AnyK P ops Q b w0 (fuel + 1) listed a w := by
  refine wpAnyH_ready hr (by simp) (AllReadyH.cons hi (fun K hK => ?_) AllReadyH.nil)
  rw [if_pos hw]
  unfold Oper.wp
  rw [he, Oper.upon_enter]
  refine hc.mono ?_
  rintro e w' ⟨v, rfl, hb, h⟩
  exact hK.out _ _ hb fun _ => h
theorem AnyK.op (i : Nat) (v : Value) (w' : World) {oi : Oper} {fuel : Nat} {listed : Array Bool} {a : Go.Act} {w : World} (hr : Region.ready .any ops listed = [i]) (hi : ops[i]? = some oi)
    (hw : Region.wanted oi (yielded ops a.tmps) = true) (he : (execOp a.eval oi).run P w = .ok (.value v) w') (hb : Below b w0 w') (h : AnyK P ops Q b w0 fuel (listed.setIfInBounds i true) (a.put oi.dst v) w') : AnyK P ops Q b w0 (fuel + 1) listed a w :=
  held_one hr (held_op v w' hi hw he hb h)
theorem AnyK.two (i j : Nat) {fuel : Nat} {listed : Array Bool} {a : Go.Act} {w : World} (hr : Region.ready .any ops listed = [i, j]) {oi oj : Oper} (v v' : Value) (w1 w2 : World) (hi : ops[i]? = some oi) (hj : ops[j]? = some oj)
    (hwi : Region.wanted oi (yielded ops a.tmps) = true) (hwj : Region.wanted oj (yielded ops a.tmps) = true)
    (hei : (execOp a.eval oi).run P w = .ok (.value v) w1) (hej : (execOp a.eval oj).run P w = .ok (.value v') w2) (hb1 : Below b w0 w1) (hb2 : Below b w0 w2)
    (h1 : AnyK P ops Q b w0 fuel (listed.setIfInBounds i true) (a.put oi.dst v) w1) (h2 : AnyK P ops Q b w0 fuel (listed.setIfInBounds j true) (a.put oj.dst v') w2) : AnyK P ops Q b w0 (fuel + 1) listed a w :=
  held_two hr (held_op v w1 hi hwi hei hb1 h1) (held_op v' w2 hj hwj hej hb2 h2)
theorem AnyK.done {listed : Array Bool} {a : Go.Act} {w : World} (fuel : Nat) (hr : Region.ready .any ops listed = []) (h : Q .normal a w) : AnyK P ops Q b w0 fuel listed a w :=
  held_done fuel hr h
end
section
variable {P : Program} {a : Go.Act} {o : Oper} {W : World}
theorem y_slice {t : TypeId} {x : Operand} {lo hi mx : Option Operand} {xv r : Value} {lv hv mv : Option Value} (ho : o.op = .slice t x lo hi mx) (hx : a.eval x = xv) (hl : lo.map a.eval = lv) (hh : hi.map a.eval = hv) (hm : mx.map a.eval = mv)
    (hs : (Instr.sliceAt t xv lv hv mv).run P W = .ok r W) : (execOp a.eval o).run P W = .ok (.value r) W := by
  subst hx hl hh hm
  simp only [execOp, ho]
  simp [hs, Result.andThen]
theorem y_index {t : TypeId} {s i : Operand} {sv iv r : Value} (ho : o.op = .indexAddr t s i) (hs : a.eval s = sv) (hi : a.eval i = iv) (h : (Instr.indexAt t sv iv).run P W = .ok r W) : (execOp a.eval o).run P W = .ok (.value r) W := by
  subst hs hi
  simp only [execOp, ho]
  simp [h, Result.andThen]
theorem y_field {t : TypeId} {s : Operand} {n : Nat} {sv r : Value} (ho : o.op = .fieldAddr t s n) (hs : a.eval s = sv) (h : (Instr.fieldAt t sv n).run P W = .ok r W) : (execOp a.eval o).run P W = .ok (.value r) W := by
  subst hs
  simp only [execOp, ho]
  simp [h, Result.andThen]
end
end Go.Proofs.YtngphfogomchfaaGreatDoor
