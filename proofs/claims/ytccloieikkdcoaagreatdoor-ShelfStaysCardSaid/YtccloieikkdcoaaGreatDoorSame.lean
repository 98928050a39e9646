/-
  Same: are these the same files?
-/
import Derived.Test.YtccloieikkdcoaaGreatDoorGreat
import Derived.Test.YtccloieikkdcoaaGreatDoorOfF
import Derived.Laws.IdiomStrings
namespace Go.Proofs.YtccloieikkdcoaaGreatDoor
open Go Go.RowKit Go.Maps Go.Shelf Go.Deep

/-- A slice of files, wherever: as it reads. -/
def FileV (w : World) (a : Addr) (q : By × By) : Prop := ∃ v, w.cell? a = some (S q.1) ∧ w.cell? (a.add 1) = some v ∧ BytesAt w v q.2
def FilesV (w : World) (v : Value) (l : Tb) : Prop := SliceAt (FileV w) 2 v l
theorem FilesAt.v {w : World} {v : Value} {l : Tb} (h : FilesAt w v l) : FilesV w v l := h.imp fun _ _ ⟨v, h1, h2, h3, _⟩ => ⟨v, h1, h2, h3⟩
theorem FilesIn.v {w : World} {B : Nat} {v : Value} {l : Tb} (h : FilesIn w B v l) : FilesV w v l := by
  obtain ⟨vs, hrow, hfs⟩ := h
  have hrow' := hrow
  rcases hrow.2 with ⟨rfl, h0⟩ | ⟨g, cap, cur, rfl, _⟩
  · have e : l = [] := List.length_eq_zero_iff.1 h0
    subst e
    exact ⟨none, 0, rfl, fun i o ho => by simp at ho⟩
  · refine ⟨_, cap, rfl, fun i q hq => ⟨g, 0, rfl, ?_⟩⟩
    obtain ⟨pv, e0, e1, h2⟩ := hfs.at i q hq
    have c0 := World.ownsRow.cells hrow' (g := g) rfl _ _ e0
    have c1 := World.ownsRow.cells hrow' (g := g) rfl _ _ e1
    rw [add_at] at c0 c1
    rw [Nat.zero_add] at c0 c1
    refine ⟨pv, ?_, ?_, h2.bytes⟩
    · rw [Nat.zero_add]; exact c0
    · rw [add_at, Nat.zero_add]; exact c1
theorem FilesV.below {w w' : World} {v : Value} {l : Tb} (h : FilesV w v l) (hB : Below w.heap.size w w') : FilesV w' v l :=
  h.imp fun _ _ ⟨v, h1, h2, h3⟩ => ⟨v, cell_below' hB h1, cell_below' hB h2, h3.below hB⟩

/-- 'string(b)'. -/
theorem str_of {w : World} {v : Value} {b : By} (h : BytesAt w v b) : (convert 31 9 v).run Tryz.prog w = .ok (.string ⟨b.toArray⟩) w := by
  rcases h with ⟨rfl, rfl⟩ | ⟨a, c, rfl, hc⟩
  · rw [run_convert_bytes_string w _ _ _ none 0 0 Tryz.underlying31 Tryz.underlying5 Tryz.underlying9]
    rfl
  · refine run_convert_bytes_back w _ _ _ a c b Tryz.underlying31 Tryz.underlying5 Tryz.underlying9 fun j hj => ?_
    rw [hc j hj, List.getElem?_eq_getElem hj]; rfl

def SamePost (ta tb : Tb) (w : World) (e : Ending) (w' : World) : Prop := e = .returned (.bool (decide (ta = tb))) ∧ Below w.heap.size w w'

theorem take_same {ta tb : Tb} {k : Nat} {p q : By × By} (h : ta.take k = tb.take k) (hp : ta[k]? = some p) (hq : tb[k]? = some q) (e : p = q) : ta.take (k + 1) = tb.take (k + 1) := by
  rw [take_snoc hp, take_snoc hq, h, e]

set_option maxHeartbeats 8000000 in
set_option maxRecDepth 100000 in
theorem Same_any {w : World} {va vb : Value} {ta tb : Tb} (ha : FilesV w va ta) (hb : FilesV w vb tb) (hl : ta.length ≤ 1000000) : Calls Tryz.prog 30 #[va, vb] w (SamePost ta tb w) := by
  obtain ⟨xa, ca, rfl, hxa⟩ := ha
  obtain ⟨xb, cb, rfl, hxb⟩ := hb
  have Ha := Lib.hid hxa; have Hb := Lib.hid hxb
  clear hxa hxb
  by_cases hlen : ta.length = tb.length
  · have hlI : (ta.length : Int) = (tb.length : Int) := by omega
    have Hlen := Lib.hid hlen
    rw [← hlen]
    clear hlI hlen
    go_enter Tryz.func30, Tryz.ntmps30
    go_wp2_with fail
    go_loopw [5] (fun i wr => Below w.heap.size w wr ∧ ∃ k : Nat, k ≤ ta.length ∧ i = .int .i64 k ∧ ta.take k = tb.take k) (fun i _ => ta.length - (intOf i).toNat)
    case atStart => exact ⟨Below.refl _ _, 0, Nat.zero_le _, rfl, rfl⟩
    case round =>
      obtain ⟨hB, k, hk, rfl, heq⟩ := hrel
      by_cases hlt : k < ta.length
      · obtain ⟨p, hp⟩ : ∃ p, ta[k]? = some p := ⟨_, List.getElem?_eq_getElem hlt⟩
        obtain ⟨q, hq⟩ : ∃ q, tb[k]? = some q := ⟨_, List.getElem?_eq_getElem (by have := Hlen.out; omega)⟩
        obtain ⟨b, off, rfl, v, h0, h1, h6⟩ := Ha.out k p hp
        obtain ⟨b', off', rfl, v', h0', h1', h6'⟩ := Hb.out k q hq
        obtain ⟨va, vc, rfl⟩ := h6.slice
        obtain ⟨va', vc', rfl⟩ := h6'.slice
        replace h0 := cell_below' hB h0
        replace h1 := cell_below' hB h1
        replace h0' := cell_below' hB h0'
        replace h1' := cell_below' hB h1'
        have s1 := fun n => str_of (w := wr.drewN n) (v := .slice va p.2.length vc) (b := p.2) (h6.below (hB.trans ((below_drewN wr n).mono hB.size)))
        have s2 := fun n => str_of (w := wr.drewN n) (v := .slice va' q.2.length vc') (b := q.2) (h6'.below (hB.trans ((below_drewN wr n).mono hB.size)))
        rw [add_at] at h1 h1'
        unfold S at h0 h0'
        have Hp := Lib.hid hp; have Hq := Lib.hid hq; have Heq := Lib.hid heq; have HB := Lib.hid hB
        clear hp hq heq hB h6 h6'
        by_cases e1 : p.1 = q.1
        · by_cases e2 : p.2 = q.2
          · have e : p = q := Prod.ext e1 e2
            subst e
            clear e1 e2
            go_wp2_with fail
            go_quiet (fail)
            go_wp2_with fail
            refine ⟨⟨below_two HB.out (below_drewN wr nq), k + 1, hlt, by go_num, take_same Heq.out Hp.out Hq.out rfl⟩, ?_⟩
            simp [intOf]; omega
          · rw [show q.1 = p.1 from e1.symm] at h0'
            have hs1 : (p.2 == q.2) = false := by simpa using e2
            have hne : decide (ta = tb) = false := decide_eq_false fun e => by
              have h1 := Hp.out
              rw [e, Hq.out] at h1
              cases h1
              exact e2 rfl
            have Hne := Lib.hid hne
            clear hne
            go_wp2_with fail
            go_quiet (fail)
            go_wp2_with fail
            go_ret
            exact ⟨(congrArg (fun b => Ending.returned (Value.bool b)) Hne.out).symm, below_two HB.out (below_drewN wr _)⟩
        · have hs1 : (p.1 == q.1) = false := by simpa using e1
          have hne : decide (ta = tb) = false := decide_eq_false fun e => by
            have h1 := Hp.out
            rw [e, Hq.out] at h1
            cases h1
            exact e1 rfl
          have Hne := Lib.hid hne
          clear hne
          go_wp2_with fail
          go_quiet (fail)
          go_wp2_with fail
          go_ret
          exact ⟨(congrArg (fun b => Ending.returned (Value.bool b)) Hne.out).symm, below_two HB.out (below_drewN wr _)⟩
      · obtain rfl : k = ta.length := by omega
        have he : decide (ta = tb) = true := by
          rw [List.take_length, List.take_of_length_le (by have := Hlen.out; omega)] at heq
          exact decide_eq_true heq
        have He := Lib.hid he; have HB := Lib.hid hB
        clear he hB heq
        go_wp2_with fail
        go_ret
        exact ⟨(congrArg (fun b => Ending.returned (Value.bool b)) He.out).symm, HB.out⟩
  · have hne : decide (ta = tb) = false := decide_eq_false fun e => hlen (by rw [e])
    have hlI : ((ta.length : Int) == (tb.length : Int)) = false := by simpa using (show ¬ (ta.length : Int) = tb.length by omega)
    have hlJ : ¬ ((ta.length : Int) = (tb.length : Int)) := by omega
    have hlK : ((ta.length : Int) != (tb.length : Int)) = true := by simpa using hlJ
    have Hne := Lib.hid hne
    clear hne
    go_enter Tryz.func30, Tryz.ntmps30
    go_wp2_with fail
    go_ret
    exact ⟨(congrArg (fun b => Ending.returned (Value.bool b)) Hne.out).symm, Below.refl _ _⟩
end Go.Proofs.YtccloieikkdcoaaGreatDoor
