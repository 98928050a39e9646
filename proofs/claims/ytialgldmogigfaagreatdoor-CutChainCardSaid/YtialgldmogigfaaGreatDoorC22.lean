/-
  Pick, and the document's.
  The document's 'with'; a window of a block of one's own.
  A window of a block of one's own.
  A whole list behind one of one's own.
  Sorted, struck out: rising; Set, Join.
-/
import Derived.Test.YtialgldmogigfaaGreatDoorC14
import Derived.Test.YtialgldmogigfaaGreatDoorC05
import Derived.Deep.AppendSrc
import Derived.Sort.Walk0
import Derived.Test.YtialgldmogigfaaGreatDoorC15
import Derived.Sort.LotA
import Derived.Lib.AppendZerosOnto
import Derived.Test.YtialgldmogigfaaGreatDoorC13
import Derived.Test.YtialgldmogigfaaGreatDoorC17
import Derived.Test.YtialgldmogigfaaGreatDoorC19

namespace Go.Proofs.YtialgldmogigfaaGreatDoor
open Go Go.RowKit Go.Maps
theorem heldK : ElK 22 54 3 40 heldC := ⟨Tryz.underlying22, ⟨.agg #[.string ⟨#[]⟩, .int .i64 0, .string ⟨#[]⟩], by kernel_rfl, by kernel_rfl⟩, by decide, heldC_len, fun x u hu => by
  simp only [heldC, List.mem_cons, List.not_mem_nil, or_false] at hu; rcases hu with rfl | rfl | rfl <;> rfl⟩
/-- A list that lies in new blocks alone. -/
def NewH (B : Nat) (w : World) (v : Value) (l : List Hld) : Prop := OwK 54 3 heldC w B v l
theorem NewH.rd {B : Nat} {w : World} {v : Value} {l : List Hld} (h : NewH B w v l) : HldsR w v l := OwK.rd heldC_len h
def PickPost (l : List Hld) (w : World) (e : Ending) (w' : World) : Prop := ∃ v, e = .returned v ∧ NewH w.heap.size w' v l ∧ Below w.heap.size w w'
theorem pickL_snoc {l : List Hld} {ids : List Bs} {k : Nat} (h : k < l.length) : pickL (l.take (k + 1)) ids = if (l.getD k noHld).id ∈ ids then pickL (l.take k) ids ++ [l.getD k noHld] else pickL (l.take k) ids := by
  unfold pickL
  rw [take_getD l noHld k h, List.filter_append]
  by_cases e : (l.getD k noHld).id ∈ ids
  · rw [if_pos e, List.filter_cons_of_pos (by simpa using e)]; rfl
  · rw [if_neg e, List.filter_cons_of_neg (by simpa using e)]; simp
theorem pickL_len (l : List Hld) (ids : List Bs) : (pickL l ids).length ≤ l.length := List.length_filter_le _ _
set_option maxHeartbeats 4000000 in
set_option maxRecDepth 100000 in
theorem Pick_any {w : World} {v vi : Value} {l : List Hld} {ids : List Bs} (h : HldsR w v l) (hi : StrsR w vi ids) (hl : l.length ≤ 100000) (hil : ids.length ≤ 1000000) (hs : ∀ x ∈ l, x.id.length ≤ 1000000) (his : ∀ x ∈ ids, x.length ≤ 1000000) :
    Calls Tryz.prog 20 #[v, vi] w (PickPost (pickL l ids) w) := by
  obtain ⟨A, c, rfl⟩ := h.shape
  obtain ⟨Ai, ci, rfl⟩ := hi.shape
  have Hx := Lib.hid h; have Hs := Lib.hid hs; have Hi := Lib.hid hi; have His := Lib.hid his; clear h hs hi his
  go_enter Tryz.func20, Tryz.ntmps20
  have hmm := @run_makeMap Tryz.prog
  go_wp2_with fail
  clear hmm
  go_loopw [14] (fun i wr => Hid (Below w.heap.size w wr) ∧ ∃ (k : Nat) (c : Bs → Nat), k ≤ ids.length ∧ i = .int .i64 k ∧ Hid (MapS wr w.heap.size k (timesF c)) ∧ Hid (∀ x, c x = 0 ↔ x ∉ ids.take k) ∧ Hid (∀ x, c x ≤ k)) (fun i _ => ids.length - (intOf i).toNat)
  case atStart => exact ⟨Lib.hid ((Below.refl _ _).alloc (Nat.le_refl _) _), 0, fun _ => 0, Nat.zero_le _, rfl, Lib.hid (MapS.made w), Lib.hid (fun x => by simp), Lib.hid (fun x => Nat.le_refl _)⟩
  case round =>
    obtain ⟨hB, k, c, hk, rfl, hM, hC, hL⟩ := hrel
    by_cases hlt : k < ids.length
    · obtain ⟨g, o, c', e, _, hg⟩ := Hi.out.pos (by omega)
      cases e
      have p0 := StrsR.cell (Hi.out.below hB.out (Nat.le_refl _)) k hlt
      have hlen := His.out _ (getD_mem ids [] k hlt)
      have htk := take_getD ids [] k hlt
      obtain ⟨x, hx⟩ : ∃ x, x = ids.getD k ([] : Bs) := ⟨_, rfl⟩
      rw [← hx] at p0 hlen htk
      unfold SV at p0
      have hlook := hM.out.look Tryz.underlying69 (zeroInt wr) (x := x) (by unfold maxLen; omega)
      rw [timesF_get] at hlook
      have hle := hL.out x
      obtain ⟨q, hq⟩ : ∃ q, q = c x := ⟨_, rfl⟩
      rw [← hq] at hlook hle
      have hC2 : ∀ y, incC c x y = 0 ↔ y ∉ ids.take (k + 1) := fun y => by
        rw [htk]
        unfold incC
        by_cases e : y = x
        · rw [if_pos e, e]; simp
        · rw [if_neg e, hC.out y]; simp [e]
      have hL2 : ∀ y, incC c x y ≤ k + 1 := fun y => by
        unfold incC
        by_cases e : y = x
        · rw [if_pos e, ← hq]; omega
        · rw [if_neg e]; have := hL.out y; omega
      have HQ := Lib.hid hq; have HC2 := Lib.hid hC2; have HL2 := Lib.hid hL2; have HLen := Lib.hid hlen
      clear hq hC2 hL2 htk hx hC hL
      go_wp2_with (at_mapUpdate; refine wpList_putS rfl _ _ _ 69 3 rfl Tryz.underlying69 w.heap.size k _ x (.int .i64 ((q : Int) + 1)) rfl rfl rfl hM.out (by unfold maxLen; omega) (by unfold maxLen; omega) ?_)
      intro w1 hM1 hg1
      rw [HQ.out, timesF_inc] at hM1
      have HM1 := Lib.hid hM1
      have HB1 := Lib.hid (hB.out.grown hg1 hB.out.size (fun j e => by cases e; exact Nat.le_refl _))
      clear hM1 hg1 p0 hlook
      go_wp2_with fail
      go_roundw
      case rel => exact ⟨HB1, k + 1, _, hlt, by go_num, HM1, HC2, HL2⟩
      case measure => simp [intOf]; omega
    · obtain rfl : k = ids.length := by omega
      rw [List.take_length] at hC
      go_upto_region 9 with fail
      clear hlt hk hL
      obtain ⟨n, hn⟩ : ∃ n, n = ids.length := ⟨_, rfl⟩
      rw [← hn] at hM
      clear hn
      obtain ⟨w0, hw0⟩ : ∃ w0, w0 = wr := ⟨_, rfl⟩
      rw [← hw0] at hM hB ⊢
      clear hw0
      have HN0 : Hid (NewH (w.heap.size + 1) w0 (.slice none 0 0) (pickL (l.take 0) ids)) := Lib.hid (OwK.nil _ _ _ _ _)
      go_loopw [25, 8] (fun i z wr => Hid (Below w.heap.size w wr) ∧ Hid (MapS wr w.heap.size n (timesF c)) ∧ ∃ k : Nat, k ≤ l.length ∧ i = .int .i64 k ∧ Hid (NewH (w.heap.size + 1) wr z (pickL (l.take k) ids))) (fun i _ _ => l.length - (intOf i).toNat)
      case atStart => exact ⟨hB, hM, 0, Nat.zero_le _, rfl, HN0⟩
      case round =>
        obtain ⟨hB, hM, k, hk, rfl, hN⟩ := hrel
        by_cases hlt : k < l.length
        · obtain ⟨g, o, c', e, _, hg⟩ := Hx.out.pos (by omega)
          cases e
          obtain ⟨p0, p1, p2⟩ := HldsR.cells (Hx.out.below hB.out (Nat.le_refl _)) k hlt
          have hlen := Hs.out _ (getD_mem l noHld k hlt)
          have hsn := pickL_snoc (ids := ids) hlt
          have hpl := pickL_len (l.take k) ids
          have hpl2 := List.length_take_le k l
          obtain ⟨x, hx⟩ : ∃ x, x = l.getD k noHld := ⟨_, rfl⟩
          rw [← hx] at p0 p1 p2 hlen hsn
          obtain ⟨xi, xk, xd⟩ := x
          unfold SV at p0 p2
          simp only at p0 p1 p2 hlen hsn
          have hBM : w.heap.size < wr.heap.size := hM.out.lt
          have hPL : (pickL (l.take k) ids).length + 1 ≤ 1000000 := by omega
          obtain ⟨w1, hw1⟩ : ∃ w1, w1 = wr.alloc (.cells #[.string ⟨xi.toArray⟩, .int .i64 xk, .string ⟨xd.toArray⟩] 54) := ⟨_, rfl⟩
          have hb1 : Below wr.heap.size wr w1 := by rw [hw1]; exact below_new wr _
          have hk1 : w1.heap[wr.heap.size]? = some (.cells #[.string ⟨xi.toArray⟩, .int .i64 xk, .string ⟨xd.toArray⟩] 54 (0, 0)) := by rw [hw1]; exact heap_alloc_new wr _
          have hM1 := hM.out.below hb1 hM.out.lt
          have hlook := hM1.look Tryz.underlying69 (zeroInt w1) (x := xi) (by unfold maxLen; omega)
          rw [timesF_get] at hlook
          have hN1 : NewH (w.heap.size + 1) w1 _ _ := OwK.below hN.out hb1 (Nat.le_refl _)
          have hCx := hC.out xi
          obtain ⟨q, hq⟩ : ∃ q, q = c xi := ⟨_, rfl⟩
          rw [← hq] at hlook hCx
          have hz1 : wr.heap.size < w1.heap.size := by rw [hw1]; simp
          have HW1 := Lib.hid hw1; have HM1 := Lib.hid hM1; have HB1 := Lib.hid (hB.out.trans (hb1.mono hB.out.size)); have HK1 := Lib.hid hk1; have HN1 := Lib.hid hN1
          have HL := Lib.hid hlook; have HSn := Lib.hid hsn; have HBM := Lib.hid hBM; have HPL := Lib.hid hPL; have HZ := Lib.hid hz1
          clear hw1 hb1 hk1 hM1 hlook hlen hB hM hBM hsn hx hpl hpl2 hPL hz1 hq hN hN1
          go_upto_region 11 with fail
          rw [← HW1.out]
          clear p0 p1 p2
          have q0 : w1.cell? ⟨wr.heap.size, 0, none⟩ = some (.string ⟨xi.toArray⟩) := (cell_of_row w1 _ 0 _ _ _ HK1.out).trans rfl
          have q1 : w1.cell? ⟨wr.heap.size, 1, none⟩ = some (.int .i64 xk) := (cell_of_row w1 _ 1 _ _ _ HK1.out).trans rfl
          have q2 : w1.cell? ⟨wr.heap.size, 2, none⟩ = some (.string ⟨xd.toArray⟩) := (cell_of_row w1 _ 2 _ _ _ HK1.out).trans rfl
          have hl2 := HL.out
          by_cases hm : xi ∈ ids
          · have h0 : ¬ q = 0 := fun e => hCx.1 e hm
            have h1 : (0 : Int) < (q : Int) := by omega
            have HS := Lib.hid (HSn.out.trans (if_pos hm))
            clear hCx HSn hm h0
            go_wp2_with (at_builtin; refine wpList_one heldK rfl _ _ rfl (w.heap.size + 1) u8 (pickL (l.take k) ids) ⟨xi, xk, xd⟩ _ rfl rfl rfl HN1.out ?c1 (by decide) ?c2 ?_)
            case c1 => exact HPL.out
            case c2 => have := HBM.out; have := HZ.out; omega
            intro z' w2 hN2 hb2
            have HN2 := Lib.hid hN2
            have HB2 := Lib.hid (HB1.out.trans (hb2.mono (Nat.le_succ _)))
            have HM2 := Lib.hid (HM1.out.below hb2 (Nat.lt_succ_self _))
            clear hN2 hb2 q0 q1 q2 hl2
            go_wp2_with fail
            go_roundw
            case rel => exact ⟨HB2, HM2, k + 1, hlt, by go_num, Lib.hid (by rw [HS.out]; exact HN2.out)⟩
            case measure => simp [intOf]; omega
          · have h0 : q = 0 := hCx.2 hm
            have HS := Lib.hid (HSn.out.trans (if_neg hm))
            subst h0
            clear hCx HSn hm
            go_wp2_with fail
            go_roundw
            case rel => exact ⟨HB1, HM1, k + 1, hlt, by go_num, Lib.hid (by rw [HS.out]; exact HN1.out)⟩
            case measure => simp [intOf]; omega
        · obtain rfl : k = l.length := by omega
          rw [List.take_length] at hN
          go_wp2_with fail
          go_ret
          exact ⟨_, rfl, OwK.mono hN.out (Nat.le_succ _), hB.out⟩
end Go.Proofs.YtialgldmogigfaaGreatDoor


namespace Go.Proofs.YtialgldmogigfaaGreatDoor
open Go Go.RowKit Go.Maps
def NewS (B : Nat) (w : World) (v : Value) (l : List Bs) : Prop := OwK 9 1 strC w B v l
theorem NewS.rd {B : Nat} {w : World} {v : Value} {l : List Bs} (h : NewS B w v l) : StrsR w v l := OwK.rd strC_len h
def WithPost (l : List Bs) (w : World) (e : Ending) (w' : World) : Prop := ∃ v, e = .returned v ∧ NewS w.heap.size w' v l ∧ Below w.heap.size w w'
theorem withL_end {s : Bs} : ∀ {a b : List Bs}, (∀ x ∈ a, x < s) → withL (a ++ b) s = a ++ withL b s
  | [], _, _ => rfl
  | x :: a, b, h => by
    have h1 := h x (by simp)
    show (if s < x then _ else if s = x then _ else x :: withL (a ++ b) s) = _
    rw [if_neg (fun h2 => lt_irr _ (lt_tr h1 h2)), if_neg (fun e => lt_irr s (by rw [← e] at h1; exact h1)), withL_end fun y hy => h y (List.mem_cons_of_mem _ hy)]; rfl
theorem withL_in {s : Bs} : ∀ {a b : List Bs}, (∃ x ∈ a, ¬ x < s) → withL (a ++ b) s = withL a s ++ b
  | [], _, h => by obtain ⟨x, hx, _⟩ := h; cases hx
  | x :: a, b, h => by
    show (if s < x then s :: x :: (a ++ b) else if s = x then x :: (a ++ b) else x :: withL (a ++ b) s) = (if s < x then s :: x :: a else if s = x then x :: a else x :: withL a s) ++ b
    by_cases h1 : s < x
    · rw [if_pos h1, if_pos h1]; rfl
    · rw [if_neg h1, if_neg h1]
      by_cases h2 : s = x
      · rw [if_pos h2, if_pos h2]; rfl
      · rw [if_neg h2, if_neg h2, withL_in]
        · rfl
        · obtain ⟨y, hy, hn⟩ := h
          rcases List.mem_cons.1 hy with rfl | hy
          · rcases lt_cases s y with h | h | h
            · exact absurd h h1
            · exact absurd h h2
            · exact absurd h hn
          · exact ⟨y, hy, hn⟩
/-- What is out, behind k of them. -/
structure WithI (l : List Bs) (s : Bs) (k : Nat) (d : Bool) (out : List Bs) : Prop where
  no : d = false → (∀ x ∈ l.take k, x < s) ∧ out = l.take k
  yes : d = true → (∃ x ∈ l.take k, ¬ x < s) ∧ out = withL (l.take k) s
theorem WithI.len {l : List Bs} {s : Bs} {k : Nat} {d : Bool} {out : List Bs} (h : WithI l s k d out) : out.length ≤ l.length + 1 := by
  have hw : ∀ a : List Bs, (withL a s).length ≤ a.length + 1 := fun a => by
    induction a with
    | nil => exact Nat.le_refl _
    | cons x a ih =>
      unfold withL
      by_cases h1 : s < x
      · rw [if_pos h1]; exact Nat.le_refl _
      · rw [if_neg h1]
        by_cases h2 : s = x
        · rw [if_pos h2]; exact Nat.le_succ _
        · rw [if_neg h2]; simpa using ih
  have hk : (l.take k).length ≤ l.length := by rw [List.length_take]; omega
  cases d with
  | false => rw [(h.no rfl).2]; omega
  | true => rw [(h.yes rfl).2]; have := hw (l.take k); omega
theorem WithI.low {l : List Bs} {s : Bs} {k : Nat} {out : List Bs} (h : WithI l s k false out) (hk : k < l.length) (hx : l.getD k [] < s) : WithI l s (k + 1) false (out ++ [l.getD k []]) := by
  obtain ⟨h1, rfl⟩ := h.no rfl
  refine ⟨fun _ => ?_, fun h => by cases h⟩
  rw [take_getD l [] k hk]
  exact ⟨fun x hm => (List.mem_append.1 hm).elim (h1 x) (fun h => by rw [List.mem_singleton.1 h]; exact hx), rfl⟩
theorem WithI.hit {l : List Bs} {s : Bs} {k : Nat} {out : List Bs} (h : WithI l s k false out) (hk : k < l.length) (hx : l.getD k [] = s) : WithI l s (k + 1) true (out ++ [s]) := by
  obtain ⟨h1, rfl⟩ := h.no rfl
  refine ⟨(fun h => by cases h), fun _ => ?_⟩
  rw [take_getD l [] k hk, hx]
  refine ⟨⟨s, by simp, lt_irr s⟩, ?_⟩
  rw [withL_end h1]
  unfold withL
  rw [if_neg (lt_irr s), if_pos rfl]
theorem WithI.high {l : List Bs} {s : Bs} {k : Nat} {out : List Bs} (h : WithI l s k false out) (hk : k < l.length) (hx : s < l.getD k []) : WithI l s (k + 1) true (out ++ [s] ++ [l.getD k []]) := by
  obtain ⟨h1, rfl⟩ := h.no rfl
  refine ⟨(fun h => by cases h), fun _ => ?_⟩
  rw [take_getD l [] k hk]
  refine ⟨⟨_, by simp, fun h => lt_irr _ (lt_tr h hx)⟩, ?_⟩
  rw [withL_end h1]
  unfold withL
  rw [if_pos hx, List.append_assoc]; rfl
theorem WithI.behind {l : List Bs} {s : Bs} {k : Nat} {out : List Bs} (h : WithI l s k true out) (hk : k < l.length) : WithI l s (k + 1) true (out ++ [l.getD k []]) := by
  obtain ⟨⟨x, hx, hn⟩, rfl⟩ := h.yes rfl
  refine ⟨(fun h => by cases h), fun _ => ?_⟩
  rw [take_getD l [] k hk]
  exact ⟨⟨x, by simp [hx], hn⟩, (withL_in ⟨x, hx, hn⟩).symm⟩
theorem WithI.up {l : List Bs} {s : Bs} {k : Nat} {out : List Bs} (h : WithI l s k true out) (hr : Rising l) (hk : k < l.length) : s < l.getD k [] := by
  obtain ⟨⟨x, hx, hn⟩, -⟩ := h.yes rfl
  obtain ⟨j, hj, rfl⟩ := List.mem_iff_getElem.1 hx
  rw [List.length_take] at hj
  rw [List.getElem_take] at hn
  have h1 : l[j] < l.getD k [] := by
    rw [List.getD_eq_getElem?_getD, List.getElem?_eq_getElem hk]
    exact List.pairwise_iff_getElem.1 hr j k (by omega) hk (by omega)
  rcases lt_cases l[j] s with h | h | h
  · exact absurd h hn
  · rw [← h]; exact h1
  · exact lt_tr h h1
theorem WithI.done {l : List Bs} {s : Bs} {out : List Bs} (h : WithI l s l.length true out) : out = withL l s := by rw [(h.yes rfl).2, List.take_length]
theorem WithI.rest {l : List Bs} {s : Bs} {out : List Bs} (h : WithI l s l.length false out) : out ++ [s] = withL l s := by
  obtain ⟨h1, rfl⟩ := h.no rfl
  rw [List.take_length] at h1 ⊢
  have := withL_end (b := []) h1
  rw [List.append_nil] at this
  rw [this]; rfl
theorem less_yes {x s : Bs} (h : x < s) : Op.bytesLess x s = true := by rw [Go.Proofs.bytesLess_eq]; exact decide_eq_true h
theorem less_no {x s : Bs} (h : ¬ x < s) : Op.bytesLess x s = false := by rw [Go.Proofs.bytesLess_eq]; exact decide_eq_false h
set_option maxHeartbeats 4000000 in
set_option maxRecDepth 100000 in
theorem With_any {w : World} {v : Value} {l : List Bs} (h : StrsR w v l) (hl : l.length ≤ 900000) (hr : Rising l) (s : Bs) :
    Calls Tryz.prog 44 #[v, .string ⟨s.toArray⟩] w (WithPost (withL l s) w) := by
  obtain ⟨A, c, rfl⟩ := h.shape
  have Hx := Lib.hid h; have Hr := Lib.hid hr; clear h hr
  go_enter Tryz.func44, Tryz.ntmps44
  go_wp2_with fail
  go_loopw [7, 5, 6] (fun i z b wr => ∃ (k : Nat) (out : List Bs) (d : Bool), k ≤ l.length ∧ i = .int .i64 k ∧ b = .bool d ∧ Hid (Below w.heap.size w wr) ∧ Hid (NewS w.heap.size wr z out) ∧ Hid (WithI l s k d out)) (fun i _ _ _ => l.length - (intOf i).toNat)
  case atStart => exact ⟨0, [], false, Nat.zero_le _, rfl, rfl, Lib.hid (Below.refl _ _), Lib.hid (OwK.nil _ _ _ _ _), Lib.hid ⟨fun _ => ⟨fun x hx => (by cases hx), rfl⟩, fun h => by cases h⟩⟩
  case round =>
    obtain ⟨k, out, d, hk, rfl, rfl, hB, hN, hI⟩ := hrel
    have hol := hI.out.len
    by_cases hlt : k < l.length
    · obtain ⟨g, o, c', e, _, hg⟩ := Hx.out.pos (by omega)
      cases e
      have p0 := StrsR.cell (Hx.out.below hB.out (Nat.le_refl _)) k hlt
      have i0 : d = false → l.getD k [] < s → WithI l s (k + 1) false (out ++ [l.getD k []]) := fun e hx => by subst e; exact hI.out.low hlt hx
      have i1 : d = false → l.getD k [] = s → WithI l s (k + 1) true (out ++ [s]) := fun e hx => by subst e; exact hI.out.hit hlt hx
      have i2 : d = false → s < l.getD k [] → WithI l s (k + 1) true (out ++ [s] ++ [l.getD k []]) := fun e hx => by subst e; exact hI.out.high hlt hx
      have i3 : d = true → WithI l s (k + 1) true (out ++ [l.getD k []]) ∧ s < l.getD k [] := fun e => by subst e; exact ⟨hI.out.behind hlt, hI.out.up Hr.out hlt⟩
      obtain ⟨x, hx⟩ : ∃ x, x = l.getD k ([] : Bs) := ⟨_, rfl⟩
      rw [← hx] at p0 i0 i1 i2 i3
      unfold SV at p0
      have HOL := Lib.hid hol
      have HXE := Lib.hid hx
      clear hx hI hol
      cases d with
      | false =>
        clear i3
        rcases lt_cases x s with hc | hc | hc
        · have HI := Lib.hid (i0 rfl hc)
          have hle := less_yes hc
          have hne : ¬ x = s := fun e => lt_irr s (by rw [e] at hc; exact hc)
          have hn2 : (x == s) = false := by simpa using hne
          have hn3 : (x != s) = true := by simpa using hne
          clear i0 i1 i2 hc
          go_wp2_with (at_builtin; refine wpList_one strK rfl _ _ rfl w.heap.size u5 out x _ rfl rfl rfl hN.out ?c1 (by decide) ?c2 ?_)
          case c1 => have := HOL.out; omega
          case c2 => exact hB.out.size
          intro z' w2 hN2 hb2
          have HN2 := Lib.hid hN2
          have HB2 := Lib.hid (hB.out.trans hb2)
          clear hN2 hb2
          go_wp2_with fail
          go_roundw
          case rel => exact ⟨k + 1, _, false, hlt, by go_num, rfl, HB2, HN2, HI⟩
          case measure => simp [intOf]; omega
        · have HI := Lib.hid (i1 rfl hc)
          subst hc
          have hle := less_no (lt_irr x)
          clear i0 i1 i2
          go_wp2_with (at_builtin; refine wpList_one strK rfl _ _ rfl w.heap.size u5 out x _ rfl rfl rfl hN.out ?c1 (by decide) ?c2 ?_)
          case c1 => have := HOL.out; omega
          case c2 => exact hB.out.size
          intro z' w2 hN2 hb2
          have HN2 := Lib.hid hN2
          have HB2 := Lib.hid (hB.out.trans hb2)
          clear hN2 hb2
          have p0 := StrsR.cell (Hx.out.below HB2.out (Nat.le_refl _)) k hlt
          rw [← HXE.out] at p0
          unfold SV at p0
          go_wp2_with fail
          go_roundw
          case rel => exact ⟨k + 1, _, true, hlt, by go_num, rfl, HB2, HN2, HI⟩
          case measure => simp [intOf]; omega
        · have HI := Lib.hid (i2 rfl hc)
          have hle := less_no (fun h => lt_irr _ (lt_tr hc h))
          have hne : ¬ x = s := fun e => lt_irr s (by rw [e] at hc; exact hc)
          have hn2 : (x == s) = false := by simpa using hne
          have hn3 : (x != s) = true := by simpa using hne
          clear i0 i1 i2 hc
          go_wp2_with (at_builtin; refine wpList_one strK rfl _ _ rfl w.heap.size u5 out s _ rfl rfl rfl hN.out ?c1 (by decide) ?c2 ?_)
          case c1 => have := HOL.out; omega
          case c2 => exact hB.out.size
          intro z1 w1 hN2 hb2
          have HN2 := Lib.hid hN2
          have HB2 := Lib.hid (hB.out.trans hb2)
          clear hN2 hb2
          have p0 := StrsR.cell (Hx.out.below HB2.out (Nat.le_refl _)) k hlt
          rw [← HXE.out] at p0
          unfold SV at p0
          go_wp2_with (at_builtin; refine wpList_one strK rfl _ _ rfl w.heap.size z1 (out ++ [s]) x _ rfl rfl rfl HN2.out ?c1 (by decide) ?c2 ?_)
          case c1 => have := HOL.out; simp; omega
          case c2 => exact HB2.out.size
          intro z' w2 hN2 hb2
          have HN3 := Lib.hid hN2
          have HB3 := Lib.hid (HB2.out.trans hb2)
          clear hN2 hb2
          go_wp2_with fail
          go_roundw
          case rel => exact ⟨k + 1, _, true, hlt, by go_num, rfl, HB3, HN3, Lib.hid (by simpa using HI.out)⟩
          case measure => simp [intOf]; omega
      | true =>
        obtain ⟨hi, hc⟩ := i3 rfl
        have HI := Lib.hid hi
        have hne : ¬ x = s := fun e => lt_irr s (by rw [e] at hc; exact hc)
        have hn2 : (x == s) = false := by simpa using hne
        have hn3 : (x != s) = true := by simpa using hne
        clear i0 i1 i2 i3 hi hc
        go_wp2_with (at_builtin; refine wpList_one strK rfl _ _ rfl w.heap.size u5 out x _ rfl rfl rfl hN.out ?c1 (by decide) ?c2 ?_)
        case c1 => have := HOL.out; omega
        case c2 => exact hB.out.size
        intro z' w2 hN2 hb2
        have HN2 := Lib.hid hN2
        have HB2 := Lib.hid (hB.out.trans hb2)
        clear hN2 hb2
        go_wp2_with fail
        go_roundw
        case rel => exact ⟨k + 1, _, true, hlt, by go_num, rfl, HB2, HN2, HI⟩
        case measure => simp [intOf]; omega
    · obtain rfl : k = l.length := by omega
      cases d with
      | true =>
        have HE := Lib.hid hI.out.done
        clear hI
        go_wp2_with fail
        go_ret
        rw [← HE.out]
        exact ⟨_, rfl, hN.out, hB.out⟩
      | false =>
        have HE := Lib.hid hI.out.rest
        have HOL := Lib.hid hol
        clear hI hol
        go_wp2_with (at_builtin; refine wpList_one strK rfl _ _ rfl w.heap.size u5 out s _ rfl rfl rfl hN.out ?c1 (by decide) ?c2 ?_)
        case c1 => have := HOL.out; omega
        case c2 => exact hB.out.size
        intro z' w2 hN2 hb2
        have HN2 := Lib.hid hN2
        have HB2 := Lib.hid (hB.out.trans hb2)
        clear hN2 hb2
        go_wp2_with fail
        go_ret
        rw [← HE.out]
        exact ⟨_, rfl, HN2.out, HB2.out⟩
end Go.Proofs.YtialgldmogigfaaGreatDoor


namespace Go.Proofs.YtialgldmogigfaaGreatDoor
open Go Go.RowKit Go.Maps
theorem info_strW : ∃ i, Tryz.prog.info? 9 = some i ∧ i.zero = some (.string ⟨#[]⟩) ∧ i.size = 1 ∧ i.bytes = 16 := info_parts infoW
def Win (B : Nat) (w : World) (v : Value) (l : List Bs) : Prop :=
  (∃ A, v = .slice A 0 0 ∧ l = []) ∨ ∃ g o c cur, v = .slice (some ⟨g, o, none⟩) l.length c ∧ B ≤ g ∧ w.heap[g]? = some (.cells cur 9 (0, 0)) ∧ l.length ≤ c ∧ c ≤ maxLen ∧ o + c ≤ cur.size ∧ ∀ j, j < l.length → cur[o + j]? = some (SV (l.getD j []))
theorem Win.shape {B : Nat} {w : World} {v : Value} {l : List Bs} (h : Win B w v l) : ∃ A c, v = .slice A l.length c := by
  rcases h with ⟨A, rfl, rfl⟩ | ⟨g, o, c, cur, rfl, _⟩
  · exact ⟨A, 0, rfl⟩
  · exact ⟨_, _, rfl⟩
theorem Win.but {B : Nat} {w w' : World} {v : Value} {l : List Bs} {S : Nat → Prop} (h : Win B w v l) (hb : But S w w') (hn : ∀ g, v.ownBlock = some g → ¬ S g) : Win B w' v l := by
  rcases h with ⟨A, rfl, rfl⟩ | ⟨g, o, c, cur, rfl, h1, h2, r⟩
  · exact .inl ⟨A, rfl, rfl⟩
  · exact .inr ⟨g, o, c, cur, rfl, h1, (hb.block g (lt_heap h2) (hn g rfl)).trans h2, r⟩
theorem Win.below {B b : Nat} {w w' : World} {v : Value} {l : List Bs} (h : Win B w v l) (hb : Below b w w') (hlt : w.heap.size ≤ b) : Win B w' v l := by
  rcases h with ⟨A, rfl, rfl⟩ | ⟨g, o, c, cur, rfl, h1, h2, r⟩
  · exact .inl ⟨A, rfl, rfl⟩
  · exact .inr ⟨g, o, c, cur, rfl, h1, (hb.block g (Nat.lt_of_lt_of_le (lt_heap h2) hlt)).trans h2, r⟩
theorem Win.of_own {B : Nat} {w : World} {v : Value} {l : List Bs} (h : NewS B w v l) : Win B w v l := by
  have hr := h.rd
  have hl := h.1
  rcases h.2 with ⟨rfl, h0⟩ | ⟨g, cap, cur, rfl, hbg, hg, hnc, hcm, hcs, _⟩
  · exact .inl ⟨_, rfl, List.eq_nil_of_length_eq_zero h0⟩
  · refine .inr ⟨g, 0, cap, cur, rfl, hbg, hg, hnc, hcm, by omega, fun j hj => ?_⟩
    have h1 := StrsR.cell hr j hj
    rw [cell_of_row w g _ cur _ _ hg] at h1
    exact h1
/-- The first one. -/
theorem Win.first {B : Nat} {w : World} {v : Value} {x : Bs} {l : List Bs} (h : Win B w v (x :: l)) :
    ∃ g o c, v = .slice (some ⟨g, o, none⟩) (l.length + 1) c ∧ w.cell? ⟨g, o, none⟩ = some (SV x) := by
  rcases h with ⟨A, rfl, h⟩ | ⟨g, o, c, cur, rfl, _, h2, _, _, _, hc⟩
  · cases h
  · have := hc 0 (by simp)
    exact ⟨g, o, c, rfl, (cell_of_row w g o cur _ _ h2).trans (by simpa using this)⟩
/-- The others. -/
theorem Win.rest {B : Nat} {w : World} {v : Value} {x : Bs} {l : List Bs} (h : Win B w v (x :: l)) :
    ∃ v1, (∀ W, (Instr.sliceAt 23 v (some (.int .i64 1)) none none).run Tryz.prog W = .ok v1 W) ∧ Win B w v1 l ∧ v1.ownBlock = v.ownBlock := by
  rcases h with ⟨A, rfl, h⟩ | ⟨g, o, c, cur, rfl, h1, h2, h3, h4, h5, hc⟩
  · cases h
  · simp only [List.length_cons] at h3
    obtain ⟨c', rfl⟩ : ∃ c', c = c' + 1 := ⟨c - 1, by omega⟩
    refine ⟨.slice (if c' + 1 = 1 then some ⟨g, o, none⟩ else some ⟨g, o + 1, none⟩) l.length c', fun W => ?_, ?_, ?_⟩
    · have he : Tryz.prog.underlying 23 = some (.slice (Tryz.prog.elem 23)) := by kernel_rfl
      have hs : ∀ W, (sizeOf (Tryz.prog.elem 23)).run Tryz.prog W = .ok 1 W := fun W => by kernel_rfl
      rw [run_sliceAt_slice W 23 _ _ _ _ he, run_slice_l W 23 _ _ _ he .i64 1 (by omega) (by simp only [List.length_cons]; omega), hs]
      simp [Result.andThen, sliced, Addr.add]
    · by_cases h0 : c' = 0
      · subst h0
        obtain rfl : l = [] := List.eq_nil_of_length_eq_zero (by omega)
        exact .inl ⟨_, rfl, rfl⟩
      · rw [if_neg (by omega)]
        refine .inr ⟨g, o + 1, c', cur, rfl, h1, h2, by omega, by omega, by omega, fun j hj => ?_⟩
        have := hc (j + 1) (by simpa using hj)
        rw [show o + 1 + j = o + (j + 1) by omega, this]; rfl
    · by_cases h0 : c' + 1 = 1
      · rw [if_pos h0]; rfl
      · rw [if_neg h0]; rfl
theorem wpList_rest {ops : Array Oper} {rest : List Oper} {o : Oper} {a : Act} {w : World} {Q : Exit → Act → World → Prop} (hgd : o.guard = none) (s y : Operand)
    (ho : o.op = .slice 23 s (some y) none none) (hy : a.eval y = .int .i64 1) (v v1 : Value) (hs : a.eval s = v)
    (hr : ∀ W, (Instr.sliceAt 23 v (some (.int .i64 1)) none none).run Tryz.prog W = .ok v1 W)
    (kk : wpList Tryz.prog ops Q rest (a.put o.dst v1) w) : wpList Tryz.prog ops Q (o :: rest) a w := by
  refine wpList_plain hgd fun K hK => ?_
  unfold Oper.wp
  simp [execOp, ho, hs, hy, hr, Result.andThen]
  exact hK _ _ kk
/-- One more at the end. -/
theorem Win.push {B : Nat} {w : World} {v : Value} {l : List Bs} (h : Win B w v l) (hl : l.length + 1 ≤ 1000000000) (hb : B ≤ w.heap.size) (x : Bs) (ty : TypeId) :
    ∃ v' w', (Builtin.append_ #[23, 23] ty #[v, .slice (some ⟨w.heap.size, 0, none⟩) 1 1]).run Tryz.prog (w.alloc (.cells #[.string ⟨x.toArray⟩] 9)) = .ok v' w' ∧
      Win B w' v' (l ++ [x]) ∧ But (fun k => v.ownBlock = some k) w w' ∧ (∀ g, v'.ownBlock = some g → v.ownBlock = some g ∨ (w.heap.size ≤ g ∧ g < w'.heap.size)) ∧ Below B w w' := by
  obtain ⟨i, hi, hz, hsz, hby⟩ := info_strW
  obtain ⟨W, hW⟩ : ∃ W, W = w.alloc (.cells #[.string ⟨x.toArray⟩] 9) := ⟨_, rfl⟩
  have hbW : Below w.heap.size w W := by rw [hW]; exact below_new w _
  have hsW : W.heap.size = w.heap.size + 1 := by rw [hW]; simp
  have hcW : ∀ j u, [Value.string ⟨x.toArray⟩][j]? = some u → W.cell? ((⟨w.heap.size, 0, none⟩ : Addr).add j) = some u := fun j u hj => by
    rw [add_none', Nat.zero_add, hW, cell_of_row (w.alloc _) w.heap.size j _ _ _ (heap_alloc_new w _)]
    simpa using hj
  have hsrc : Src Tryz.prog i.size 23 (.slice (some ⟨w.heap.size, 0, none⟩) 1 1) 1 [.string ⟨x.toArray⟩] W :=
    Src.ofSlice W Tryz.underlying23 _ 1 1 _ (by rw [hsz]; rfl) hcW (by simp [Value.oneCell'])
  rw [← hW]
  have grow : ∀ (base : Option Addr) (sCap : Nat), v = .slice base l.length sCap → sCap < l.length + 1 → ((Builtin.firstCells i.size l.length (.slice base l.length sCap)).run Tryz.prog W.drew = .ok (l.map SV).toArray W.drew) →
      ∃ v' w', (Builtin.append_ #[23, 23] ty #[v, .slice (some ⟨w.heap.size, 0, none⟩) 1 1]).run Tryz.prog W = .ok v' w' ∧
      Win B w' v' (l ++ [x]) ∧ But (fun k => v.ownBlock = some k) w w' ∧ (∀ g, v'.ownBlock = some g → v.ownBlock = some g ∨ (w.heap.size ≤ g ∧ g < w'.heap.size)) ∧ Below B w w' := by
    intro base sCap hv hlt hold
    subst hv
    have hr := run_append_grow_src W 23 23 ty 9 i _ Tryz.underlying23 hi hz base l.length sCap _ hold _ 1 _ hsrc hlt (by omega) (growslice_fits hlt (by rw [hby]; omega))
    have hge := grownCap_ge W (l.length + 1) sCap 9
    have hcm := grownCap_le_maxLen W (l.length + 1) sCap 9 (by unfold maxLen; omega)
    have hbl : Below W.heap.size W (W.drew.alloc (.cells ((l.map SV ++ [Value.string ⟨x.toArray⟩]).toArray ++ Builtin.zeroCells (Value.string ⟨#[]⟩).cells (grownCap W (l.length + 1) sCap 9 - (l.length + 1))) 9)) :=
      (show Below W.heap.size W W.drew from ⟨rfl, rfl, rfl, Nat.le_refl _, fun _ _ => rfl⟩).alloc (Nat.le_refl _) _
    have hbw := hbW.trans (hbl.mono (by omega))
    refine ⟨_, _, hr, .inr ⟨W.heap.size, 0, _, _, by rw [List.length_append]; rfl, by omega, heap_alloc_new W.drew _, by rw [List.length_append]; exact hge, hcm, ?_, fun j hj => ?_⟩, But.of_new hbw, fun g hg => .inr ?_, hbw.mono hb⟩
    · simp only [Array.size_append, List.size_toArray, size_zeroCells, List.length_append, List.length_map, List.length_singleton]
      have : (Value.string ⟨#[]⟩).cells.size = 1 := rfl
      rw [this]; omega
    · rw [List.length_append, List.length_singleton] at hj
      rw [Nat.zero_add, Array.getElem?_append_left (by simpa using hj), List.getElem?_toArray]
      rcases Nat.lt_or_ge j l.length with h1 | h1
      · rw [List.getElem?_append_left (by simpa using h1), List.getD_eq_getElem?_getD, List.getElem?_append_left h1, List.getElem?_map, List.getElem?_eq_getElem h1]; rfl
      · obtain rfl : j = l.length := by omega
        rw [List.getElem?_append_right (by simp), List.getD_eq_getElem?_getD, List.getElem?_append_right (Nat.le_refl _)]
        simp [SV]
    · cases hg; exact ⟨by show w.heap.size ≤ W.heap.size; omega, by simp⟩
  rcases h with ⟨A, rfl, rfl⟩ | ⟨g, o, c, cur, rfl, h1, h2, h3, h4, h5, hc⟩
  · refine grow A 0 rfl (by simp) ?_
    cases A with
    | none => exact run_firstCells_none W.drew i.size 0 0 0
    | some a => exact run_firstCells_some W.drew i.size 0 a 0 0 [] (by simp) (fun j u h => by simp at h)
  · have hg : W.heap[g]? = some (.cells cur 9 (0, 0)) := (hbW.block g (lt_heap h2)).trans h2
    by_cases hroom : l.length + 1 ≤ c
    · have hr := run_append_room_src W 23 23 ty 9 i Tryz.underlying23 hi g o l.length c _ 1 _ hsrc hroom
        (fun j hj => by
          obtain rfl : j = 0 := by simpa using hj
          rw [hsz, cell_of_row W g _ cur _ _ hg, Array.getElem?_eq_getElem (by omega)]; rfl)
        (fun j _ => frozen_of hg)
      have hlt := lt_heap h2
      have hb2 : But (fun k => (Value.slice (some ⟨g, o, none⟩) l.length c).ownBlock = some k) w (W.setCell ⟨g, o + l.length, none⟩ (.string ⟨x.toArray⟩)) := But.setCell (S := fun k => (Value.slice (some ⟨g, o, none⟩) l.length c).ownBlock = some k) (But.of_new hbW) (p := ⟨g, o + l.length, none⟩) rfl _
      have hcs : W.setCells g (o + l.length * i.size) [.string ⟨x.toArray⟩] = W.setCell ⟨g, o + l.length, none⟩ (.string ⟨x.toArray⟩) := by
        rw [hsz, Nat.mul_one]; rfl
      rw [hcs] at hr
      refine ⟨_, _, hr, .inr ⟨g, o, c, cur.setIfInBounds (o + l.length) (.string ⟨x.toArray⟩), by rw [List.length_append]; rfl, h1, ?_, by rw [List.length_append]; exact hroom, h4, by simpa using h5, fun j hj => ?_⟩, hb2, fun g' hg' => .inl hg', (hbW.mono hb).setCell (p := ⟨g, o + l.length, none⟩) h1 _⟩
      · have hgw := hg
        obtain ⟨hlt', hk⟩ := Array.getElem?_eq_some_iff.1 hgw
        show (W.heap.modify g _)[g]? = _
        rw [Array.getElem?_eq_getElem (by rw [Array.size_modify]; exact hlt'), Array.getElem_modify_self, hk]
        rfl
      · rw [List.length_append, List.length_singleton] at hj
        rcases Nat.lt_or_ge j l.length with h6 | h6
        · rw [Array.getElem?_setIfInBounds_ne (by omega), hc j h6, List.getD_eq_getElem?_getD, List.getD_eq_getElem?_getD, List.getElem?_append_left h6]
        · obtain rfl : j = l.length := by omega
          rw [Array.getElem?_setIfInBounds_self_of_lt (by omega), List.getD_eq_getElem?_getD, List.getElem?_append_right (Nat.le_refl _)]
          simp [SV]
    · refine grow _ c rfl (by omega) ?_
      refine run_firstCells_some W.drew i.size l.length _ _ _ _ (by rw [List.length_map, hsz, Nat.mul_one]) fun j u hj => ?_
      have hjl : j < l.length := by
        rw [List.getElem?_map] at hj
        rcases Nat.lt_or_ge j l.length with h6 | h6
        · exact h6
        · rw [List.getElem?_eq_none h6] at hj; cases hj
      rw [add_none', cell_of_row W.drew g _ cur _ _ hg, hc j hjl]
      rw [List.getElem?_map, List.getElem?_eq_getElem hjl] at hj
      rw [List.getD_eq_getElem?_getD, List.getElem?_eq_getElem hjl]
      exact hj
theorem wpList_push {ops : Array Oper} {rest : List Oper} {o : Oper} {a : Act} {w : World} {Q : Exit → Act → World → Prop} (hgd : o.guard = none) (s y : Operand)
    (ho : o.op = .call { callee := .builtin .append, args := #[s, y], argTypes := #[23, 23] }) (B : Nat) (v : Value) (l : List Bs) (x : Bs) (hs : a.eval s = v) (hy : a.eval y = .slice (some ⟨w.heap.size, 0, none⟩) 1 1)
    (h : Win B w v l) (hl : l.length + 1 ≤ 1000000000) (hb : B ≤ w.heap.size)
    (kk : ∀ v' w', Win B w' v' (l ++ [x]) → But (fun k => v.ownBlock = some k) w w' → (∀ g, v'.ownBlock = some g → v.ownBlock = some g ∨ (w.heap.size ≤ g ∧ g < w'.heap.size)) → Below B w w' → wpList Tryz.prog ops Q rest (a.put o.dst v') w') :
    wpList Tryz.prog ops Q (o :: rest) a (w.alloc (.cells #[.string ⟨x.toArray⟩] 9)) := by
  refine wpList_plain hgd fun K hK => ?_
  obtain ⟨v', w', h1, h2, h3, h4, h5⟩ := h.push hl hb x o.type
  unfold Oper.wp
  simp [execOp, ho, resolve, invoke, builtin, hs, hy, h1, Result.andThen]
  exact hK _ _ (kk v' w' h2 h3 h4 h5)
end Go.Proofs.YtialgldmogigfaaGreatDoor


namespace Go.Proofs.YtialgldmogigfaaGreatDoor
open Go Go.RowKit Go.Maps
section
variable {α : Type} {st t : TypeId} {k bt : Nat} {f : α → List Value}
theorem RdK.dropH {w : World} {g o n c : Nat} {l : List α} (h : RdK k f w (.slice (some ⟨g, o, none⟩) n c) l) (hn : n = l.length) (hn0 : 0 < n) (m : Nat) (hm : m ≤ n) :
    ∀ j u, ((l.drop m).flatMap f)[j]? = some u → (∀ x, (f x).length = k) → 0 < k → w.cell? ⟨g, o + m * k + j, none⟩ = some u := by
  intro j u hj hf hk
  rcases h with ⟨_, rfl⟩ | ⟨g', o', c', e, hc, hg, hcell⟩
  · simp at hn; omega
  cases e
  have hlt : j < (l.drop m).length * k := by
    rw [← flat_length hf]
    exact (List.getElem?_eq_some_iff.1 hj).1
  have hq : j / k < (l.drop m).length := Nat.div_lt_of_lt_mul (by rw [Nat.mul_comm]; exact hlt)
  have hr : j % k < k := Nat.mod_lt _ hk
  have hj2 : j / k * k + j % k = j := by rw [Nat.mul_comm]; exact Nat.div_add_mod j k
  have hx : (l.drop m)[j / k]? = some (l.drop m)[j / k] := List.getElem?_eq_getElem hq
  have h1 := flat_get hf (l.drop m) (j / k) _ hx (j % k) hr
  rw [hj2, hj] at h1
  have hq2 : m + j / k < l.length := by rw [List.length_drop] at hq; omega
  have hx2 : l[m + j / k]? = some (l.drop m)[j / k] := by rw [List.getElem_drop]; exact List.getElem?_eq_getElem hq2
  have h2 := hcell (m + j / k) hq2 _ hx2 (j % k) hr
  have e : o + (m + j / k) * k + j % k = o + m * k + j := by rw [Nat.add_mul]; omega
  rw [e] at h2
  rw [h2, ← h1]

/-- What a slice holds, behind. -/
theorem run_appH (E : ElK st t k bt f) {w : World} {base : Nat} {v : Value} {l m : List α} (h : OwK t k f w base v l) (a : Addr) (n c : Nat) (hn : n = m.length) (hs : ∀ j u, (m.flatMap f)[j]? = some u → w.cell? (a.add j) = some u) (hl : l.length + m.length ≤ 1000000) (hbt : bt ≤ 1000) (hb : base ≤ w.heap.size) (ty : TypeId) :
    ∃ v' w', (Builtin.append_ #[st, st] ty #[v, .slice (some a) n c]).run Tryz.prog w = .ok v' w' ∧ OwK t k f w' base v' (l ++ m) ∧ Below base w w' ∧ w.grownBy w' v.ownBlock := by
  subst hn
  obtain ⟨z, hz, hzs⟩ := E.info
  obtain ⟨i0, hi, hz0, hz1, hz2⟩ := info_parts hz
  obtain ⟨v', w', h1, h2, h3, _⟩ := run_append_own (P := Tryz.prog) w base st ty t i0 z k bt E.ut hi hz0 hz1 hz2 hzs E.pos v l.length (l.flatMap f) h a m.length c (m.flatMap f) (flat_length E.len m) hs
    (fun u hu => by obtain ⟨x, _, hx⟩ := List.mem_flatMap.1 hu; exact E.one x u hx) (by unfold maxLen; omega) (by
      have : (l.length + m.length) * bt ≤ 1000000 * 1000 := Nat.mul_le_mul hl hbt
      omega) hb
  refine ⟨v', w', h1, ?_, ⟨h3.os, h3.tape, h3.output, h3.size, fun j hj => h3.block j (by omega) ?_⟩, h3⟩
  · unfold OwK; rw [List.length_append, List.flatMap_append]; exact h2
  · intro e
    have := (h.lt j e.symm).1
    omega
theorem run_append_nilC {P : Program} {w : World} (base : Nat) (t ty e : TypeId) (i : TypeInfo) (size : Nat) (ht : P.underlying t = some (.slice e)) (hi : P.info? e = some i)
    (v : Value) (n c : Nat) (xs : List Value) (hown : w.ownsRow base e size v n xs) :
    (Builtin.append_ #[t, t] ty #[v, .slice none 0 c]).run P w = .ok v w := by
  rcases hown.2 with ⟨rfl, rfl⟩ | ⟨g, cap, cur, rfl, _, _, hnc, _⟩
  · simp [Builtin.append_, run_underlying ht, sizeOf, typeInfo, hi, Builtin.lenOf, Builtin.firstCells]
  · simp [Builtin.append_, run_underlying ht, sizeOf, typeInfo, hi, Builtin.lenOf, Builtin.firstCells, hnc, storeCells]
theorem run_all (E : ElK st t k bt f) {w : World} {base : Nat} {v sv : Value} {l m : List α} (h : OwK t k f w base v l) (hm : RdK k f w sv m) (hl : l.length + m.length ≤ 1000000) (hbt : bt ≤ 1000) (hb : base ≤ w.heap.size) (ty : TypeId) :
    ∃ v' w', (Builtin.append_ #[st, st] ty #[v, sv]).run Tryz.prog w = .ok v' w' ∧ OwK t k f w' base v' (l ++ m) ∧ Below base w w' ∧ w.grownBy w' v.ownBlock := by
  have hm0 := hm
  rcases hm with ⟨⟨A, c, rfl⟩, rfl⟩ | ⟨g, o, c, rfl, hc, hg, hcell⟩
  · cases A with
    | some a => exact run_appH E h a 0 c rfl (fun j u hj => by simp at hj) hl hbt hb ty
    | none =>
      obtain ⟨z, hz, hzs⟩ := E.info
      obtain ⟨i0, hi, _⟩ := info_parts hz
      exact ⟨v, w, run_append_nilC base st ty t i0 k E.ut hi v l.length c _ h, by rw [List.append_nil]; exact h, Below.refl _ _, ⟨rfl, rfl, rfl, Nat.le_refl _, fun _ _ _ => rfl⟩⟩
  · refine run_appH E h ⟨g, o, none⟩ m.length c rfl (fun j u hj => ?_) hl hbt hb ty
    rcases Nat.eq_zero_or_pos m.length with h0 | h0
    · rw [List.eq_nil_of_length_eq_zero h0] at hj; simp at hj
    · have := RdK.dropH hm0 rfl h0 0 (Nat.zero_le _) j u (by rw [List.drop_zero]; exact hj) E.len E.pos
      rw [add_none']
      simpa using this
theorem wpList_all (E : ElK st t k bt f) {ops : Array Oper} {rest : List Oper} {o : Oper} {a : Act} {w : World} {Q : Exit → Act → World → Prop} (hgd : o.guard = none) (s y : Operand)
    (ho : o.op = .call { callee := .builtin .append, args := #[s, y], argTypes := #[st, st] }) (base : Nat) (v sv : Value) (l m : List α) (hs : a.eval s = v) (hy : a.eval y = sv)
    (h : OwK t k f w base v l) (hm : RdK k f w sv m) (hl : l.length + m.length ≤ 1000000) (hbt : bt ≤ 1000) (hb : base ≤ w.heap.size)
    (kk : ∀ v' w', OwK t k f w' base v' (l ++ m) → Below base w w' → wpList Tryz.prog ops Q rest (a.put o.dst v') w') : wpList Tryz.prog ops Q (o :: rest) a w := by
  refine wpList_plain hgd fun K hK => ?_
  obtain ⟨v', w', h1, h2, h3, _⟩ := run_all E h hm hl hbt hb o.type
  unfold Oper.wp
  simp [execOp, ho, resolve, invoke, builtin, hs, hy, h1, Result.andThen]
  exact hK _ _ (kk v' w' h2 h3)
end
end Go.Proofs.YtialgldmogigfaaGreatDoor


namespace Go.Proofs.YtialgldmogigfaaGreatDoor
open Go Go.RowKit Go.Maps Go.Sort
theorem IsSet.len {src r : List Hld} (h : IsSet src r) : r.length ≤ src.length :=
  nodup_len (List.Pairwise.imp (fun {a b} (hab : a.id < b.id) (e : a = b) => lt_irr b.id (by rw [e] at hab; exact hab)) h.rise) fun x hx => findL_mem ((h.mem x).1 hx)
def obC (x : Int × Bs) : List Value := [.int .i64 x.1, SV x.2]
def ObjsR (w : World) (v : Value) (l : List (Int × Bs)) : Prop := RdK 2 obC w v l
theorem ObjsR.cells {w : World} {g o n c : Nat} {l : List (Int × Bs)} (h : ObjsR w (.slice (some ⟨g, o, none⟩) n c) l) (k : Nat) (hk : k < l.length) :
    w.cell? ⟨g, o + k * 2, none⟩ = some (.int .i64 (l.getD k (0, [])).1) ∧ w.cell? ⟨g, o + k * 2 + 1, none⟩ = some (SV (l.getD k (0, [])).2) := by
  rcases h with ⟨_, rfl⟩ | ⟨g', o', c', e, hc, hg, hcell⟩
  · simp at hk
  · cases e
    have h0 := hcell k hk _ (List.getElem?_eq_getElem hk)
    have e : l.getD k (0, []) = l[k] := by rw [List.getD_eq_getElem?_getD, List.getElem?_eq_getElem hk]; rfl
    rw [e]
    exact ⟨h0 0 (by omega), h0 1 (by omega)⟩
/-- The right ones with their names. -/
def setL (l : List (Int × Bs)) : List Hld := l.flatMap fun x => if idL x.1 x.2 = [] then [] else [⟨idL x.1 x.2, x.1, x.2⟩]
end Go.Proofs.YtialgldmogigfaaGreatDoor
