/-
  objects, agree: the objects of all names.
  A name is met: the row, and how often each was met.
  Pieces of a slice of items, made and read.
  Pieces of lists, joined: appends of what a slice holds; steps of a region that draws its order.
-/
import Derived.Test.YtbglfnbdhdbjjaaGreatDoorC14
import Derived.Deep.AppendLies
import Derived.Test.YtbglfnbdhdbjjaaGreatDoorC04
import Derived.Test.YtbglfnbdhdbjjaaGreatDoorC10
import Derived.Deep.QuietTactic
import Derived.BigQuiet
import Derived.IntWalk
import Derived.Test.YtbglfnbdhdbjjaaGreatDoorC13

namespace Go.Proofs.YtbglfnbdhdbjjaaGreatDoor
open Go Go.RowKit Go.Maps

def objV (h : Hld) : Value := .agg #[.int .i64 h.kind, .string ⟨h.data.toArray⟩]
/-- The objects of all names, as a map holds them. -/
def ofF (l : List Hld) (x : Bs) : Option Value := (findL l x).map objV
theorem zeroObj (w : World) : (zeroValue 30).run Tryz.prog w = .ok (.agg #[.int .i64 0, .string ⟨#[]⟩]) w := by kernel_rfl
theorem ofF_have {l : List Hld} {k : Nat} (hk : k < l.length) (h : ofF (l.take k) (l.getD k noHld).id ≠ none) : ofF (l.take (k + 1)) = ofF (l.take k) := by
  funext x
  unfold ofF at h ⊢
  rw [findL_snoc hk]
  cases hf : findL (l.take k) x with
  | some u => rfl
  | none =>
    by_cases e : (l.getD k noHld).id = x
    · rw [e, hf] at h; exact absurd rfl h
    · rw [if_neg e]; rfl
theorem ofF_new {l : List Hld} {k : Nat} (hk : k < l.length) (h : ofF (l.take k) (l.getD k noHld).id = none) : ofF (l.take (k + 1)) = updF (ofF (l.take k)) (l.getD k noHld).id (objV (l.getD k noHld)) := by
  funext x
  unfold ofF at h ⊢
  unfold updF
  rw [findL_snoc hk]
  by_cases e : (l.getD k noHld).id = x
  · rw [if_pos e, if_pos e.symm]
    have hn : findL (l.take k) x = none := by rw [← e]; exact Option.map_eq_none_iff.1 h
    rw [hn]; rfl
  · rw [if_neg e, if_neg (fun e' => e e'.symm), Option.or_none]

set_option maxHeartbeats 4000000 in
set_option maxRecDepth 100000 in
theorem objects_any {w : World} {v : Value} {l : List Hld} (h : HldsR w v l) (hl : l.length ≤ 1000000) (hs : ∀ x ∈ l, x.id.length ≤ 1000000) :
    Calls Tryz.prog 34 #[v] w fun e w' => e = .returned (.map (some w.heap.size)) ∧ MapS w' w.heap.size l.length (ofF l) ∧ Below w.heap.size w w' := by
  obtain ⟨A, c, rfl⟩ := h.shape
  have Hx := Lib.hid h; have Hs := Lib.hid hs; clear h hs
  go_enter Tryz.func34, Tryz.ntmps34
  have hmm := @run_makeMap Tryz.prog
  go_wp2_with fail
  clear hmm
  go_loopw [11] (fun i wr => Hid (Below w.heap.size w wr) ∧ ∃ k : Nat, k ≤ l.length ∧ i = .int .i64 k ∧ Hid (MapS wr w.heap.size k (ofF (l.take k)))) (fun i _ => l.length - (intOf i).toNat)
  case atStart => exact ⟨Lib.hid ((Below.refl _ _).alloc (Nat.le_refl _) _), 0, Nat.zero_le _, rfl, Lib.hid (MapS.made w)⟩
  case round =>
    obtain ⟨hB, k, hk, rfl, hM⟩ := hrel
    by_cases hlt : k < l.length
    · obtain ⟨g, o, c', e, _, hg⟩ := Hx.out.pos (by omega)
      cases e
      obtain ⟨p0, p1, p2⟩ := HldsR.cells (Hx.out.below hB.out (Nat.le_refl _)) k hlt
      have hlen := Hs.out _ (getD_mem l noHld k hlt)
      obtain ⟨x, hx⟩ : ∃ x, x = l.getD k noHld := ⟨_, rfl⟩
      rw [← hx] at p0 p1 p2 hlen
      obtain ⟨xi, xk, xd⟩ := x
      unfold SV at p0 p2
      simp only at p0 p1 p2 hlen
      obtain ⟨w1, hw1⟩ : ∃ w1, w1 = wr.alloc (.cells #[.string ⟨xi.toArray⟩, .int .i64 xk, .string ⟨xd.toArray⟩] 51) := ⟨_, rfl⟩
      have hb1 : Below wr.heap.size wr w1 := by rw [hw1]; exact below_new wr _
      have hk1 : w1.heap[wr.heap.size]? = some (.cells #[.string ⟨xi.toArray⟩, .int .i64 xk, .string ⟨xd.toArray⟩] 51 (0, 0)) := by rw [hw1]; exact heap_alloc_new wr _
      have hM1 := hM.out.below hb1 hM.out.lt
      have hBM : w.heap.size < wr.heap.size := hM.out.lt
      have hlook := hM1.look_ok Tryz.underlying64 (zeroObj w1) (x := xi) (by unfold maxLen; omega)
      have q0 : w1.cell? ⟨wr.heap.size, 0, none⟩ = some (.string ⟨xi.toArray⟩) := (cell_of_row w1 _ 0 _ _ _ hk1).trans rfl
      have HW1 := Lib.hid hw1; have HM1 := Lib.hid hM1; have HB1 := Lib.hid (hB.out.trans (hb1.mono hB.out.size)); have HK1 := Lib.hid hk1; have HB2 := Lib.hid hb1
      have HL := Lib.hid hlook
      have Hl := Lib.hid hlen; have HBM := Lib.hid hBM
      have hz1 : wr.heap.size < w1.heap.size := by rw [hw1]; simp
      have HZ := Lib.hid hz1
      clear hw1 hb1 hk1 hM1 hlook hlen hB hM hBM hz1 q0
      go_upto_region 5 with fail
      rw [← HW1.out]
      clear p0 p1 p2
      have q0 : w1.cell? ⟨wr.heap.size, 0, none⟩ = some (.string ⟨xi.toArray⟩) := (cell_of_row w1 _ 0 _ _ _ HK1.out).trans rfl
      cases hf : ofF (l.take k) xi with
      | some u =>
        have HS := Lib.hid (ofF_have hlt (by rw [← hx, hf]; simp))
        obtain ⟨z, hz, rfl⟩ := Option.map_eq_some_iff.1 (show (findL (l.take k) xi).map objV = some u from hf)
        have hl2 := HL.out
        rw [hf] at hl2
        simp only [Option.getD_some, Option.isSome_some, objV] at hl2
        clear hf hx hz
        go_wp2_with fail
        go_roundw
        case rel => exact ⟨Lib.hid (HB1.out.alloc HB1.out.size _), k + 1, hlt, by go_num, Lib.hid (by rw [HS.out]; obtain ⟨D, hD, r⟩ := HM1.out; exact ⟨D, (hD.alloc _).mono (Nat.le_succ _), r⟩)⟩
        case measure => simp [intOf]; omega
      | none =>
        have HS := Lib.hid (ofF_new hlt (by rw [← hx]; exact hf))
        rw [← hx] at HS
        have hl2 := HL.out
        rw [hf] at hl2
        simp only [Option.getD_none, Option.isSome_none] at hl2
        have HM2 := Lib.hid (HM1.out.below (below_new w1 (.cells #[.int .i64 0, .string ⟨#[]⟩] 30)) HM1.out.lt)
        obtain ⟨w2, hw2⟩ : ∃ w2, w2 = w1.alloc (.cells #[.int .i64 0, .string ⟨#[]⟩] 30) := ⟨_, rfl⟩
        have HW2 := Lib.hid hw2
        have hb2 : Below w1.heap.size w1 w2 := by rw [hw2]; exact below_new w1 _
        have HB3 := Lib.hid (HB1.out.trans (hb2.mono HB1.out.size))
        rw [← hw2] at HM2
        have r0 : w2.cell? ⟨wr.heap.size, 0, none⟩ = some (.string ⟨xi.toArray⟩) := (hb2.cell (p := ⟨wr.heap.size, 0, none⟩) HZ.out).trans q0
        have r1 : w2.cell? ⟨wr.heap.size, 1, none⟩ = some (.int .i64 xk) := (hb2.cell (p := ⟨wr.heap.size, 1, none⟩) HZ.out).trans ((cell_of_row w1 _ 1 _ _ _ HK1.out).trans rfl)
        have r2 : w2.cell? ⟨wr.heap.size, 2, none⟩ = some (.string ⟨xd.toArray⟩) := (hb2.cell (p := ⟨wr.heap.size, 2, none⟩) HZ.out).trans ((cell_of_row w1 _ 2 _ _ _ HK1.out).trans rfl)
        have R := Lib.hid (And.intro r0 (And.intro r1 r2))
        clear hf hx hw2 hb2 r0 r1 r2
        go_upto_region 6 with fail
        rw [← HW2.out]
        obtain ⟨r0, r1, r2⟩ := R.out
        clear hl2 q0
        go_wp2_with (at_mapUpdate; refine wpList_putS rfl _ _ _ 64 30 rfl Tryz.underlying64 w.heap.size k _ xi (.agg #[.int .i64 xk, .string ⟨xd.toArray⟩]) rfl rfl rfl HM2.out (by unfold maxLen; omega) (by have := Hl.out; unfold maxLen; omega) ?_)
        intro w3 hM3 hg3
        have HM3 := Lib.hid hM3
        have HG3 := Lib.hid (HB3.out.grown hg3 HB3.out.size (fun j e => by cases e; exact Nat.le_refl _))
        clear hM3 hg3 r0 r1 r2
        go_wp2_with fail
        go_roundw
        case rel => exact ⟨HG3, k + 1, hlt, by go_num, Lib.hid (by rw [HS.out]; exact HM3.out)⟩
        case measure => simp [intOf]; omega
    · obtain rfl : k = l.length := by omega
      rw [List.take_length] at hM
      go_wp2_with fail
      go_ret
      exact ⟨rfl, hM.out, hB.out⟩

/-! ### agree -/
def agreeB (l : List Hld) (ws : List (Bs × Int)) : Bool := ws.all fun p => kindB l p.1 == p.2
theorem ofF_kind (l : List Hld) (x : Bs) : ∃ d : Bs, (ofF l x).getD (.agg #[.int .i64 0, .string ⟨#[]⟩]) = .agg #[.int .i64 (kindB l x), .string ⟨d.toArray⟩] := by
  unfold ofF kindB
  cases findL l x with
  | none => exact ⟨[], rfl⟩
  | some u => exact ⟨u.data, rfl⟩
theorem field_obj (k : Int) (d : Bs) (W : World) : Sem.run Tryz.prog (Instr.field 30 (.agg #[.int .i64 k, .string ⟨d.toArray⟩]) 0) W = .ok (.int .i64 k) W := by
  simp [Instr.field, run_underlying Tryz.underlying30, go_sem, Result.andThen, asAgg, part]
theorem agree_snoc {l : List Hld} {ws : List (Bs × Int)} {k : Nat} (h : k < ws.length) : agreeB l (ws.take (k + 1)) = (agreeB l (ws.take k) && (kindB l (ws.getD k ([], 0)).1 == (ws.getD k ([], 0)).2)) := by
  unfold agreeB
  rw [take_getD ws ([], 0) k h, List.all_append]; simp
theorem agree_no {l : List Hld} {ws : List (Bs × Int)} {k : Nat} (h : k < ws.length) (hk : (kindB l (ws.getD k ([], 0)).1 == (ws.getD k ([], 0)).2) = false) : agreeB l ws = false := by
  cases hc : agreeB l ws
  · rfl
  · have := List.all_eq_true.1 (show ws.all (fun p => kindB l p.1 == p.2) = true from hc) _ (getD_mem ws ([], 0) k h)
    rw [hk] at this; cases this
set_option maxHeartbeats 4000000 in
set_option maxRecDepth 100000 in
theorem agree_any {w : World} {vw : Value} {ws : List (Bs × Int)} {l : List Hld} {m n : Nat} (h : WantsR w vw ws) (hl : ws.length ≤ 1000000) (hs : ∀ p ∈ ws, p.1.length ≤ 1000000) (hm : MapS w m n (ofF l)) :
    Calls Tryz.prog 39 #[.map (some m), vw] w (RetBelow (.bool (agreeB l ws)) w) := by
  obtain ⟨A, c, rfl⟩ := h.shape
  have Hx := Lib.hid h; have Hs := Lib.hid hs; have HM := Lib.hid hm; clear h hs hm
  go_enter Tryz.func39, Tryz.ntmps39
  go_wp2_with fail
  go_loopw [9] (fun i wr => Hid (Below w.heap.size w wr) ∧ ∃ k : Nat, k ≤ ws.length ∧ i = .int .i64 k ∧ Hid (agreeB l (ws.take k) = true)) (fun i _ => ws.length - (intOf i).toNat)
  case atStart => exact ⟨Lib.hid (Below.refl _ _), 0, Nat.zero_le _, rfl, Lib.hid rfl⟩
  case round =>
    obtain ⟨hB, k, hk, rfl, hA⟩ := hrel
    by_cases hlt : k < ws.length
    · obtain ⟨g, o, c', e, _, hg⟩ := Hx.out.pos (by omega)
      cases e
      obtain ⟨p0, p1⟩ := WantsR.cells (Hx.out.below hB.out (Nat.le_refl _)) k hlt
      have hlen := Hs.out _ (getD_mem ws ([], 0) k hlt)
      have hsn := agree_snoc (l := l) hlt
      have hno := agree_no (l := l) hlt
      obtain ⟨x, hx⟩ : ∃ x, x = ws.getD k ([], 0) := ⟨_, rfl⟩
      rw [← hx] at p0 p1 hlen hsn hno
      obtain ⟨xi, xk⟩ := x
      unfold SV at p0
      simp only at p0 p1 hlen hsn hno
      rw [hA.out] at hsn
      obtain ⟨w1, hw1⟩ : ∃ w1, w1 = wr.alloc (.cells #[.string ⟨xi.toArray⟩, .int .i64 xk] 47) := ⟨_, rfl⟩
      have hb1 : Below wr.heap.size wr w1 := by rw [hw1]; exact below_new wr _
      have hk1 : w1.heap[wr.heap.size]? = some (.cells #[.string ⟨xi.toArray⟩, .int .i64 xk] 47 (0, 0)) := by rw [hw1]; exact heap_alloc_new wr _
      have hB1 := hB.out.trans (hb1.mono hB.out.size)
      have hM1 := HM.out.below hB1 HM.out.lt
      have hlook := hM1.look Tryz.underlying64 (zeroObj w1) (x := xi) (by unfold maxLen; omega)
      obtain ⟨d, hd⟩ := ofF_kind l xi
      rw [hd] at hlook
      have HW1 := Lib.hid hw1; have HB1 := Lib.hid hB1; have HK1 := Lib.hid hk1
      have HL := Lib.hid hlook; have HSn := Lib.hid hsn; have HNo := Lib.hid hno
      clear hw1 hb1 hk1 hM1 hlook hlen hB hB1 hd hx hsn hno hA
      go_upto_region 4 with fail
      rw [← HW1.out]
      clear p0 p1
      have q0 : w1.cell? ⟨wr.heap.size, 0, none⟩ = some (.string ⟨xi.toArray⟩) := (cell_of_row w1 _ 0 _ _ _ HK1.out).trans rfl
      have q1 : w1.cell? ⟨wr.heap.size, 1, none⟩ = some (.int .i64 xk) := (cell_of_row w1 _ 1 _ _ _ HK1.out).trans rfl
      have hl2 := HL.out
      generalize kindB l xi = kk at hl2 HSn HNo
      have hfl := fun W => field_obj kk d W
      by_cases e : kk = xk
      · have HS : Hid (agreeB l (ws.take (k + 1)) = true) := Lib.hid (by rw [HSn.out, e]; simp)
        clear HSn HNo
        cases e
        go_wp2_with fail
        go_roundw
        case rel => exact ⟨HB1, k + 1, hlt, by go_num, HS⟩
        case measure => simp [intOf]; omega
      · have HS : Hid (agreeB l ws = false) := Lib.hid (HNo.out (by simpa using e))
        have e1 : (kk == xk) = false := by simpa using e
        have e2 : (kk != xk) = true := by simpa using e
        clear HSn HNo
        go_wp2_with fail
        go_ret
        exact ⟨ret_same HS.out, HB1.out⟩
    · obtain rfl : k = ws.length := by omega
      rw [List.take_length] at hA
      go_wp2_with fail
      go_ret
      exact ⟨ret_same hA.out, hB.out⟩
end Go.Proofs.YtbglfnbdhdbjjaaGreatDoor


namespace Go.Proofs.YtbglfnbdhdbjjaaGreatDoor
open Go Go.RowKit Go.Maps

theorem zeroInt (w : World) : (zeroValue 3).run Tryz.prog w = .ok (.int .i64 0) w := by kernel_rfl
theorem infoW : (Tryz.prog.info? 9).map (fun i => (i.zero, i.size, i.bytes)) = some (some (.string ⟨#[]⟩), 1, 16) := by kernel_rfl
/-- How often each was met, as a map holds it. -/
def timesF (c : Bs → Nat) (x : Bs) : Option Value := if c x = 0 then none else some (.int .i64 (c x))
theorem timesF_get (c : Bs → Nat) (x : Bs) : (timesF c x).getD (.int .i64 0) = .int .i64 (c x) := by
  unfold timesF
  by_cases h : c x = 0
  · rw [if_pos h, h]; rfl
  · rw [if_neg h]; rfl
def incC (c : Bs → Nat) (x : Bs) : Bs → Nat := fun y => if y = x then c x + 1 else c y
theorem timesF_inc (c : Bs → Nat) (x : Bs) : updF (timesF c) x (.int .i64 ((c x : Int) + 1)) = timesF (incC c x) := by
  funext y
  unfold updF timesF incC
  by_cases e : y = x
  · rw [if_pos e, if_pos e, if_neg (by omega)]; rfl
  · rw [if_neg e, if_neg e]
def addR (row : List Bs) (x : Bs) : List Bs := if x ∈ row then row else row ++ [x]

/-- The row, in a variable's box; how often each was met, in another. -/
structure MSt (B rb xb mb : Nat) (row : List Bs) (c : Bs → Nat) (n : Nat) (v : Value) (w : World) : Prop where
  rbx : Boxed w rb 23 v
  own : OwK 9 1 strC w B v row
  xbx : Boxed w xb 73 (.map (some mb))
  mp : MapS w mb n (timesF c)
  seen : ∀ x, c x = 0 ↔ x ∉ row
  le : ∀ x, c x ≤ n
  hB : B ≤ rb ∧ B ≤ xb ∧ B ≤ mb ∧ B ≤ w.heap.size
  ne : rb ≠ mb ∧ xb ≠ mb ∧ rb ≠ xb
/-- The blocks that it lies in. -/
def Mine (rb xb mb : Nat) (v : Value) (k : Nat) : Prop := k = rb ∨ k = xb ∨ k = mb ∨ v.ownBlock = some k
theorem MSt.low {B rb xb mb : Nat} {row : List Bs} {c : Bs → Nat} {n : Nat} {v : Value} {w : World} (h : MSt B rb xb mb row c n v w) {k : Nat} (hk : Mine rb xb mb v k) : B ≤ k ∧ k < w.heap.size := by
  rcases hk with rfl | rfl | rfl | hk
  · exact ⟨h.hB.1, h.rbx.lt⟩
  · exact ⟨h.hB.2.1, h.xbx.lt⟩
  · exact ⟨h.hB.2.2.1, h.mp.lt⟩
  · obtain ⟨h1, h2, _⟩ := own_block h.own hk; exact ⟨h1, h2⟩
theorem MSt.but {B rb xb mb : Nat} {row : List Bs} {c : Bs → Nat} {n : Nat} {v : Value} {w w' : World} {S : Nat → Prop} (h : MSt B rb xb mb row c n v w) (hb : But S w w') (hn : ∀ k, Mine rb xb mb v k → ¬ S k) : MSt B rb xb mb row c n v w' :=
  ⟨boxed_but h.rbx hb (hn _ (.inl rfl)), h.own.but hb (fun _ hg => hn _ (.inr (.inr (.inr hg)))), boxed_but h.xbx hb (hn _ (.inr (.inl rfl))), h.mp.but hb (hn _ (.inr (.inr (.inl rfl)))), h.seen, h.le, ⟨h.hB.1, h.hB.2.1, h.hB.2.2.1, Nat.le_trans h.hB.2.2.2 hb.size⟩, h.ne⟩
theorem row_ne_map {w : World} {B n k mb m : Nat} {t : TypeId} {v : Value} {xs : List Value} {f : Bs → Option Value} (h : w.ownsRow B t k v n xs) (hm : MapS w mb m f) : v.ownBlock ≠ some mb := fun e => by
  obtain ⟨_, _, cur, h1⟩ := own_block h e
  obtain ⟨D, ⟨es, cl, h2, _⟩, _⟩ := hm
  rw [h1] at h2; cases h2
theorem row_ne_box {w : World} {B n k b : Nat} {t t' : TypeId} {v u : Value} {xs : List Value} (h : w.ownsRow B t k v n xs) (hb : Boxed w b t' u) (hne : t' ≠ t) : v.ownBlock ≠ some b := fun e => by
  obtain ⟨_, _, cur, h1⟩ := own_block h e
  rw [show w.heap[b]? = _ from hb] at h1
  simp at h1
  exact hne h1.2

def MeetPost (B rb xb mb : Nat) (row : List Bs) (c : Bs → Nat) (n : Nat) (v : Value) (x : Bs) (w : World) (e : Ending) (w' : World) : Prop :=
  e = .returned (.tuple #[]) ∧ ∃ v', MSt B rb xb mb (addR row x) (incC c x) (n + 1) v' w' ∧ But (Mine rb xb mb v) w w' ∧ (∀ g, v'.ownBlock = some g → v.ownBlock = some g ∨ w.heap.size ≤ g)

set_option maxHeartbeats 4000000 in
set_option maxRecDepth 100000 in
theorem meet_any {B rb xb mb : Nat} {row : List Bs} {c : Bs → Nat} {n : Nat} {v : Value} {w : World} (h : MSt B rb xb mb row c n v w) (x : Bs) (hx : x.length ≤ 1000000) (hr : row.length ≤ 1000000000) (hn : n ≤ 1000000000000) :
    Calls Tryz.prog 53 #[.string ⟨x.toArray⟩, .pointer (some ⟨xb, 0, none⟩), .pointer (some ⟨rb, 0, none⟩)] w (MeetPost B rb xb mb row c n v x w) := by
  have c0 := h.xbx.cell
  have hlook := h.mp.look Tryz.underlying73 (zeroInt w) (x := x) (by unfold maxLen; omega)
  rw [timesF_get] at hlook
  have hle := h.le x
  obtain ⟨k, hk⟩ : ∃ k, k = c x := ⟨_, rfl⟩
  rw [← hk] at hlook hle
  have H := Lib.hid h; have HK := Lib.hid hk
  clear h hk
  go_enter Tryz.func53, Tryz.ntmps53
  go_wp2_with (at_mapUpdate; refine wpList_putS rfl _ _ _ 73 3 rfl Tryz.underlying73 mb n _ x (.int .i64 ((k : Int) + 1)) rfl rfl rfl H.out.mp (by unfold maxLen; omega) (by unfold maxLen; omega) ?_)
  intro w1 hM1 hg1
  rw [HK.out, timesF_inc] at hM1
  have hb1 := But.of_grown hg1
  have r1 := boxed_but H.out.rbx hb1 (fun e => H.out.ne.1 (Option.some.inj e).symm)
  have o1 := H.out.own.but hb1 (fun _ hg e => row_ne_map H.out.own H.out.mp (by rw [hg, e]))
  have x1 := boxed_but H.out.xbx hb1 (fun e => H.out.ne.2.1 (Option.some.inj e).symm)
  have hlook1 := hM1.look Tryz.underlying73 (zeroInt w1) (x := x) (by unfold maxLen; omega)
  rw [timesF_get] at hlook1
  have hi : incC c x x = k + 1 := by unfold incC; rw [if_pos rfl, HK.out]
  rw [hi] at hlook1
  have c1 := x1.cell
  have M1 := Lib.hid hM1; have HB1 := Lib.hid hb1; have R1 := Lib.hid r1; have O1 := Lib.hid o1; have X1 := Lib.hid x1
  have hle2 : ∀ y, incC c x y ≤ n + 1 := fun y => by
    unfold incC
    by_cases e : y = x
    · rw [if_pos e, ← HK.out]; omega
    · rw [if_neg e]; have := H.out.le y; omega
  have HLe := Lib.hid hle2
  have hsz1 := hb1.size
  have HZ := Lib.hid hsz1
  have hmem := H.out.seen x
  rw [← HK.out] at hmem
  have HMem := Lib.hid hmem
  clear hM1 hg1 hb1 r1 o1 x1 hi hle2 hsz1 hmem c0 hlook
  by_cases h0 : k = 0
  · -- met for the first time
    have hno : x ∉ row := HMem.out.1 h0
    have HA : Hid (addR row x = row ++ [x]) := Lib.hid (if_neg hno)
    have hseen2 : ∀ y, incC c x y = 0 ↔ y ∉ row ++ [x] := fun y => by
      unfold incC
      by_cases e : y = x
      · rw [if_pos e, e]; simp
      · rw [if_neg e, H.out.seen y]; simp [e]
    have HSe := Lib.hid hseen2
    subst h0
    have d0 := R1.out.cell
    have f0 := R1.out.frozen
    obtain ⟨A, cp, rfl⟩ := own_slice O1.out
    obtain ⟨i0, hi0, hz0, hz1, hz2⟩ := info_parts infoW
    have hbz : B ≤ w1.heap.size := Nat.le_trans H.out.hB.2.2.2 HZ.out
    clear hno hseen2
    go_wp2_with (at_builtin; refine wpList_append_lies _ rfl _ _ 23 rfl B 9 i0 _ 1 16 Tryz.underlying23 hi0 hz0 hz1 hz2 rfl (by decide) _ row.length _ rfl (World.ownsRow.alloc O1.out _) ⟨w1.heap.size, 0, none⟩ 1 1 [.string ⟨x.toArray⟩] rfl rfl (cell_one_new _ _ _) (by simp [Value.oneCell']) (by omega) (by unfold maxLen; omega) (by omega) (by simp; omega) _ rfl ?_)
    intro g cap w2 hown hgrow hat hlt
    have hown' : OwK 9 1 strC w2 B (.slice (some ⟨g, 0, none⟩) (row.length + 1) cap) (row ++ [x]) := by
      unfold OwK; rw [List.length_append, List.flatMap_append]; exact hown
    have hb2 := (But.of_new (S := fun k => (Value.slice A row.length cp).ownBlock = some k) (below_new w1 (.cells #[.string ⟨x.toArray⟩] 9))).trans (But.of_grown hgrow)
    have r2 := boxed_but R1.out hb2 (fun e => row_ne_box O1.out R1.out (by decide) e)
    have x2 := boxed_but X1.out hb2 (fun e => row_ne_box O1.out X1.out (by decide) e)
    have m2 := M1.out.but hb2 (fun e => row_ne_map O1.out M1.out e)
    have hgr : g ≠ rb := fun e => row_ne_box hown' r2 (by decide) (by rw [e]; rfl)
    have d2 := r2.cell
    have f2 := r2.frozen
    have HOw := Lib.hid hown'; have HB2 := Lib.hid hb2; have R2 := Lib.hid r2; have X2 := Lib.hid x2; have M2 := Lib.hid m2; have HGr := Lib.hid hgr; have HAt := Lib.hid hat; have HLt := Lib.hid hlt
    clear hown hown' hgrow hb2 r2 x2 m2 hgr hat hlt d0 f0 c1 hlook1
    go_wp2_with fail
    go_end0
    have hb3 : But (fun k => k = rb) w2 (w2.setCell ⟨rb, 0, none⟩ (.slice (some ⟨g, 0, none⟩) (row.length + 1) cap)) := (But.refl (fun k => k = rb) w2).setCell (p := ⟨rb, 0, none⟩) rfl _
    refine ⟨rfl, .slice (some ⟨g, 0, none⟩) (row.length + 1) cap, ?_, ?_, ?_⟩
    · rw [HA.out]
      exact ⟨R2.out.set _, HOw.out.but hb3 (fun _ hg e => HGr.out (by cases hg; exact e)), boxed_but X2.out hb3 (fun e => H.out.ne.2.2 e.symm), M2.out.but hb3 (fun e => H.out.ne.1 e.symm), HSe.out, HLe.out, ⟨H.out.hB.1, H.out.hB.2.1, H.out.hB.2.2.1, Nat.le_trans H.out.hB.2.2.2 (Nat.le_trans HZ.out (Nat.le_trans HB2.out.size hb3.size))⟩, H.out.ne⟩
    · exact ((HB1.out.mono (fun k _ e => .inr (.inr (.inl (Option.some.inj e).symm)))).trans (HB2.out.mono (fun k _ e => .inr (.inr (.inr e))))).trans (hb3.mono (fun k _ e => .inl e))
    · intro g' hg'
      cases hg'
      rcases HAt.out with e | e
      · exact .inl e
      · refine .inr ?_
        have h1 := HZ.out
        show w.heap.size ≤ g
        omega
  · -- met before
    have hin : x ∈ row := Classical.byContradiction fun hn => h0 (HMem.out.2 hn)
    have HA : Hid (addR row x = row) := Lib.hid (if_pos hin)
    have hseen2 : ∀ y, incC c x y = 0 ↔ y ∉ row := fun y => by
      unfold incC
      by_cases e : y = x
      · rw [if_pos e, e]; simp [hin]
      · rw [if_neg e]; exact H.out.seen y
    have HSe := Lib.hid hseen2
    have h1 : ¬ (k : Int) + 1 = 1 := by omega
    have h2 : ((k : Int) + 1 == 1) = false := by simpa using h1
    clear hin hseen2 h0
    go_wp2_with fail
    go_end0
    refine ⟨rfl, v, ?_, HB1.out.mono (fun k _ e => .inr (.inr (.inl (Option.some.inj e).symm))), fun g hg => .inl hg⟩
    rw [HA.out]
    exact ⟨R1.out, O1.out, X1.out, M1.out, HSe.out, HLe.out, ⟨H.out.hB.1, H.out.hB.2.1, H.out.hB.2.2.1, Nat.le_trans H.out.hB.2.2.2 HZ.out⟩, H.out.ne⟩
end Go.Proofs.YtbglfnbdhdbjjaaGreatDoor


namespace Go.Proofs.YtbglfnbdhdbjjaaGreatDoor
open Go Go.RowKit Go.Shelf
section
variable {P : Program} {a : Go.Act} {o : Oper} {W : World}
theorem y_build {t : TypeId} {n : Nat} {parts : Array (Nat × Operand)} {ps : Array (Nat × Value)} {r : Value} {W' : World} (ho : o.op = .buildSlice t n parts) (hp : (parts.map fun (i, x) => (i, a.eval x)) = ps) (h : (Instr.buildSlice t n ps).run P W = .ok r W') : (execOp a.eval o).run P W = .ok (.value r) W' := by
  subst hp
  simp only [execOp, ho]
  simp [h, Result.andThen]
end
theorem build1 (W : World) (xm : Int) (xn xi : List UInt8) : (Instr.buildSlice 60 1 #[(0, .agg #[.int .i64 xm, .string ⟨xn.toArray⟩, .string ⟨xi.toArray⟩])]).run Tryz.prog W = .ok (.slice (some ⟨W.heap.size, 0, none⟩) 1 1) (W.alloc (.cells #[.int .i64 xm, .string ⟨xn.toArray⟩, .string ⟨xi.toArray⟩] 59)) := by
  simp [go_sem]
theorem at_one (W : World) (g o n c k : Nat) (hk : k < n) : (Instr.indexAt 60 (.slice (some ⟨g, o, none⟩) n c) (.int .i64 (k : Int))).run Tryz.prog W = .ok (.pointer (some ⟨g, o + k * 3, none⟩)) W := by
  have h1 : (k : Int) < (n : Int) := by omega
  simp [go_sem, h1]
end Go.Proofs.YtbglfnbdhdbjjaaGreatDoor


namespace Go.Proofs.YtbglfnbdhdbjjaaGreatDoor
open Go Go.RowKit Go.Shelf
section
variable {α : Type} {st t : TypeId} {k bt : Nat} {f : α → List Value}
theorem RdK.take' {w : World} {g o n c : Nat} {l : List α} (h : RdK k f w (.slice (some ⟨g, o, none⟩) n c) l) (hn : n = l.length) (hn0 : 0 < n) (m : Nat) (hm : m ≤ n) :
    ∀ j u, ((l.take m).flatMap f)[j]? = some u → (∀ x, (f x).length = k) → 0 < k → w.cell? ⟨g, o + j, none⟩ = some u := by
  intro j u hj hf hk
  rcases h with ⟨_, rfl⟩ | ⟨g', o', c', e, hc, hg, hcell⟩
  · simp at hn; omega
  cases e
  have hlt : j < (l.take m).length * k := by
    rw [← flat_length hf]
    exact (List.getElem?_eq_some_iff.1 hj).1
  have hq : j / k < (l.take m).length := Nat.div_lt_of_lt_mul (by rw [Nat.mul_comm]; exact hlt)
  have hr : j % k < k := Nat.mod_lt _ hk
  have hj2 : j / k * k + j % k = j := by rw [Nat.mul_comm]; exact Nat.div_add_mod j k
  have hx : (l.take m)[j / k]? = some (l.take m)[j / k] := List.getElem?_eq_getElem hq
  have h1 := flat_get hf (l.take m) (j / k) _ hx (j % k) hr
  rw [hj2, hj] at h1
  have hq2 : j / k < l.length := by rw [List.length_take] at hq; omega
  have hx2 : l[j / k]? = some (l.take m)[j / k] := by rw [List.getElem_take]; exact List.getElem?_eq_getElem hq2
  have h2 := hcell (j / k) hq2 _ hx2 (j % k) hr
  rw [Nat.add_assoc, hj2] at h2
  rw [h2, ← h1]
theorem RdK.drop' {w : World} {g o n c : Nat} {l : List α} (h : RdK k f w (.slice (some ⟨g, o, none⟩) n c) l) (hn : n = l.length) (hn0 : 0 < n) (m : Nat) (hm : m ≤ n) :
    ∀ j u, ((l.drop m).flatMap f)[j]? = some u → (∀ x, (f x).length = k) → 0 < k → w.cell? ⟨g, o + m * k + j, none⟩ = some u := by
  intro j u hj hf hk
  rcases h with ⟨_, rfl⟩ | ⟨g', o', c', e, hc, hg, hcell⟩
  · simp at hn; omega
  cases e
  have hlt : j < (l.drop m).length * k := by
    rw [← flat_length hf]
    exact (List.getElem?_eq_some_iff.1 hj).1
  have hq : j / k < (l.drop m).length := Nat.div_lt_of_lt_mul (by rw [Nat.mul_comm]; exact hlt)
  have hr : j % k < k := Nat.mod_lt _ hk
  have hj2 : j / k * k + j % k = j := by rw [Nat.mul_comm]; exact Nat.div_add_mod j k
  have hx : (l.drop m)[j / k]? = some (l.drop m)[j / k] := List.getElem?_eq_getElem hq
  have h1 := flat_get hf (l.drop m) (j / k) _ hx (j % k) hr
  rw [hj2, hj] at h1
  have hq2 : m + j / k < l.length := by rw [List.length_drop] at hq; omega
  have hx2 : l[m + j / k]? = some (l.drop m)[j / k] := by rw [List.getElem_drop]; exact List.getElem?_eq_getElem hq2
  have h2 := hcell (m + j / k) hq2 _ hx2 (j % k) hr
  have e : o + (m + j / k) * k + j % k = o + m * k + j := by rw [Nat.add_mul]; omega
  rw [e] at h2
  rw [h2, ← h1]

/-- What a slice holds, behind. -/
theorem run_appK (E : ElK st t k bt f) {w : World} {base : Nat} {v : Value} {l m : List α} (h : OwK t k f w base v l) (a : Addr) (n c : Nat) (hn : n = m.length) (hs : ∀ j u, (m.flatMap f)[j]? = some u → w.cell? (a.add j) = some u) (hl : l.length + m.length ≤ 1000000) (hbt : bt ≤ 1000) (hb : base ≤ w.heap.size) (ty : TypeId) :
    ∃ v' w', (Builtin.append_ #[st, st] ty #[v, .slice (some a) n c]).run Tryz.prog w = .ok v' w' ∧ OwK t k f w' base v' (l ++ m) ∧ Below base w w' ∧ w.grownBy w' v.ownBlock := by
  subst hn
  obtain ⟨z, hz, hzs⟩ := E.info
  obtain ⟨i0, hi, hz0, hz1, hz2⟩ := info_parts hz
  obtain ⟨v', w', h1, h2, h3, _⟩ := run_append_own (P := Tryz.prog) w base st ty t i0 z k bt E.ut hi hz0 hz1 hz2 hzs E.pos v l.length (l.flatMap f) h a m.length c (m.flatMap f) (flat_length E.len m) hs
    (fun u hu => by obtain ⟨x, _, hx⟩ := List.mem_flatMap.1 hu; exact E.one x u hx) (by unfold maxLen; omega) (by
      have : (l.length + m.length) * bt ≤ 1000000 * 1000 := Nat.mul_le_mul hl hbt
      omega) hb
  refine ⟨v', w', h1, ?_, ⟨h3.os, h3.tape, h3.output, h3.size, fun j hj => h3.block j (by omega) ?_⟩, h3⟩
  · unfold OwK; rw [List.length_append, List.flatMap_append]; exact h2
  · intro e
    have := (h.lt j e.symm).1
    omega
theorem OwK.new0 (w : World) (base : Nat) (hb : base ≤ w.heap.size) : OwK t k f (w.alloc (.cells #[] t)) base (.slice (some ⟨w.heap.size, 0, none⟩) 0 0) [] :=
  ⟨by simp, .inr ⟨w.heap.size, 0, #[], rfl, hb, heap_alloc_new w _, by simp, by simp, by simp, by simp⟩⟩
end
section
variable {P : Program} {ops : Array Oper} {Q : Exit → Go.Act → World → Prop}
/-- One of two may come up. -/
theorem AnyB.two (i j : Nat) {fuel : Nat} {listed : Array Bool} {a : Go.Act} {w : World} (hr : Region.ready .any ops listed = [i, j]) {oi oj : Oper} (v v' : Value) (w1 w2 : World) (hi : ops[i]? = some oi) (hj : ops[j]? = some oj)
    (hwi : Region.wanted oi (yielded ops a.tmps) = true) (hwj : Region.wanted oj (yielded ops a.tmps) = true)
    (hei : (execOp a.eval oi).run P w = .ok (.value v) w1) (hej : (execOp a.eval oj).run P w = .ok (.value v') w2) (hb1 : Below w.heap.size w w1) (hb2 : Below w.heap.size w w2)
    (h1 : AnyB P ops Q fuel (listed.setIfInBounds i true) (a.put oi.dst v) w1) (h2 : AnyB P ops Q fuel (listed.setIfInBounds j true) (a.put oj.dst v') w2) : AnyB P ops Q (fuel + 1) listed a w :=
  held_two hr (held_op v w1 hi hwi hei hb1 (held_mono (fun _ hW => hb1.trans (hW.mono hb1.size)) _ _ _ _ h1)) (held_op v' w2 hj hwj hej hb2 (held_mono (fun _ hW => hb2.trans (hW.mono hb2.size)) _ _ _ _ h2))
end
section
variable {P : Program} {ops : Array Oper} {Q : Exit → Go.Act → World → Prop} {b : Nat} {w0 : World}
/-- Whatever order is picked from here on; what lies in w0 below b stays as it is. -/
def AnyK (P : Program) (ops : Array Oper) (Q : Exit → Go.Act → World → Prop) (b : Nat) (w0 : World) (fuel : Nat) (listed : Array Bool) (a : Go.Act) (w : World) : Prop :=
  wpAnyH P .any ops Q (fun W => Below b w0 W) fuel listed a w
theorem AnyK.start (b : Nat) (w0 : World) {id : Nat} {a : Go.Act} {w : World} (hm : P.follows .mixedOrders = true) (h : AnyK P ops Q b w0 ops.size (Array.replicate ops.size false) a w.drew) : (Code.region id ops true).wp P Q a w :=
  held_start _ hm h
theorem AnyK.take (i : Nat) (v : Value) {oi : Oper} {fuel : Nat} {listed : Array Bool} {a : Go.Act} {w : World} (hS : Below b w0 w) (hi : ops[i]? = some oi)
    (hs : Region.noSelect ops = true) (hf : Region.free .any ops listed i = true) (hr : (Region.ready .any ops listed).contains i = true)
    (hQ : ∀ c a w, Q (.panic c) (a.put oi.dst v) w → Q (.panic c) a w) (hw : Region.wanted oi (yielded ops a.tmps) = true)
    (hy : ∀ W, Below b w0 W → (execOp a.eval oi).run P W = .ok (.value v) W)
    (h : AnyK P ops Q b w0 fuel (listed.setIfInBounds i true) (a.put oi.dst v) w) : AnyK P ops Q b w0 (fuel + 1) listed a w :=
  held_take i v hi hs hf hr hQ hw hy hS h
theorem AnyK.call (i : Nat) {oi : Oper} {fuel : Nat} {listed : Array Bool} {a : Go.Act} {w : World} (f : FuncId) (vs : Array Value) (hr : Region.ready .any ops listed = [i]) (hi : ops[i]? = some oi)
    (hw : Region.wanted oi (yielded ops a.tmps) = true) (he : (execOp a.eval oi).run P w = .ok (.enter f vs) w)
    (hc : Calls P f vs w fun e w' => ∃ v, e = .returned v ∧ Below b w0 w' ∧ AnyK P ops Q b w0 fuel (listed.setIfInBounds i true) (a.put oi.dst v) w') : AnyK P ops Q b w0 (fuel + 1) listed a w := by
  refine wpAnyH_ready hr (by simp) (AllReadyH.cons hi (fun K hK => ?_) AllReadyH.nil)
  rw [if_pos hw]
  unfold Oper.wp
  rw [he, Oper.upon_enter]
  refine hc.mono ?_
  rintro e w' ⟨v, rfl, hb, h⟩
  exact hK.out _ _ hb fun _ => h
theorem AnyK.op (i : Nat) (v : Value) (w' : World) {oi : Oper} {fuel : Nat} {listed : Array Bool} {a : Go.Act} {w : World} (hr : Region.ready .any ops listed = [i]) (hi : ops[i]? = some oi)
    (hw : Region.wanted oi (yielded ops a.tmps) = true) (he : (execOp a.eval oi).run P w = .ok (.value v) w') (hb : Below b w0 w') (h : AnyK P ops Q b w0 fuel (listed.setIfInBounds i true) (a.put oi.dst v) w') : AnyK P ops Q b w0 (fuel + 1) listed a w :=
  held_one hr (held_op v w' hi hw he hb h)
theorem AnyK.two (i j : Nat) {fuel : Nat} {listed : Array Bool} {a : Go.Act} {w : World} (hr : Region.ready .any ops listed = [i, j]) {oi oj : Oper} (v v' : Value) (w1 w2 : World) (hi : ops[i]? = some oi) (hj : ops[j]? = some oj)
    (hwi : Region.wanted oi (yielded ops a.tmps) = true) (hwj : Region.wanted oj (yielded ops a.tmps) = true)
    (hei : (execOp a.eval oi).run P w = .ok (.value v) w1) (hej : (execOp a.eval oj).run P w = .ok (.value v') w2) (hb1 : Below b w0 w1) (hb2 : Below b w0 w2)
    (h1 : AnyK P ops Q b w0 fuel (listed.setIfInBounds i true) (a.put oi.dst v) w1) (h2 : AnyK P ops Q b w0 fuel (listed.setIfInBounds j true) (a.put oj.dst v') w2) : AnyK P ops Q b w0 (fuel + 1) listed a w :=
  held_two hr (held_op v w1 hi hwi hei hb1 h1) (held_op v' w2 hj hwj hej hb2 h2)
theorem AnyK.done {listed : Array Bool} {a : Go.Act} {w : World} (fuel : Nat) (hr : Region.ready .any ops listed = []) (h : Q .normal a w) : AnyK P ops Q b w0 fuel listed a w :=
  held_done fuel hr h
end
section
variable {P : Program} {a : Go.Act} {o : Oper} {W : World}
theorem y_slice {t : TypeId} {x : Operand} {lo hi mx : Option Operand} {xv r : Value} {lv hv mv : Option Value} (ho : o.op = .slice t x lo hi mx) (hx : a.eval x = xv) (hl : lo.map a.eval = lv) (hh : hi.map a.eval = hv) (hm : mx.map a.eval = mv)
    (hs : (Instr.sliceAt t xv lv hv mv).run P W = .ok r W) : (execOp a.eval o).run P W = .ok (.value r) W := by
  subst hx hl hh hm
  simp only [execOp, ho]
  simp [hs, Result.andThen]
theorem y_index {t : TypeId} {s i : Operand} {sv iv r : Value} (ho : o.op = .indexAddr t s i) (hs : a.eval s = sv) (hi : a.eval i = iv) (h : (Instr.indexAt t sv iv).run P W = .ok r W) : (execOp a.eval o).run P W = .ok (.value r) W := by
  subst hs hi
  simp only [execOp, ho]
  simp [h, Result.andThen]
theorem y_field {t : TypeId} {s : Operand} {n : Nat} {sv r : Value} (ho : o.op = .fieldAddr t s n) (hs : a.eval s = sv) (h : (Instr.fieldAt t sv n).run P W = .ok r W) : (execOp a.eval o).run P W = .ok (.value r) W := by
  subst hs
  simp only [execOp, ho]
  simp [h, Result.andThen]
end
end Go.Proofs.YtbglfnbdhdbjjaaGreatDoor
