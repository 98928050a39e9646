/-
  after: names are gone after, one by one.
  Join.
  Plain: what the head's calls answer.
-/
import Derived.RangeFuncNested
import Derived.RangeFuncLeaves
import Derived.Shelf.RegionOpen
import Derived.OwnWalkIn
import Derived.TacticsInMore
import Derived.LoopNIn
import Derived.LoopIn
import Derived.Deep.RegionHeld3
import Derived.BigRegion
import Derived.Test.YthbmaloajgkhmaaGreatDoorC15
import Derived.Test.YthbmaloajgkhmaaGreatDoorC18
import Derived.Test.YthbmaloajgkhmaaGreatDoorC09
import Derived.Test.YthbmaloajgkhmaaGreatDoorC23
import Derived.Test.YthbmaloajgkhmaaGreatDoorC14
import Derived.Test.YthbmaloajgkhmaaGreatDoorC20
import Derived.Test.YthbmaloajgkhmaaGreatDoorC24

namespace Go.Proofs.YthbmaloajgkhmaaGreatDoor
open Go Go.RowKit Go.Maps Go.Shelf
attribute [local go_sem] Oper.semAt_some
theorem after_any (m : Nat) (A : Option Addr) (n c : Nat) (w : World) :
    Calls Tryz.prog 30 #[.map (some m), .slice A n c] w fun e w' => e = .returned (.func (.func 49) #[] #[.pointer (some ⟨w.heap.size + 1, 0, none⟩), .pointer (some ⟨w.heap.size, 0, none⟩)]) ∧
      (w.alloc (.cells #[.map (some m)] 63)).alloc (.cells #[.slice A n c] 44) = w' := by
  go_enter Tryz.func30, Tryz.ntmps30
  go_wp2
  go_ret
  exact ⟨rfl, rfl⟩
/-- What a name wants, and whether it has an object. -/
def wfL (l : List Hld) (x : Bs) : List (Bs × Int) := match findL l x with | some h => (wantsO h.kind h.data).getD [] | none => []
theorem wfL_mem {l : List Hld} {x : Bs} {p : Bs × Int} (h : p ∈ wfL l x) : ∃ u ∈ l, p ∈ (wantsO u.kind u.data).getD [] := by
  unfold wfL at h
  cases hf : findL l x with
  | none => rw [hf] at h; cases h
  | some u => rw [hf] at h; exact ⟨u, findL_mem hf, h⟩
theorem wants_mem {k : Int} {d : Bs} {p : Bs × Int} (h : p ∈ (wantsO k d).getD []) : p.1.length = 64 := by
  cases ho : wantsO k d with
  | none => rw [ho] at h; cases h
  | some l => rw [ho] at h; exact named_len64 (wantsO_each ho p h).1
theorem wants_le (k : Int) (d : Bs) : ((wantsO k d).getD []).length ≤ 256 := by
  cases ho : wantsO k d with
  | none => exact Nat.zero_le _
  | some l => exact wantsO_len ho
theorem wfL_le (l : List Hld) (x : Bs) : (wfL l x).length ≤ 256 := by
  unfold wfL
  cases findL l x with
  | none => exact Nat.zero_le _
  | some u => exact wants_le _ _
theorem reach_len {l : List Hld} {tips : List Bs} (ht : ∀ x ∈ tips, x.length ≤ 10000) {x : Bs} (h : Reach (wfL l) tips x) : x.length ≤ 10000 := by
  rcases h.cases_wf with h | ⟨y, k, _, h⟩
  · exact ht x h
  · obtain ⟨u, _, hm⟩ := wfL_mem h
    have := wants_mem hm
    simp only at this
    omega
/-- All that may be come to. -/
def allN (l : List Hld) (tips : List Bs) : List Bs := tips ++ l.flatMap fun u => ((wantsO u.kind u.data).getD []).map Prod.fst
theorem allN_len (l : List Hld) (tips : List Bs) : (allN l tips).length ≤ tips.length + 256 * l.length := by
  unfold allN
  rw [List.length_append]
  refine Nat.add_le_add_left ?_ _
  induction l with
  | nil => simp
  | cons u l ih =>
    rw [List.flatMap_cons, List.length_append, List.length_map, List.length_cons]
    have := wants_le u.kind u.data
    omega
theorem reach_allN {l : List Hld} {tips : List Bs} {x : Bs} (h : Reach (wfL l) tips x) : x ∈ allN l tips := by
  unfold allN
  rcases h.cases_wf with h | ⟨y, k, _, h⟩
  · exact List.mem_append_left _ h
  · obtain ⟨u, hu, hm⟩ := wfL_mem h
    exact List.mem_append_right _ (List.mem_flatMap.2 ⟨u, hu, List.mem_map.2 ⟨_, hm, rfl⟩⟩)
theorem rowI_len {l : List Hld} {tips row : List Bs} {i : Nat} (h : RowI (wfL l) tips row i) : row.length ≤ tips.length + 256 * l.length :=
  Nat.le_trans (nodup_len h.nd fun x hx => reach_allN (h.rc x hx)) (allN_len l tips)
/-- What the row has become, when the first j of ws were met. -/
structure Grew (row ext : List Bs) (ws : List (Bs × Int)) (j : Nat) : Prop where
  nd : (row ++ ext).Nodup
  from_ws : ∀ y ∈ ext, ∃ k, (y, k) ∈ ws
  met : ∀ p ∈ ws.take j, p.1 ∈ row ++ ext
  len : ext.length ≤ j
theorem Grew.step {row ext : List Bs} {ws : List (Bs × Int)} {j : Nat} (h : Grew row ext ws j) (hj : j < ws.length) : ∃ ext', addR (row ++ ext) (ws.getD j ([], 0)).1 = row ++ ext' ∧ Grew row ext' ws (j + 1) := by
  have htk := take_getD ws ([], 0) j hj
  have hmem := getD_mem ws ([], 0) j hj
  obtain ⟨p, hp⟩ : ∃ p, p = ws.getD j ([], 0) := ⟨_, rfl⟩
  rw [← hp] at htk hmem ⊢
  unfold addR
  by_cases hm : p.1 ∈ row ++ ext
  · rw [if_pos hm]
    refine ⟨ext, rfl, h.nd, h.from_ws, fun q hq => ?_, by have := h.len; omega⟩
    rw [htk, List.mem_append] at hq
    rcases hq with hq | hq
    · exact h.met q hq
    · rw [List.mem_singleton] at hq; rw [hq]; exact hm
  · rw [if_neg hm]
    refine ⟨ext ++ [p.1], by rw [List.append_assoc], ?_, fun y hy => ?_, fun q hq => ?_, by have := h.len; simp; omega⟩
    · rw [← List.append_assoc, List.nodup_append]
      exact ⟨h.nd, by simp, fun a ha b hb e => by rw [List.mem_singleton] at hb; rw [← hb, ← e] at hm; exact hm ha⟩
    · rcases List.mem_append.1 hy with hy | hy
      · exact h.from_ws y hy
      · rw [List.mem_singleton] at hy; rw [hy]; exact ⟨p.2, hmem⟩
    · rw [← List.append_assoc]
      rw [htk, List.mem_append] at hq
      rcases hq with hq | hq
      · exact List.mem_append_left _ (h.met q hq)
      · rw [List.mem_singleton] at hq; rw [hq]; simp
theorem rowI_step {wf : Bs → List (Bs × Int)} {tips row ext : List Bs} {i : Nat} {x : Bs} {ws : List (Bs × Int)} (h : RowI wf tips row i) (hi : i < row.length) (hx : x = row.getD i []) (hw : ws = wf x) (hg : Grew row ext ws ws.length) : RowI wf tips (row ++ ext) (i + 1) := by
  have hr : Reach wf tips x := h.rc x (by rw [hx]; exact getD_mem row [] i hi)
  refine ⟨hg.nd, fun y hy => ?_, fun y hy => List.mem_append_left _ (h.tp y hy), fun y hy z k hz => ?_⟩
  · rcases List.mem_append.1 hy with hy | hy
    · exact h.rc y hy
    · obtain ⟨k, hk⟩ := hg.from_ws y hy
      rw [hw] at hk
      exact .want hr hk
  · rw [List.take_append_of_le_length (by omega), take_getD row [] i hi, List.mem_append] at hy
    rcases hy with hy | hy
    · exact List.mem_append_left _ (h.cl y hy z k hz)
    · rw [List.mem_singleton, ← hx] at hy
      rw [hy, ← hw] at hz
      have := hg.met (z, k) (by rw [List.take_length]; exact hz)
      exact this
def dataB (l : List Hld) (x : Bs) : Bs := ((findL l x).map Hld.data).getD []
theorem ofF_get (l : List Hld) (x : Bs) : (ofF l x).getD (.agg #[.int .i64 0, .string ⟨#[]⟩]) = .agg #[.int .i64 (kindB l x), .string ⟨(dataB l x).toArray⟩] ∧ (ofF l x).isSome = thB l x ∧ (wantsO (kindB l x) (dataB l x)).getD [] = wfL l x := by
  unfold ofF kindB dataB thB wfL
  cases findL l x with
  | none => exact ⟨rfl, rfl, rfl⟩
  | some u => exact ⟨rfl, rfl, rfl⟩
theorem dataB_le {l : List Hld} {x : Bs} {n : Nat} (h : ∀ y ∈ l, y.data.length ≤ n) : (dataB l x).length ≤ n := by
  unfold dataB
  cases hf : findL l x with
  | none => exact Nat.zero_le _
  | some u => exact h u (findL_mem hf)
def metV (l : List Hld) (x : Bs) (vw : Value) : Value := .agg #[.string ⟨x.toArray⟩, .bool (thB l x), vw]
/-- What the body of a loop over it does in a round. -/
structure Rnd (L : List Hld) (tips : List Bs) (l : Nat) (w0 : World) (B : Nat) (J : List Bs → (Nat → Prop) → World → Prop) (Jx : World → Prop) : Prop where
  st : ∀ pre C w w', J pre C w → But (fun k => B ≤ k ∧ ¬ C k) w w' → J pre C w'
  lt : ∀ pre C w, J pre C w → ∀ k, C k → k < w.heap.size
  bl : ∀ pre C w, J pre C w → Below w0.heap.size w0 w
  rd : ∀ pre x A c C W, J pre C W → Reach (wfL L) tips x → pre.length ≤ 1000000 → x.length ≤ 1000000 → WantsR W (.slice A (wfL L x).length c) (wfL L x) → YieldAt Fence.wide 5 Tryz.prog l #[metV L x (.slice A (wfL L x).length c)] W fun e W' =>
    (e = .returned (.bool true) ∧ ∃ C', J (pre ++ [x]) C' W' ∧ But C W W' ∧ ∀ k, C' k → C k ∨ W.heap.size ≤ k) ∨ (e = .returned (.bool false) ∧ Jx W')
/-- What does not turn while names are gone after. -/
structure Fix (L : List Hld) (tips : List Bs) (tb ob m nn : Nat) (A : Option Addr) (ct : Nat) (w : World) : Prop where
  tbx : Boxed w tb 44 (.slice A tips.length ct)
  obx : Boxed w ob 63 (.map (some m))
  tr : StrsR w (.slice A tips.length ct) tips
  mp : MapS w m nn (ofF L)
def Still (tips : List Bs) (tb ob m : Nat) (A : Option Addr) (k : Nat) : Prop := k = tb ∨ k = ob ∨ k = m ∨ (0 < tips.length ∧ ∃ a, A = some a ∧ k = a.block)
theorem Fix.but {L : List Hld} {tips : List Bs} {tb ob m nn : Nat} {A : Option Addr} {ct : Nat} {w w' : World} {S : Nat → Prop} (h : Fix L tips tb ob m nn A ct w) (hb : But S w w') (hn : ∀ k, Still tips tb ob m A k → ¬ S k) : Fix L tips tb ob m nn A ct w' := by
  refine ⟨boxed_but h.tbx hb (hn _ (.inl rfl)), boxed_but h.obx hb (hn _ (.inr (.inl rfl))), ?_, h.mp.but hb (hn _ (.inr (.inr (.inl rfl))))⟩
  rcases Nat.eq_zero_or_pos tips.length with h0 | h0
  · obtain rfl := List.length_eq_zero_iff.1 h0
    exact .inl ⟨⟨_, _, rfl⟩, rfl⟩
  · refine RdK.but h.tr hb fun g hg => hn _ (.inr (.inr (.inr ⟨h0, ?_⟩)))
    cases A with
    | none => cases hg
    | some a => cases hg; exact ⟨a, rfl, rfl⟩
theorem Fix.lt {L : List Hld} {tips : List Bs} {tb ob m nn : Nat} {A : Option Addr} {ct : Nat} {w : World} (h : Fix L tips tb ob m nn A ct w) : ∀ k, Still tips tb ob m A k → k < w.heap.size := by
  rintro k (rfl | rfl | rfl | ⟨h0, a, rfl, rfl⟩)
  · exact h.tbx.lt
  · exact h.obx.lt
  · exact h.mp.lt
  · obtain ⟨g, o, c, e, _, hg⟩ := RdK.pos h.tr h0
    cases e; exact hg
/-- A name on the way, as it lies in its box. -/
structure MetAt (w1 wx : World) (b : Nat) (x : Bs) (th : Bool) (A : Option Addr) (ws : List (Bs × Int)) (c : Nat) : Prop where
  bl : Below w1.heap.size w1 wx
  lo : w1.heap.size ≤ b
  hi : b < wx.heap.size
  c0 : wx.cell? ⟨b, 0, none⟩ = some (.string ⟨x.toArray⟩)
  c1 : wx.cell? ⟨b, 1, none⟩ = some (.bool th)
  c2 : wx.cell? ⟨b, 2, none⟩ = some (.slice A ws.length c)
  wr : WantsR wx (.slice A ws.length c) ws
  fr : Fr w1.heap.size (.slice A ws.length c)
/-- Between two rounds. -/
structure SeqR (L : List Hld) (tips : List Bs) (tb ob m nn : Nat) (A : Option Addr) (ct B : Nat) (J : List Bs → (Nat → Prop) → World → Prop) (C : Nat → Prop) (row : List Bs) (c : Bs → Nat) (v : Value) (pre : List Bs) (n : Nat) (w : World) : Prop where
  ms : MSt B B (B + 1 + 1) (B + 1) row c n v w
  j : J pre C w
  fx : Fix L tips tb ob m nn A ct w
  mc : ∀ k, Mine B (B + 1 + 1) (B + 1) v k → ¬ C k
  sc : ∀ k, Still tips tb ob m A k → ¬ C k
  sb : ∀ k, Still tips tb ob m A k → k < B
/-- Behind what turned nothing old. -/
theorem SeqR.new {L : List Hld} {tips : List Bs} {l : Nat} {w0 : World} {tb ob m nn : Nat} {A : Option Addr} {ct B : Nat} {J : List Bs → (Nat → Prop) → World → Prop} {Jx : World → Prop} {C : Nat → Prop} {row : List Bs} {c : Bs → Nat} {v : Value} {pre : List Bs} {n : Nat} {w w' : World}
    (hr : Rnd L tips l w0 B J Jx) (h : SeqR L tips tb ob m nn A ct B J C row c v pre n w) (hb : Below w.heap.size w w') : SeqR L tips tb ob m nn A ct B J C row c v pre n w' :=
  ⟨h.ms.but (But.of_new (S := fun _ => False) hb) (fun _ _ h => h), hr.st _ _ _ _ h.j (But.of_new hb), h.fx.but (But.of_new (S := fun _ => False) hb) (fun _ _ h => h), h.mc, h.sc, h.sb⟩
/-- Behind a name that was met. -/
theorem SeqR.met {L : List Hld} {tips : List Bs} {l : Nat} {w0 : World} {tb ob m nn : Nat} {A : Option Addr} {ct B : Nat} {J : List Bs → (Nat → Prop) → World → Prop} {Jx : World → Prop} {C : Nat → Prop} {row : List Bs} {c : Bs → Nat} {v : Value} {pre : List Bs} {n : Nat} {w w' : World} {x : Bs} {e : Ending}
    (hr : Rnd L tips l w0 B J Jx) (h : SeqR L tips tb ob m nn A ct B J C row c v pre n w) (hm : MeetPost B B (B + 1 + 1) (B + 1) row c n v x w e w') : ∃ v', SeqR L tips tb ob m nn A ct B J C (addR row x) (incC c x) v' pre (n + 1) w' ∧ But (fun k => B ≤ k ∧ ¬ C k ∧ Mine B (B + 1 + 1) (B + 1) v k) w w' ∧ ∀ k, Mine B (B + 1 + 1) (B + 1) v' k → Mine B (B + 1 + 1) (B + 1) v k ∨ w.heap.size ≤ k := by
  obtain ⟨_, v', h1, h2, h3⟩ := hm
  have hb : But (fun k => B ≤ k ∧ ¬ C k ∧ Mine B (B + 1 + 1) (B + 1) v k) w w' := h2.mono fun k _ hk => ⟨(h.ms.low hk).1, h.mc k hk, hk⟩
  refine ⟨v', ⟨h1, hr.st _ _ _ _ h.j (hb.mono fun k _ hk => ⟨hk.1, hk.2.1⟩), h.fx.but hb (fun k hk hS => by have := h.sb k hk; omega), ?_, h.sc, h.sb⟩, hb, ?_⟩
  rotate_left
  · rintro k (hk | hk | hk | hk)
    · exact .inl (.inl hk)
    · exact .inl (.inr (.inl hk))
    · exact .inl (.inr (.inr (.inl hk)))
    · exact (h3 k hk).imp (fun h => .inr (.inr (.inr h))) id
  rintro k (rfl | rfl | rfl | hk)
  · exact h.mc _ (.inl rfl)
  · exact h.mc _ (.inr (.inl rfl))
  · exact h.mc _ (.inr (.inr (.inl rfl)))
  · rcases h3 k hk with h4 | h4
    · exact h.mc k (.inr (.inr (.inr h4)))
    · exact fun hc => by have := hr.lt _ _ _ h.j k hc; omega
/-- Behind a round of the body. -/
theorem SeqR.round {L : List Hld} {tips : List Bs} {tb ob m nn : Nat} {A : Option Addr} {ct B : Nat} {J : List Bs → (Nat → Prop) → World → Prop} {C C' : Nat → Prop} {row : List Bs} {c : Bs → Nat} {v : Value} {pre pre' : List Bs} {n : Nat} {w w' : World}
    (h : SeqR L tips tb ob m nn A ct B J C row c v pre n w) (hj : J pre' C' w') (hb : But C w w') (hc : ∀ k, C' k → C k ∨ w.heap.size ≤ k) : SeqR L tips tb ob m nn A ct B J C' row c v pre' n w' :=
  ⟨h.ms.but hb h.mc, hj, h.fx.but hb h.sc, fun k hk hC => (hc k hC).elim (h.mc k hk) (fun h2 => by have := (h.ms.low hk).2; omega), fun k hk hC => (hc k hC).elim (h.sc k hk) (fun h2 => by have := h.sb k hk; have := h.ms.hB.2.2.2; omega), h.sb⟩
def SeqPost (L : List Hld) (tips : List Bs) (J : List Bs → (Nat → Prop) → World → Prop) (Jx : World → Prop) (e : Ending) (W' : World) : Prop :=
  (∃ v, e = .returned v) ∧ ((∃ row C, RowI (wfL L) tips row row.length ∧ J row C W') ∨ Jx W')
set_option maxHeartbeats 8000000 in
set_option maxRecDepth 100000 in
theorem seq_any {L : List Hld} {tips : List Bs} {l : Nat} {w0 : World} {tb ob m nn : Nat} {A : Option Addr} {ct : Nat} {J : List Bs → (Nat → Prop) → World → Prop} {Jx : World → Prop} {W : World} {C0 : Nat → Prop}
    (hrd : Rnd L tips l w0 W.heap.size J Jx) (he : Eb w0) (ht : Tb w0) (hf : Fix L tips tb ob m nn A ct W) (hj : J [] C0 W) (hC : ∀ k, Still tips tb ob m A k → ¬ C0 k)
    (hL : L.length ≤ 2000) (hT : tips.length ≤ 1000) (hd : ∀ x ∈ L, x.id.length ≤ 10000 ∧ x.data.length ≤ 10000) (hs : ∀ x ∈ tips, x.length ≤ 10000) :
    Calls Tryz.prog 49 #[.func (.yield l) #[] #[], .pointer (some ⟨tb, 0, none⟩), .pointer (some ⟨ob, 0, none⟩)] W (SeqPost L tips J Jx) := by
  have hsl := hf.lt
  have HRd := Lib.hid hrd; have HF := Lib.hid hf; have HJ := Lib.hid hj; have HC := Lib.hid hC; have HSl := Lib.hid hsl
  have HD := Lib.hid hd; have HS := Lib.hid hs; have HE := Lib.hid (And.intro he ht)
  clear hrd hf hj hC hsl hd hs he ht
  go_enter Tryz.func49, Tryz.ntmps49
  have hmm := @run_makeMap Tryz.prog
  go_upto_region 3 with fail
  clear hmm
  obtain ⟨B, hB⟩ : ∃ B, B = W.heap.size := ⟨_, rfl⟩
  obtain ⟨w1, hw1⟩ : ∃ w1, w1 = ((W.alloc (.cells #[.slice none 0 0] 44)).alloc (.map #[] 0)).alloc (.cells #[.map (some (B + 1))] 69) := ⟨_, rfl⟩
  have hb1 : Below W.heap.size W w1 := by rw [hw1]; exact ((below_new W _).alloc (by simp) _).alloc (by simp; omega) _
  have hq0 : SeqR L tips tb ob m nn A ct B J C0 [] (fun _ => 0) (.slice none 0 0) [] 0 w1 := by
    have z1 : (W.alloc (.cells #[.slice none 0 0] 44)).heap.size = B + 1 := by rw [hB]; simp
    have z2 : ((W.alloc (.cells #[.slice none 0 0] 44)).alloc (.map #[] 0)).heap.size = B + 1 + 1 := by rw [hB]; simp
    have z3 : w1.heap.size = B + 1 + 1 + 1 := by rw [hw1, hB]; simp
    have b1 : Boxed (W.alloc (.cells #[.slice none 0 0] 44)) B 44 (.slice none 0 0) := by rw [hB]; exact Boxed.new W _ _
    have m1 : MapS ((W.alloc (.cells #[.slice none 0 0] 44)).alloc (.map #[] 0)) (B + 1) 0 fun _ => none := by have := MapS.made (W.alloc (.cells #[.slice none 0 0] 44)); rw [z1] at this; exact this
    have x1 : Boxed w1 (B + 1 + 1) 69 (.map (some (B + 1))) := by have := Boxed.new ((W.alloc (.cells #[.slice none 0 0] 44)).alloc (.map #[] 0)) 69 (.map (some (B + 1))); rw [z2, ← hw1] at this; exact this
    have hn : ∀ k, Mine B (B + 1 + 1) (B + 1) (.slice none 0 0) k → B ≤ k := by
      rintro k (rfl | rfl | rfl | hk)
      · omega
      · omega
      · omega
      · cases hk
    refine ⟨⟨?_, OwK.nil _ _ _ _ _, x1, ?_, fun x => by simp, fun _ => Nat.le_refl _, ⟨by omega, by omega, by omega, by omega⟩, ⟨by omega, by omega, by omega⟩⟩, HRd.out.st _ _ _ _ HJ.out (But.of_new hb1), HF.out.but (But.of_new (S := fun _ => False) hb1) (fun _ _ h => h), ?_, HC.out, fun k hk => by rw [hB]; exact HSl.out k hk⟩
    · rw [hw1]; exact (b1.alloc _).alloc _
    · rw [hw1]; exact m1.below (below_new _ _) m1.lt
    · intro k hk hc
      have h1 := HRd.out.lt _ _ _ HJ.out k hc
      have h2 := hn k hk
      omega
  have HW1 := Lib.hid hw1; have HB := Lib.hid hB
  have HQ0 := Lib.hid hq0
  have hbx := hq0.fx.tbx.cell
  rw [← hB] at HRd ⊢
  rw [← hw1]
  clear hw1 hb1 hq0 hB HJ HF HC HSl
  go_wp2_with fail
  go_loopw [19] (fun i wr => ∃ k : Nat, k ≤ tips.length ∧ i = .int .i64 k ∧ ∃ row c v, Hid (SeqR L tips tb ob m nn A ct B J C0 row c v [] k wr ∧ row.Nodup ∧ (∀ x, x ∈ row ↔ x ∈ tips.take k) ∧ row.length ≤ k)) (fun i _ => tips.length - (intOf i).toNat)
  case atStart => exact ⟨0, Nat.zero_le _, rfl, _, _, _, Lib.hid ⟨HQ0.out, List.nodup_nil, fun x => by simp, Nat.zero_le _⟩⟩
  case round =>
    obtain ⟨k, hk, rfl, row, c, v, hr⟩ := hrel
    by_cases hlt : k < tips.length
    · obtain ⟨h1, h2, h3, h4⟩ := hr.out
      obtain ⟨g, o, c', e, _, hg⟩ := RdK.pos h1.fx.tr (by omega)
      cases e
      have p0 := StrsR.cell h1.fx.tr k hlt
      have hlen := HS.out _ (getD_mem tips [] k hlt)
      have htk := take_getD tips [] k hlt
      obtain ⟨x, hx⟩ : ∃ x, x = tips.getD k ([] : Bs) := ⟨_, rfl⟩
      rw [← hx] at p0 hlen htk
      unfold SV at p0
      have HM := Lib.hid (meet_any h1.ms x (by omega) (by omega) (by omega))
      have H1 := Lib.hid h1
      have HN : Hid ((addR row x).Nodup ∧ (∀ y, y ∈ addR row x ↔ y ∈ tips.take (k + 1)) ∧ (addR row x).length ≤ k + 1) := Lib.hid (by
        unfold addR
        rw [htk]
        by_cases hm : x ∈ row
        · rw [if_pos hm]
          refine ⟨h2, fun y => ?_, by omega⟩
          rw [List.mem_append, ← h3 y]
          exact ⟨.inl, fun h => h.elim id (fun h => by rw [List.mem_singleton] at h; rw [h]; exact hm)⟩
        · rw [if_neg hm]
          refine ⟨?_, fun y => ?_, by simp; omega⟩
          · rw [List.nodup_append]
            exact ⟨h2, by simp, fun a ha b hb e => by rw [List.mem_singleton] at hb; rw [← hb, ← e] at hm; exact hm ha⟩
          · rw [List.mem_append, List.mem_append, h3 y])
      clear h1 h2 h3 h4 hx htk hr
      go_wp2_with fail
      refine HM.out.mono ?_
      intro e w2 hm
      obtain ⟨v', hq, _, _⟩ := H1.out.met HRd.out hm
      obtain rfl := hm.1
      have HQ := Lib.hid hq
      clear hq hm
      go_wp2_with fail
      go_roundw
      case rel => exact ⟨k + 1, hlt, by go_num, _, _, _, Lib.hid ⟨HQ.out, HN.out⟩⟩
      case measure => simp [intOf]; omega
    · obtain rfl : k = tips.length := by omega
      rw [List.take_length] at hr
      have HR0 : Hid (SeqR L tips tb ob m nn A ct B J C0 row c v [] tips.length wr ∧ RowI (wfL L) tips row 0 ∧ row.length ≤ tips.length) := Lib.hid (by
        obtain ⟨h1, h2, h3, h4⟩ := hr.out
        exact ⟨h1, ⟨h2, fun x hx => .tip ((h3 x).1 hx), fun x hx => (h3 x).2 hx, fun x hx => by simp at hx⟩, h4⟩)
      clear hr hbx HQ0
      go_wp2_with fail
      go_loopw [9] (fun v9 wr => ∃ i : Nat, v9 = .int .i64 i ∧ ∃ C row c v n, Hid (SeqR L tips tb ob m nn A ct B J C row c v (row.take i) n wr ∧ RowI (wfL L) tips row i ∧ i ≤ row.length ∧ n ≤ 1000 + 256 * i)) (fun v9 _ => 600000 - (intOf v9).toNat)
      case atStart => exact ⟨0, rfl, C0, _, _, _, _, Lib.hid ⟨HR0.out.1, HR0.out.2.1, Nat.zero_le _, by omega⟩⟩
      case round =>
        obtain ⟨i, rfl, C, row, c, v, n, hr⟩ := hrel
        clear HR0
        obtain ⟨h1, h2, h3, h4⟩ := hr.out
        have hU : row.length ≤ 513000 := by have := rowI_len h2; omega
        have d0 := h1.ms.rbx.cell
        obtain ⟨Ar, cr, rfl⟩ := own_slice h1.ms.own
        by_cases hlt : i < row.length
        · obtain ⟨gr, cp, e, hgB, hgl⟩ := World.ownsRow.form h1.ms.own (by omega)
          cases e
          have p0 := StrsR.cell (h1.ms.own.rd strC_len) i hlt
          have hxl : (row.getD i []).length ≤ 10000 := reach_len HS.out (h2.rc _ (getD_mem row [] i hlt))
          obtain ⟨x, hx⟩ : ∃ x, x = row.getD i ([] : Bs) := ⟨_, rfl⟩
          rw [← hx] at p0 hxl
          unfold SV at p0
          have q0 := h1.fx.obx.cell
          obtain ⟨e1, e2, e3⟩ := ofF_get L x
          have hdl : (dataB L x).length ≤ 10000 := dataB_le fun y hy => (HD.out y hy).2
          obtain ⟨kk, hkk⟩ : ∃ kk, kk = kindB L x := ⟨_, rfl⟩
          obtain ⟨dd, hdd⟩ : ∃ dd, dd = dataB L x := ⟨_, rfl⟩
          obtain ⟨th, hth⟩ : ∃ th, th = thB L x := ⟨_, rfl⟩
          rw [← hkk, ← hdd] at e1 e3
          rw [← hdd] at hdl
          rw [← hth] at e2
          have HL : Hid (∀ W, Below wr.heap.size wr W → (Instr.lookup 63 (.map (some m)) (.string ⟨x.toArray⟩) true).run Tryz.prog W = .ok (.tuple #[.agg #[.int .i64 kk, .string ⟨dd.toArray⟩], .bool th]) W) := Lib.hid fun W hW => by
            have := (h1.fx.mp.below hW h1.fx.mp.lt).look_ok Tryz.underlying63 (zeroObj W) (x := x) (by unfold maxLen; omega)
            rw [e1, e2] at this
            exact this
          have HP := Lib.hid (And.intro d0 (And.intro p0 q0))
          have HX := Lib.hid hx; have HK := Lib.hid hkk; have HDd := Lib.hid hdd; have HTh := Lib.hid hth; have HE3 := Lib.hid e3
          have HU := Lib.hid hU; have HXl := Lib.hid hxl; have HDl := Lib.hid hdl; have HLt := Lib.hid hlt
          clear hx hkk hdd hth e1 e2 e3 h1 h2 h3 h4 hU q0 p0 hgB hgl hdl hxl
          go_upto_region 11 with fail
          refine AnyK.start wr.heap.size wr (by kernel_rfl) ?_
          have LD := Lib.hid (show Below wr.heap.size wr wr.drew from (Below.refl _ _).drew)
          refine AnyK.take 0 (.map (some m)) (LD.out) rfl (by kernel_rfl) (by kernel_rfl) (by kernel_rfl) (fun _ _ _ h => h) (by kernel_rfl) (fun W hW => y_load (sv := .pointer (some ⟨ob, 0, none⟩)) rfl (by kernel_rfl) (l_ofmap W _ _ _ (cell_to HP.out.2.2 hW))) ?_
          refine AnyK.take 1 (.slice (some ⟨gr, 0, none⟩) row.length cr) (LD.out) rfl (by kernel_rfl) (by kernel_rfl) (by kernel_rfl) (fun _ _ _ h => h) (by kernel_rfl) (fun W hW => y_load (sv := .pointer (some ⟨B, 0, none⟩)) rfl (by kernel_rfl) (l_strs W _ _ _ _ _ (cell_to HP.out.1 hW))) ?_
          refine AnyK.take 2 (.int .i64 (i : Int)) (LD.out) rfl (by kernel_rfl) (by kernel_rfl) (by kernel_rfl) (fun _ _ _ h => h) (by kernel_rfl) (fun W hW => by kernel_rfl) ?_
          refine AnyK.take 3 (.pointer (some ⟨gr, 0 + i, none⟩)) (LD.out) rfl (by kernel_rfl) (by kernel_rfl) (by kernel_rfl) (fun _ _ _ h => h) (by kernel_rfl) (fun W hW => y_index (sv := .slice (some ⟨gr, 0, none⟩) row.length cr) (iv := .int .i64 (i : Int)) rfl (by kernel_rfl) (by kernel_rfl) (at_str W gr 0 row.length cr i HLt.out)) ?_
          refine AnyK.take 4 (.string ⟨x.toArray⟩) (LD.out) rfl (by kernel_rfl) (by kernel_rfl) (by kernel_rfl) (fun _ _ _ h => h) (by kernel_rfl) (fun W hW => y_load (sv := .pointer (some ⟨gr, 0 + i, none⟩)) rfl (by kernel_rfl) (l_str W _ _ _ (cell_to HP.out.2.1 hW))) ?_
          refine AnyK.take 5 (.tuple #[.agg #[.int .i64 kk, .string ⟨dd.toArray⟩], .bool th]) (LD.out) rfl (by kernel_rfl) (by kernel_rfl) (by kernel_rfl) (fun _ _ _ h => h) (by kernel_rfl) (fun W hW => y_lookup (mv := .map (some m)) (xv := .string ⟨x.toArray⟩) rfl (by kernel_rfl) (by kernel_rfl) (HL.out W hW)) ?_
          refine AnyK.take 6 (.tuple #[.agg #[.int .i64 kk, .string ⟨dd.toArray⟩], .bool th]) (LD.out) rfl (by kernel_rfl) (by kernel_rfl) (by kernel_rfl) (fun _ _ _ h => h) (by kernel_rfl) (fun W hW => by kernel_rfl) ?_
          refine AnyK.take 7 (.agg #[.int .i64 kk, .string ⟨dd.toArray⟩]) (LD.out) rfl (by kernel_rfl) (by kernel_rfl) (by kernel_rfl) (fun _ _ _ h => h) (by kernel_rfl) (fun W hW => by kernel_rfl) ?_
          refine AnyK.take 8 (.bool th) (LD.out) rfl (by kernel_rfl) (by kernel_rfl) (by kernel_rfl) (fun _ _ _ h => h) (by kernel_rfl) (fun W hW => by kernel_rfl) ?_
          obtain ⟨wd, hwd⟩ : ∃ wd, wd = wr.drew := ⟨_, rfl⟩
          rw [← hwd] at LD ⊢
          have hzd : wd.heap.size = wr.heap.size := by rw [hwd]; rfl
          clear hwd
          refine AnyK.op 9 (.pointer (some ⟨wd.heap.size, 0, none⟩)) (wd.alloc (.cells #[.int .i64 0, .string ⟨#[]⟩] 26)) (by kernel_rfl) rfl (by kernel_rfl) (y_alloc rfl (alloc_obj wd)) (LD.out.alloc LD.out.size _) ?_
          refine AnyK.store 10 (wd.alloc (.cells #[.int .i64 kk, .string ⟨dd.toArray⟩] 26)) (by kernel_rfl) rfl (by kernel_rfl) (y_store (sv := .pointer (some ⟨wd.heap.size, 0, none⟩)) (xv := .agg #[.int .i64 kk, .string ⟨dd.toArray⟩]) rfl (by kernel_rfl) (by kernel_rfl) (store_obj wd kk ⟨dd.toArray⟩)) (LD.out.alloc LD.out.size _) ?_
          refine AnyK.take 11 (.bool th) (LD.out.alloc LD.out.size _) rfl (by kernel_rfl) (by kernel_rfl) (by kernel_rfl) (fun _ _ _ h => h) (by kernel_rfl) (fun W hW => by kernel_rfl) ?_
          refine AnyK.done _ (by kernel_rfl) ?_
          go_simp
          obtain ⟨w1, hw1⟩ : ∃ w1, w1 = wd.alloc (.cells #[.int .i64 kk, .string ⟨dd.toArray⟩] 26) := ⟨_, rfl⟩
          have L1 : Hid (Below wr.heap.size wr w1) := Lib.hid (by rw [hw1]; exact LD.out.alloc LD.out.size _)
          have hk1 : w1.heap[wr.heap.size]? = some (.cells #[.int .i64 kk, .string ⟨dd.toArray⟩] 26 (0, 0)) := by rw [hw1, ← hzd]; exact heap_alloc_new wd _
          have HK1 := Lib.hid hk1
          have HQ : Hid (∀ W, Below wr.heap.size wr W → SeqR L tips tb ob m nn A ct B J C row c (.slice (some ⟨gr, 0, none⟩) row.length cr) (row.take i) n W) := Lib.hid fun W hW => hr.out.1.new HRd.out hW
          have HWt : Hid (∀ W, Below w1.heap.size w1 W → Calls Tryz.prog 51 #[.agg #[.int .i64 kk, .string ⟨dd.toArray⟩]] W (WsPost (wantsO kk dd) W)) := Lib.hid fun W hW => by
            have hb : Below w0.heap.size w0 W := by
              have h0 := HRd.out.bl _ _ _ hr.out.1.j
              have h2 := h0.trans (L1.out.mono h0.size)
              exact h2.trans (hW.mono h2.size)
            exact Wants_any kk dd (by have := HDl.out; omega) W (HE.out.1.below hb) (HE.out.2.below hb)
          obtain ⟨ws, hws⟩ : ∃ ws, ws = wfL L x := ⟨_, rfl⟩
          have hwe : (wantsO kk dd).getD [] = ws := by rw [hws]; exact HE3.out
          have HWs := Lib.hid hws; have HWe := Lib.hid hwe
          have HP1 := Lib.hid (And.intro (cell_to HP.out.1 L1.out) (And.intro (cell_to HP.out.2.1 L1.out) (And.intro ((cell_of_row w1 _ 0 _ _ _ hk1).trans rfl : w1.cell? ⟨wr.heap.size, 0, none⟩ = some (.int .i64 kk)) ((cell_of_row w1 _ 1 _ _ _ hk1).trans rfl : w1.cell? ⟨wr.heap.size, 1, none⟩ = some (.string ⟨dd.toArray⟩)))))
          rw [← hw1]
          have hzr : wr.heap.size < w1.heap.size := lt_heap hk1
          have HZr := Lib.hid hzr
          clear hw1 hk1 hws hwe hzd LD HL HE3 HP hzr
          go_upto_region 12 with fail
          go_cut [12] from 42 to 49 (fun t wx => ∃ b A2 c2, t = .pointer (some ⟨b, 0, none⟩) ∧ Hid (MetAt w1 wx b x th A2 ws c2))
          case first =>
            refine AnyK.start w1.heap.size w1 (by kernel_rfl) ?_
            have LD := Lib.hid (show Below w1.heap.size w1 w1.drew from (Below.refl _ _).drew)
            refine AnyK.take 0 (.slice (some ⟨gr, 0, none⟩) row.length cr) (LD.out) rfl (by kernel_rfl) (by kernel_rfl) (by kernel_rfl) (fun _ _ _ h => h) (by kernel_rfl) (fun W hW => y_load (sv := .pointer (some ⟨B, 0, none⟩)) rfl (by kernel_rfl) (l_strs W _ _ _ _ _ (cell_to HP1.out.1 hW))) ?_
            refine AnyK.take 1 (.int .i64 (i : Int)) (LD.out) rfl (by kernel_rfl) (by kernel_rfl) (by kernel_rfl) (fun _ _ _ h => h) (by kernel_rfl) (fun W hW => by kernel_rfl) ?_
            refine AnyK.take 2 (.pointer (some ⟨gr, 0 + i, none⟩)) (LD.out) rfl (by kernel_rfl) (by kernel_rfl) (by kernel_rfl) (fun _ _ _ h => h) (by kernel_rfl) (fun W hW => y_index (sv := .slice (some ⟨gr, 0, none⟩) row.length cr) (iv := .int .i64 (i : Int)) rfl (by kernel_rfl) (by kernel_rfl) (at_str W gr 0 row.length cr i HLt.out)) ?_
            refine AnyK.take 3 (.string ⟨x.toArray⟩) (LD.out) rfl (by kernel_rfl) (by kernel_rfl) (by kernel_rfl) (fun _ _ _ h => h) (by kernel_rfl) (fun W hW => y_load (sv := .pointer (some ⟨gr, 0 + i, none⟩)) rfl (by kernel_rfl) (l_str W _ _ _ (cell_to HP1.out.2.1 hW))) ?_
            refine AnyK.take 4 (.bool th) (LD.out) rfl (by kernel_rfl) (by kernel_rfl) (by kernel_rfl) (fun _ _ _ h => h) (by kernel_rfl) (fun W hW => by kernel_rfl) ?_
            refine AnyK.take 5 (.agg #[.int .i64 kk, .string ⟨dd.toArray⟩]) (LD.out) rfl (by kernel_rfl) (by kernel_rfl) (by kernel_rfl) (fun _ _ _ h => h) (by kernel_rfl) (fun W hW => y_load (sv := .pointer (some ⟨wr.heap.size, 0, none⟩)) rfl (by kernel_rfl) (l_obj W _ _ _ _ (cell_to HP1.out.2.2.1 hW) (cell_to HP1.out.2.2.2 hW))) ?_
            obtain ⟨wd, hwd⟩ : ∃ wd, wd = w1.drew := ⟨_, rfl⟩
            rw [← hwd] at LD ⊢
            have hzd : wd.heap.size = w1.heap.size := by rw [hwd]; rfl
            clear hwd
            refine AnyK.callop 6 8 (by kernel_rfl) 51 #[.agg #[.int .i64 kk, .string ⟨dd.toArray⟩]] (.pointer (some ⟨wd.heap.size, 0, none⟩)) (wd.alloc (.cells #[.string ⟨#[]⟩, .bool false, .slice none 0 0] 67)) rfl rfl (by kernel_rfl) (by kernel_rfl) (by kernel_rfl) (y_alloc rfl (alloc_met wd)) (LD.out.alloc LD.out.size _) ((HWt.out wd LD.out).mono ?_) ?_
            · rintro e w2 ⟨hb, vw, rfl, hrw, hlw, hfr⟩
              rw [HWe.out] at hrw hlw
              obtain ⟨A2, c2, rfl⟩ := hrw.shape
              have L2 := LD.out.trans (hb.mono LD.out.size)
              refine ⟨_, rfl, L2, ?_⟩
              refine AnyK.take 7 (.agg #[.string ⟨x.toArray⟩, .bool th, .slice A2 ws.length c2]) L2 rfl (by kernel_rfl) (by kernel_rfl) (by kernel_rfl) (fun _ _ _ h => h) (by kernel_rfl) (fun W hW => by kernel_rfl) ?_
              refine AnyK.op 8 (.pointer (some ⟨w2.heap.size, 0, none⟩)) (w2.alloc (.cells #[.string ⟨#[]⟩, .bool false, .slice none 0 0] 67)) (by kernel_rfl) rfl (by kernel_rfl) (y_alloc rfl (alloc_met w2)) (L2.alloc L2.size _) ?_
              refine AnyK.store 9 (w2.alloc (.cells #[.string ⟨x.toArray⟩, .bool th, .slice A2 ws.length c2] 67)) (by kernel_rfl) rfl (by kernel_rfl) (y_store (sv := .pointer (some ⟨w2.heap.size, 0, none⟩)) (xv := .agg #[.string ⟨x.toArray⟩, .bool th, .slice A2 ws.length c2]) rfl (by kernel_rfl) (by kernel_rfl) (store_met w2 _ _ _ _ _)) (L2.alloc L2.size _) ?_
              refine AnyK.done _ (by kernel_rfl) ?_
              go_simp
              go_wp2
              go_meet
              case rel =>
                have hk := heap_alloc_new w2 (.cells #[.string ⟨x.toArray⟩, .bool th, .slice A2 ws.length c2] 67)
                exact ⟨w2.heap.size, A2, c2, rfl, Lib.hid ⟨L2.alloc L2.size _, L2.size, by simp, (cell_of_row _ _ 0 _ _ _ hk).trans rfl, (cell_of_row _ _ 1 _ _ _ hk).trans rfl, (cell_of_row _ _ 2 _ _ _ hk).trans rfl, hrw.below (below_new w2 _) (Nat.le_refl _), hfr.mono (by omega)⟩⟩
            · have hk3 := heap_alloc_new wd (.cells #[.string ⟨#[]⟩, .bool false, .slice none 0 0] 67)
              have L3 := LD.out.alloc LD.out.size (.cells #[.string ⟨#[]⟩, .bool false, .slice none 0 0] 67)
              refine AnyK.call 6 51 #[.agg #[.int .i64 kk, .string ⟨dd.toArray⟩]] (by kernel_rfl) rfl (by kernel_rfl) (by kernel_rfl) ((HWt.out _ L3).mono ?_)
              rintro e w2 ⟨hb, vw, rfl, hrw, hlw, hfr⟩
              rw [HWe.out] at hrw hlw
              obtain ⟨A2, c2, rfl⟩ := hrw.shape
              have L2 := L3.trans (hb.mono L3.size)
              have hk2 := (hb.block _ (lt_heap hk3)).trans hk3
              obtain ⟨w4, hs4, hk4, hb4⟩ := store_met_at w2 wd.heap.size _ _ _ hk2 ⟨x.toArray⟩ th A2 ws.length c2
              have L4 : Below w1.heap.size w1 w4 := L2.trans (hb4.below (fun k _ e => by rw [e, hzd]; exact Nat.le_refl _) L2.size)
              refine ⟨_, rfl, L2, ?_⟩
              refine AnyK.take 7 (.agg #[.string ⟨x.toArray⟩, .bool th, .slice A2 ws.length c2]) L2 rfl (by kernel_rfl) (by kernel_rfl) (by kernel_rfl) (fun _ _ _ h => h) (by kernel_rfl) (fun W hW => by kernel_rfl) ?_
              refine AnyK.store 9 w4 (by kernel_rfl) rfl (by kernel_rfl) (y_store (sv := .pointer (some ⟨wd.heap.size, 0, none⟩)) (xv := .agg #[.string ⟨x.toArray⟩, .bool th, .slice A2 ws.length c2]) rfl (by kernel_rfl) (by kernel_rfl) hs4) L4 ?_
              refine AnyK.done _ (by kernel_rfl) ?_
              have HM : Hid (MetAt w1 w4 wd.heap.size x th A2 ws c2) := Lib.hid ⟨L4, by omega, lt_heap hk4, (cell_of_row _ _ 0 _ _ _ hk4).trans rfl, (cell_of_row _ _ 1 _ _ _ hk4).trans rfl, (cell_of_row _ _ 2 _ _ _ hk4).trans rfl, hrw.but hb4 (fun g hg e => by
                have h1 := hfr g hg
                simp at h1
                omega), hfr.mono (by simp; omega)⟩
              clear hs4 hk4 hb4 L4 hk2 hk3 hb hrw hlw hfr L2 L3 hzd LD
              go_simp
              go_wp2
              go_meet
              case rel => exact ⟨wd.heap.size, A2, c2, rfl, HM⟩
          case rest =>
          obtain ⟨b, A2, c2, rfl, hm⟩ := hcut
          have hs1 := HQ.out wc (L1.out.trans (hm.out.bl.mono L1.out.size))
          have hwl : ws = wfL L x := HWs.out
          have hyd := HRd.out.rd (row.take i) x A2 c2 C wc hs1.j (hr.out.2.1.rc x (by rw [HX.out]; exact getD_mem row [] i HLt.out)) (by rw [List.length_take]; have := HU.out; omega) (by have := HXl.out; omega) (by rw [← hwl]; exact hm.out.wr)
          unfold metV at hyd
          rw [← hwl, ← HTh.out] at hyd
          have htk : row.take i ++ [x] = row.take (i + 1) := by rw [HX.out]; exact (take_getD row [] i HLt.out).symm
          rw [htk] at hyd
          obtain ⟨fn, tmps, assign, body, hy, hR⟩ := hyd
          obtain ⟨m0, m1, m2⟩ := And.intro hm.out.c0 (And.intro hm.out.c1 hm.out.c2)
          have HS1 := Lib.hid hs1
          clear hs1 hwl htk
          go_upto_region 13 with fail
          refine (wpIn_wide (n := 6)).1 ?_
          gi_wp2
          refine hR.mono ?_
          rintro e W3 (⟨rfl, C', hJ3, hb3, hC3⟩ | ⟨rfl, hx3⟩)
          · have hq3 := HS1.out.round hJ3 hb3 hC3
            have hnC : ∀ k, w1.heap.size ≤ k → ¬ C k := fun k hk hc => by
              have h5 := HRd.out.lt _ _ _ hr.out.1.j k hc
              have h6 := HZr.out
              omega
            have k2 : W3.cell? ⟨b, 2, none⟩ = some (.slice A2 ws.length c2) := (hb3.cell (p := ⟨b, 2, none⟩) hm.out.hi (hnC _ hm.out.lo)).trans hm.out.c2
            have hw3 : WantsR W3 (.slice A2 ws.length c2) ws := RdK.but hm.out.wr hb3 (fun g hg => hnC g (hm.out.fr g hg))
            have hmi : ∀ g, (Value.slice A2 ws.length c2).ownBlock = some g → ¬ Mine B (B + 1 + 1) (B + 1) (.slice (some ⟨gr, 0, none⟩) row.length cr) g := fun g hg hM => by
              have h5 := (hr.out.1.ms.low hM).2
              have h6 := hm.out.fr g hg
              have h7 := HZr.out
              omega
            have hRI := hr.out.2.1
            have hn4 := hr.out.2.2.2
            have HQ3 := Lib.hid hq3; have HW3 := Lib.hid hw3; have HMi := Lib.hid hmi; have HRI := Lib.hid hRI; have HN4 := Lib.hid hn4
            have HWsl : Hid (ws.length ≤ 256 ∧ ∀ p ∈ ws, p.1.length ≤ 10000) := Lib.hid ⟨by rw [HWs.out]; exact wfL_le L x, fun p hp => by
              rw [HWs.out] at hp
              obtain ⟨u, _, hu⟩ := wfL_mem hp
              have := wants_mem hu
              omega⟩
            have HG0 : Hid (Grew row [] ws 0) := Lib.hid ⟨by rw [List.append_nil]; exact hRI.nd, (fun y hy => by cases hy), (fun p hp => by simp at hp), Nat.le_refl _⟩
            obtain ⟨v0, hv0⟩ : ∃ v0, v0 = (Value.slice (some ⟨gr, 0, none⟩) row.length cr) := ⟨_, rfl⟩
            rw [← hv0] at HQ3 HMi
            clear hq3 hnC hw3 hmi hRI hn4 hv0 hJ3 hb3 hC3 hy hR m0 m1 m2 hr HS1 HQ HWt HWe HP1
            gi_wp2
            go_wp2_with fail
            go_loopw [57] (fun v57 wq => ∃ j : Nat, v57 = .int .i64 j ∧ j ≤ ws.length ∧ ∃ ext c' v', Hid (SeqR L tips tb ob m nn A ct B J C' (row ++ ext) c' v' (row.take (i + 1)) (n + j) wq ∧ Grew row ext ws j ∧ WantsR wq (.slice A2 ws.length c2) ws ∧ ∀ g, (Value.slice A2 ws.length c2).ownBlock = some g → ¬ Mine B (B + 1 + 1) (B + 1) v' g)) (fun v57 _ => ws.length - (intOf v57).toNat)
            case atStart => exact ⟨0, rfl, Nat.zero_le _, [], c, v0, Lib.hid ⟨by rw [List.append_nil]; exact HQ3.out, HG0.out, HW3.out, HMi.out⟩⟩
            case round =>
              obtain ⟨j, rfl, hj, ext, c', v', hr⟩ := hrel
              by_cases hjl : j < ws.length
              · obtain ⟨g1, g2, g3, g4⟩ := hr.out
                obtain ⟨gw, ow, c3, e, _, hgw⟩ := RdK.pos g3 (by omega)
                cases e
                obtain ⟨p0, p1⟩ := WantsR.cells g3 j hjl
                obtain ⟨ext', hx1, hx2⟩ := g2.step hjl
                have hyl := HWsl.out.2 _ (getD_mem ws ([], 0) j hjl)
                obtain ⟨p, hp⟩ : ∃ p, p = ws.getD j ([], 0) := ⟨_, rfl⟩
                rw [← hp] at p0 p1 hx1 hyl
                obtain ⟨y, yk⟩ := p
                unfold SV at p0
                simp only at p0 p1 hx1 hyl
                obtain ⟨wb, hwb⟩ : ∃ wb, wb = wr.alloc (.cells #[.string ⟨y.toArray⟩, .int .i64 yk] 101) := ⟨_, rfl⟩
                have hbb : Below wr.heap.size wr wb := by rw [hwb]; exact below_new wr _
                have g5 := g1.new HRd.out hbb
                have y0 : wb.cell? ⟨wr.heap.size, 0, none⟩ = some (.string ⟨y.toArray⟩) := by rw [hwb]; exact (cell_of_row _ _ 0 _ _ _ (heap_alloc_new wr _)).trans rfl
                have hrl : (row ++ ext).length ≤ 1000000 := by
                  have h5 := HU.out
                  have h6 := g2.len
                  have h7 := HWsl.out.1
                  rw [List.length_append]; omega
                have hnj : n + j ≤ 1000000000 := by
                  have h5 := HN4.out
                  have h6 := HU.out
                  have h7 := HLt.out
                  have h8 := HWsl.out.1
                  omega
                have HM := Lib.hid (meet_any g5.ms y (by omega) (by omega) (by omega))
                have hw5 := g3.below hbb (Nat.le_refl _)
                have G5 := Lib.hid g5; have HW5 := Lib.hid hw5; have G4 := Lib.hid g4; have HX1 := Lib.hid hx1; have HX2 := Lib.hid hx2; have HWb := Lib.hid hwb; have Y0 := Lib.hid y0
                have HGw := Lib.hid (Nat.lt_of_lt_of_le hgw hbb.size)
                clear g1 g2 g3 g4 g5 hx1 hx2 hyl hp hwb hbb hw5 hrl hnj y0 hr hgw
                go_upto_region 17 with fail
                rw [← HWb.out]
                clear p0 p1
                have y0 := Y0.out
                go_wp2_with fail
                refine HM.out.mono ?_
                intro e w2 hm2
                obtain ⟨v'', hq, hb6, hmn⟩ := G5.out.met HRd.out hm2
                obtain rfl := hm2.1
                rw [HX1.out] at hq
                have HF : Hid (SeqR L tips tb ob m nn A ct B J C' (row ++ ext') (incC c' y) v'' (row.take (i + 1)) (n + (j + 1)) w2 ∧ Grew row ext' ws (j + 1) ∧ WantsR w2 (.slice (some ⟨gw, ow, none⟩) ws.length c2) ws ∧ ∀ g, (Value.slice (some ⟨gw, ow, none⟩) ws.length c2).ownBlock = some g → ¬ Mine B (B + 1 + 1) (B + 1) v'' g) := Lib.hid ⟨hq, HX2.out, RdK.but HW5.out hb6 (fun g hg hS => G4.out g hg hS.2.2), fun g hg hS => (hmn g hS).elim (G4.out g hg) (fun h => by cases hg; have h9 := HGw.out; simp only at h9 h; omega)⟩
                have hw256 := HWsl.out.1
                clear hq hb6 hmn hm2 y0
                go_wp2_with fail
                go_roundw
                case rel => exact ⟨j + 1, by go_num, hjl, ext', _, _, HF⟩
                case measure => simp [intOf]; omega
              · obtain rfl : j = ws.length := by omega
                obtain ⟨g1, g2, _, _⟩ := hr.out
                have HF : Hid (∃ C rw2 c v n, SeqR L tips tb ob m nn A ct B J C rw2 c v (rw2.take (i + 1)) n wr ∧ RowI (wfL L) tips rw2 (i + 1) ∧ i + 1 ≤ rw2.length ∧ n ≤ 1000 + 256 * (i + 1)) := Lib.hid ⟨C', row ++ ext, c', v', n + ws.length, by rw [List.take_append_of_le_length (by have := HLt.out; omega)]; exact g1, rowI_step HRI.out HLt.out HX.out HWs.out g2, by have := HLt.out; simp; omega, by have := HWsl.out.1; have := HN4.out; omega⟩
                clear g1 g2 hr
                have hi3 : i ≤ 513000 := by have := HU.out; have := HLt.out; omega
                go_wp2_with fail
                go_roundw
                case rel =>
                  obtain ⟨C, rw2, c, v, n, h⟩ := HF.out
                  exact ⟨i + 1, by go_num, C, rw2, c, v, n, Lib.hid h⟩
                case measure => have := HU.out; have := HLt.out; simp [intOf]; omega
          · gi_wp2
            go_wp2_with fail
            refine bodyPost_ret (results_none rfl _ _ _) rfl ?_
            exact ⟨⟨_, rfl⟩, .inr hx3⟩
        · have hF : Hid (∃ row C, RowI (wfL L) tips row row.length ∧ J row C wr) := Lib.hid ⟨row, C, by
            have : i = row.length := by omega
            rw [this] at h2; exact h2, by
            have := h1.j
            rw [List.take_of_length_le (by omega)] at this; exact this⟩
          clear h1 h2 h3 h4 hr hU
          go_wp2_with fail
          go_end0
          exact ⟨⟨_, rfl⟩, .inl hF.out⟩
end Go.Proofs.YthbmaloajgkhmaaGreatDoor


namespace Go.Proofs.YthbmaloajgkhmaaGreatDoor
open Go Go.RowKit Go.Maps Go.Sort
set_option maxHeartbeats 4000000 in
set_option maxRecDepth 100000 in
theorem Grow_nil (n : Nat) (hn : n ≤ 1000000) (w : World) : Calls Tryz.prog 41 #[.slice none 0 0, .int .i64 (n : Int)] w fun e w' => ∃ v, e = .returned v ∧ NewH w.heap.size w' v [] ∧ Below w.heap.size w w' := by
  rcases Nat.eq_zero_or_pos n with rfl | h0
  · go_enter Tryz.func41, Tryz.ntmps41
    go_wp2_with fail
    go_ret
    exact ⟨_, rfl, OwK.nil _ _ _ _ _, Below.refl _ _⟩
  · obtain ⟨z, hz, hzs⟩ := heldK.info
    obtain ⟨i0, hi, hz0, hz1, hz2⟩ := info_parts hz
    obtain ⟨ii, hii⟩ : ∃ i, Tryz.prog.info? 3 = some i := Option.isSome_iff_exists.1 (by kernel_rfl)
    have hrun := fun ty => Lib.run_append_grow_zeros w 23 3 ty 35 i0 z .i64 .i64 Tryz.underlying23 Tryz.underlying3 hi hz0 none 0 0 [] (run_firstCells_none w.drew i0.size 0 0 0) n h0 (by omega) (by omega) (by omega)
      (by rw [hz2]; omega) (by rw [Nat.zero_add]; exact growslice_fits h0 (by rw [hz2]; omega))
    rw [Nat.zero_add] at hrun
    obtain ⟨G, hG⟩ : ∃ G, G = grownCap w n 0 35 := ⟨_, rfl⟩
    have hge := grownCap_ge w n 0 35
    have hcm := grownCap_le_maxLen w n 0 35 (by unfold maxLen; omega)
    rw [← hG] at hrun hge hcm
    obtain ⟨w1, hw1⟩ : ∃ w1, w1 = w.drew.alloc (.cells (([] : List Value).toArray ++ Builtin.zeroCells z.cells n ++ Builtin.zeroCells z.cells (G - n)) 35) := ⟨_, rfl⟩
    rw [← hw1] at hrun
    have hb1 : Below w.heap.size w w1 := by rw [hw1]; exact (show Below w.heap.size w w.drew from ⟨rfl, rfl, rfl, Nat.le_refl _, fun _ _ => rfl⟩).alloc (Nat.le_refl _) _
    have hN : NewH w.heap.size w1 (.slice (some ⟨w.heap.size, 0, none⟩) 0 G) [] := by
      refine ⟨rfl, .inr ⟨w.heap.size, G, _, rfl, Nat.le_refl _, by rw [hw1]; exact heap_alloc_new w.drew _, Nat.zero_le _, hcm, ?_, by simp⟩⟩
      simp only [Array.size_append, size_zeroCells, hzs, List.size_toArray, List.length_nil]
      omega
    have hsh := Lib.hid (fun W => sh_held W w.heap.size 0 n G 0 (Nat.zero_le _))
    have hG63 : G ≤ 9223372036854775807 := by unfold maxLen at hcm; omega
    have HR := Lib.hid hrun; have HB1 := Lib.hid hb1; have HN := Lib.hid hN
    have h1 : ¬ ((n : Int) < 0) := by omega
    have h4 : (0 : Int) < (n : Int) := by omega
    clear hz hzs hi hz0 hz1 hz2 hii hrun hG hge hcm hw1 hb1 hN
    go_enter Tryz.func41, Tryz.ntmps41
    go_wp2_with (first | (at_builtin; refine Lib.wpList_append_run _ rfl _ _ _ _ rfl _ _ rfl rfl _ _ (HR.out _) ?_) | (refine wpList_slice rfl _ _ _ _ rfl _ _ _ _ rfl rfl rfl (hsh.out _) ?_))
    go_ret
    exact ⟨_, rfl, HN.out, HB1.out⟩
set_option maxHeartbeats 8000000 in
set_option maxRecDepth 100000 in
theorem Concat_any {w : World} {va vb : Value} {a b : List Hld} {g : Nat} (ha : HldsR w va a) (hb : HldsR w vb b) (hg : w.heap[g]? = some (.cells #[va, vb] 23 (0, 0))) (hla : a.length ≤ 100000) (hlb : b.length ≤ 100000) :
    Calls Tryz.prog 22 #[.slice (some ⟨g, 0, none⟩) 2 2] w fun e w' => ∃ v, e = .returned v ∧ NewH w.heap.size w' v (a ++ b) ∧ Below w.heap.size w w' := by
  obtain ⟨A, ca, rfl⟩ := ha.shape
  obtain ⟨B, cb, rfl⟩ := hb.shape
  have c0 : w.cell? ⟨g, 0, none⟩ = some (.slice A a.length ca) := (cell_of_row w g 0 _ _ _ hg).trans rfl
  have c1 : w.cell? ⟨g, 1, none⟩ = some (.slice B b.length cb) := (cell_of_row w g 1 _ _ _ hg).trans rfl
  have HC := Lib.hid (And.intro c0 c1)
  have Ha := Lib.hid ha; have Hb := Lib.hid hb
  have hgr := Grow_nil (a.length + b.length) (by omega) w
  rw [Int.natCast_add] at hgr
  have HG := Lib.hid hgr
  clear ha hb hg hgr
  go_enter Tryz.func22, Tryz.ntmps22
  go_wp2_with fail
  refine wp_loop_rounds 3 ?_
  rw [rounds_succ]
  go_wp2_with fail
  rw [rounds_succ]
  go_wp2_with fail
  rw [rounds_succ]
  go_wp2_with fail
  refine HG.out.mono ?_
  rintro e w2 ⟨v, rfl, hN, hb2⟩
  have c0 := cell_to HC.out.1 hb2
  have c1 := cell_to HC.out.2 hb2
  have HN := Lib.hid hN; have HB2 := Lib.hid hb2
  clear hN hb2
  go_wp2_with fail
  refine wp_loop_rounds 3 ?_
  rw [rounds_succ]
  go_wp2_with (at_builtin; refine wpList_all heldK rfl _ _ rfl w.heap.size v (.slice A a.length ca) [] a rfl rfl HN.out (Ha.out.below HB2.out (Nat.le_refl _)) (by simp; omega) (by decide) HB2.out.size ?_)
  intro v3 w3 hN3 hb3
  have c0 := (hb3.cell (p := ⟨g, 0, none⟩) (World.block_lt_of_cell? w _ HC.out.1)).trans c0
  have c1 := (hb3.cell (p := ⟨g, 1, none⟩) (World.block_lt_of_cell? w _ HC.out.2)).trans c1
  have HN3 := Lib.hid hN3; have HB3 := Lib.hid (HB2.out.trans hb3)
  clear hN3 hb3
  go_wp2_with fail
  rw [rounds_succ]
  go_wp2_with (at_builtin; refine wpList_all heldK rfl _ _ rfl w.heap.size v3 (.slice B b.length cb) ([] ++ a) b rfl rfl HN3.out (Hb.out.below HB3.out (Nat.le_refl _)) (by simp; omega) (by decide) HB3.out.size ?_)
  intro v4 w4 hN4 hb4
  have HN4 := Lib.hid hN4; have HB4 := Lib.hid (HB3.out.trans hb4)
  have c0 := (hb4.cell (p := ⟨g, 0, none⟩) (World.block_lt_of_cell? w _ HC.out.1)).trans c0
  have c1 := (hb4.cell (p := ⟨g, 1, none⟩) (World.block_lt_of_cell? w _ HC.out.2)).trans c1
  clear hN4 hb4
  go_wp2_with fail
  rw [rounds_succ]
  go_wp2_with fail
  go_ret
  exact ⟨_, rfl, HN4.out, HB4.out⟩
set_option maxHeartbeats 4000000 in
set_option maxRecDepth 100000 in
theorem Join_any {w : World} {va vb : Value} {a b : List Hld} (ha : HldsR w va a) (hb : HldsR w vb b) (hla : a.length ≤ 100000) (hlb : b.length ≤ 100000) (hs : ∀ B v' w', NewH B w' v' (a ++ b) → SortOk B (a ++ b) v' w') :
    Calls Tryz.prog 10 #[va, vb] w (SetPost (a ++ b) w) := by
  obtain ⟨w1, hw1⟩ : ∃ w1, w1 = w.alloc (.cells #[va, vb] 23) := ⟨_, rfl⟩
  have hb1 : Below w.heap.size w w1 := by rw [hw1]; exact below_new w _
  have hk1 : w1.heap[w.heap.size]? = some (.cells #[va, vb] 23 (0, 0)) := by rw [hw1]; exact heap_alloc_new w _
  have hC := Concat_any (ha.below hb1 (Nat.le_refl _)) (hb.below hb1 (Nat.le_refl _)) hk1 hla hlb
  obtain ⟨A, ca, rfl⟩ := ha.shape
  obtain ⟨B, cb, rfl⟩ := hb.shape
  have HC := Lib.hid hC; have HW1 := Lib.hid hw1; have HB1 := Lib.hid hb1; have HS := Lib.hid hs
  clear ha hb hC hw1 hb1 hk1 hs
  go_enter Tryz.func10, Tryz.ntmps10
  go_wp2_with fail
  rw [← HW1.out]
  refine HC.out.mono ?_
  rintro e w2 ⟨v, rfl, hN, hb2⟩
  have hR := rising_any hN (by simp; omega) (HS.out _ _ _ hN)
  have h4 := fun w3 (h4 : But (fun k => v.ownBlock = some k) w2 w3) => (HB1.out.trans (hb2.mono HB1.out.size)).trans (h4.below (fun k _ hk => Nat.le_trans HB1.out.size (own_block hN hk).1) (Nat.le_trans HB1.out.size hb2.size))
  obtain ⟨As, cs, rfl⟩ := own_slice hN
  have hla2 : (a ++ b).length = a.length + b.length := List.length_append
  rw [hla2] at hR h4
  have HR := Lib.hid hR; have H4 := Lib.hid h4
  clear hR hN hb2 h4 hla2
  go_wp2_with fail
  refine HR.out.mono ?_
  rintro e w3 ⟨u, r, rfl, h1, h2, h3, h5⟩
  have H1 := Lib.hid h1; have H2 := Lib.hid h2; have H3 := Lib.hid (OwK.mono h3 HB1.out.size); have H5 := Lib.hid (H4.out w3 h5)
  clear h1 h2 h3 h5
  go_wp2_with fail
  go_ret
  exact ⟨_, r, rfl, H1.out, H2.out, H3.out, H5.out⟩
end Go.Proofs.YthbmaloajgkhmaaGreatDoor


namespace Go.Proofs.YthbmaloajgkhmaaGreatDoor
def hT : Hld := ⟨nT, 2, tdT⟩
def hB : Hld := ⟨nB, 1, [120]⟩
def L0 : List Hld := [hT, hB, hB]
theorem set_L0 : setL [(2, tdT), (1, [120]), (1, [120]), (9, [])] = L0 := by
  unfold setL
  simp only [List.flatMap_cons, List.flatMap_nil, id_T, id_B, id_9, if_neg nT_ne, if_neg nB_ne, if_true]
  rfl
theorem find_L0 (s : Bs) : findL L0 s = if s = nT then some hT else if s = nB then some hB else none := by
  unfold L0
  rw [findL_cons, findL_cons, findL_cons]
  by_cases e : s = nT
  · rw [if_pos e, e, if_pos (show hT.id = nT from rfl)]
  · rw [if_neg e, if_neg (show ¬ hT.id = s from fun h => e h.symm)]
    by_cases e2 : s = nB
    · rw [if_pos e2, e2, if_pos (show hB.id = nB from rfl)]
    · rw [if_neg e2, if_neg (show ¬ hB.id = s from fun h => e2 h.symm), if_neg (show ¬ hB.id = s from fun h => e2 h.symm)]; rfl
/-- A list that finds what L0 finds. -/
def TwoH (l : List Hld) : Prop := ∀ s, findL l s = if s = nT then some hT else if s = nB then some hB else none
theorem two_set {r : List Hld} (h : IsSet L0 r) : TwoH r := fun s => (h.find s).trans (find_L0 s)
theorem TwoH.ft {l : List Hld} (h : TwoH l) : findL l nT = some hT := by rw [h, if_pos rfl]
theorem TwoH.fb {l : List Hld} (h : TwoH l) : findL l nB = some hB := by rw [h, if_neg (fun e => ne_TB e.symm), if_pos rfl]
theorem TwoH.no {l : List Hld} (h : TwoH l) {s : Bs} (h1 : s ≠ nT) (h2 : s ≠ nB) : findL l s = none := by rw [h, if_neg h1, if_neg h2]
theorem TwoH.len {l r : List Hld} (h : TwoH l) (hs : IsSet l r) : r.length = 2 := by
  have hn : r.Nodup := List.Pairwise.imp (fun {a b} (hab : a.id < b.id) (e : a = b) => lt_irr b.id (by rw [e] at hab; exact hab)) hs.rise
  have h1 : r.length ≤ [hT, hB].length := nodup_len hn fun x hx => by
    have hf := (hs.mem x).1 hx
    by_cases e : x.id = nT
    · rw [e, h.ft] at hf; cases hf; simp
    · by_cases e2 : x.id = nB
      · rw [e2, h.fb] at hf; cases hf; simp
      · rw [h.no e e2] at hf; cases hf
  have h2 : [hT, hB].length ≤ r.length := nodup_len (by
    refine List.nodup_cons.2 ⟨fun hm => ?_, List.nodup_cons.2 ⟨by simp, List.nodup_nil⟩⟩
    rw [List.mem_singleton] at hm
    exact ne_TB (congrArg Hld.id hm)) fun x hx => by
    rcases List.mem_cons.1 hx with rfl | hx
    · exact (hs.mem hT).2 h.ft
    · rw [List.mem_singleton.1 hx]; exact (hs.mem hB).2 h.fb
  simp only [List.length_cons, List.length_nil] at h1 h2
  omega
theorem wantsB : wantsO 1 [120] = some [] := by decide
theorem TwoH.wt {l : List Hld} (h : TwoH l) : wfL l nT = [(nB, 1)] := by
  unfold wfL; rw [h.ft]; show (wantsO 2 tdT).getD [] = _; rw [wants_T]; rfl
theorem TwoH.wb {l : List Hld} (h : TwoH l) : wfL l nB = [] := by
  unfold wfL; rw [h.fb]; show (wantsO 1 [120]).getD [] = _; rw [wantsB]; rfl
theorem TwoH.tt {l : List Hld} (h : TwoH l) : thB l nT = true := by unfold thB; rw [h.ft]; rfl
theorem TwoH.tb {l : List Hld} (h : TwoH l) : thB l nB = true := by unfold thB; rw [h.fb]; rfl
theorem TwoH.reach {l : List Hld} (h : TwoH l) {tips : List Bs} (ht : ∀ x ∈ tips, x = nT ∨ x = nB) {x : Bs} (hx : Reach (wfL l) tips x) : x = nT ∨ x = nB := by
  induction hx with
  | tip hm => exact ht _ hm
  | want _ hw ih =>
    rcases ih with rfl | rfl
    · rw [h.wt] at hw
      cases List.mem_singleton.1 hw; exact .inr rfl
    · rw [h.wb] at hw; cases hw
theorem len_one {a : List Bs} {x : Bs} (hn : a.Nodup) (h : ∀ y, y ∈ a ↔ y = x) : a = [x] := by
  match a, hn, h with
  | [], _, h => exact absurd ((h x).2 rfl) (by simp)
  | [y], _, h => rw [(h y).1 (by simp)]
  | y :: z :: m, hn, h =>
    have h1 := (h y).1 (by simp)
    have h2 := (h z).1 (by simp)
    rw [h1, h2] at hn
    simp at hn
theorem TwoH.clo {l : List Hld} (h : TwoH l) {a b : List Bs} (hc : IsClo (wfL l) (thB l) [nT] a b) : a.length = 2 ∧ b = [] ∧ ∀ x ∈ a, x = nT ∨ x = nB := by
  have hr : ∀ x, Reach (wfL l) [nT] x → x = nT ∨ x = nB := fun x hx => h.reach (fun x hx => .inl (List.mem_singleton.1 hx)) hx
  have ha : ∀ x ∈ a, x = nT ∨ x = nB := fun x hx => hr x ((hc.ma x).1 hx).1
  have rT : Reach (wfL l) [nT] nT := .tip (by simp)
  have rB : Reach (wfL l) [nT] nB := .want rT (k := 1) (by rw [h.wt]; simp)
  have hb : b = [] := List.eq_nil_iff_forall_not_mem.2 fun x hx => by
    obtain ⟨h1, h2⟩ := (hc.mb x).1 hx
    rcases hr x h1 with rfl | rfl
    · rw [h.tt] at h2; cases h2
    · rw [h.tb] at h2; cases h2
  refine ⟨?_, hb, ha⟩
  have h1 : a.length ≤ [nT, nB].length := nodup_len hc.ra.nodup fun x hx => by rcases ha x hx with rfl | rfl <;> simp
  have h2 : [nT, nB].length ≤ a.length := nodup_len (by simp [ne_TB]) fun x hx => by
    rcases List.mem_cons.1 hx with rfl | hx
    · exact (hc.ma nT).2 ⟨rT, h.tt⟩
    · rw [List.mem_singleton.1 hx]; exact (hc.ma nB).2 ⟨rB, h.tb⟩
  simp only [List.length_cons, List.length_nil] at h1 h2
  omega
theorem TwoH.pick {l : List Hld} (h : TwoH l) {a b : List Bs} (hc : IsClo (wfL (pickL l [nT])) (thB (pickL l [nT])) [nT] a b) : a.length = 1 ∧ b = [nB] := by
  have hf : ∀ s, findL (pickL l [nT]) s = if s = nT then some hT else none := fun s => by
    unfold pickL
    rw [findL_filter _ (fun s => [nT].contains s) (fun _ => rfl)]
    by_cases e : s = nT
    · rw [e, if_pos (by simp), if_pos rfl, h.ft]
    · rw [if_neg (by simpa using e), if_neg e]
  have wT : wfL (pickL l [nT]) nT = [(nB, 1)] := by unfold wfL; rw [hf, if_pos rfl]; show (wantsO 2 tdT).getD [] = _; rw [wants_T]; rfl
  have wN : ∀ s, s ≠ nT → wfL (pickL l [nT]) s = [] := fun s hs => by unfold wfL; rw [hf, if_neg hs]
  have hr : ∀ x, Reach (wfL (pickL l [nT])) [nT] x → x = nT ∨ x = nB := fun x hx => by
    induction hx with
    | tip hm => exact .inl (List.mem_singleton.1 hm)
    | want _ hw ih =>
      rcases ih with rfl | rfl
      · rw [wT] at hw; cases List.mem_singleton.1 hw; exact .inr rfl
      · rw [wN nB (fun e => ne_TB e.symm)] at hw; cases hw
  have rT : Reach (wfL (pickL l [nT])) [nT] nT := .tip (by simp)
  have rB : Reach (wfL (pickL l [nT])) [nT] nB := .want rT (k := 1) (by rw [wT]; simp)
  have tT : thB (pickL l [nT]) nT = true := by unfold thB; rw [hf, if_pos rfl]; rfl
  have tB : thB (pickL l [nT]) nB = false := by unfold thB; rw [hf, if_neg (fun e => ne_TB e.symm)]; rfl
  have e1 : a = [nT] := by
    refine len_one hc.ra.nodup fun y => ⟨fun hy => ?_, fun e => by rw [e]; exact (hc.ma nT).2 ⟨rT, tT⟩⟩
    obtain ⟨h1, h2⟩ := (hc.ma y).1 hy
    rcases hr y h1 with e | e
    · exact e
    · rw [e, tB] at h2; cases h2
  have e2 : b = [nB] := by
    refine len_one hc.rb.nodup fun y => ⟨fun hy => ?_, fun e => by rw [e]; exact (hc.mb nB).2 ⟨rB, tB⟩⟩
    obtain ⟨h1, h2⟩ := (hc.mb y).1 hy
    rcases hr y h1 with e | e
    · rw [e, tT] at h2; cases h2
    · exact e
  exact ⟨by rw [e1]; rfl, e2⟩
theorem TwoH.sound {l : List Hld} (h : TwoH l) {tips : List Bs} (ht : ∀ x ∈ tips, x = nT ∨ x = nB) {r : Int} (hs : IsSound (wfL l) (thB l) (kindB l) tips r) : r = 0 := by
  rcases hs with ⟨_, x, hx, h2⟩ | ⟨_, ⟨_, x, y, k, h1, h2, h3⟩ | ⟨h, _⟩⟩
  · rcases h.reach ht hx with rfl | rfl
    · rw [h.tt] at h2; cases h2
    · rw [h.tb] at h2; cases h2
  · rcases h.reach ht h1 with rfl | rfl
    · rw [h.wt] at h2
      cases List.mem_singleton.1 h2
      exact absurd (by unfold kindB; rw [h.fb]; rfl) h3
    · rw [h.wb] at h2; cases h2
  · exact h
theorem sound_nil {tips : List Bs} (ht : 0 < tips.length) {r : Int} (hs : IsSound (wfL []) (thB []) (kindB []) tips r) : r = 51 := by
  obtain ⟨x, hx⟩ := List.exists_mem_of_length_pos ht
  rcases hs with ⟨h, _⟩ | ⟨hall, _⟩
  · exact h
  · have := hall x (.tip hx)
    cases this
theorem TwoH.twice {r : List Hld} (h : TwoH r) : TwoH (r ++ r) := fun s => by
  rw [findL_append]
  cases hf : findL r s with
  | none => rw [Option.none_or, ← h s, hf]
  | some u => rw [Option.some_or, ← h s, hf]
end Go.Proofs.YthbmaloajgkhmaaGreatDoor
