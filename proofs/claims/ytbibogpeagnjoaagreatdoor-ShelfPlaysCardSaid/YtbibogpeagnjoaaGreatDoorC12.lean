/-
  The document's power, did, loose: what its acts share.
  The document's loose: an act is played on the files, and put behind the others.
  The document's Used, New; sums that do not overflow.
-/
import Derived.Test.YtbibogpeagnjoaaGreatDoorC11

namespace Go.Proofs.YtbibogpeagnjoaaGreatDoor
open Go Go.RowKit Go.Maps Go.Sort Go.Shelf Go.Deep

def RPowPost (base r : Nat) (vl vo va : Value) (st : St) (w : World) (e : Ending) (w' : World) : Prop :=
  (on st = true ∧ e = .returned (.bool true) ∧ w = w') ∨ (on st = false ∧ e = .returned (.bool false) ∧ KR base w w' ∧ ROk w' base r vl vo va { st with down := true })

set_option maxHeartbeats 1000000 in
theorem RPower_any {w : World} {base r : Nat} {vl vo va : Value} {st : St} (h : ROk w base r vl vo va st) (hi : PlI st) : Calls Tryz.prog 43 #[.pointer (some ⟨r, 0, none⟩)] w (RPowPost base r vl vo va st w) := by
  have c5 := h.c5; have c6 := h.c6; have c7 := h.c7; have f7 := h.free 7
  have hlow := hi.low
  have Hs := Lib.hid (h.set (st' := { st with down := true }) 7 (.bool true) rfl h.files h.old h.acts)
  have Hh := Lib.hid h
  clear h hi
  by_cases hf : st.fuse = 0
  · have ho : on st = false := by unfold on; rw [hf]; simp
    have Ho := Lib.hid ho
    rw [hf] at c5 c6
    have e1 : decide ((0 : Int) ≤ 0) = true := rfl
    rw [e1] at c5
    have e2 : max (0 : Int) 0 = 0 := rfl
    rw [e2] at c6
    clear ho hf e1 e2
    go_enter Tryz.func43, Tryz.ntmps43
    go_wp2
    go_ret
    exact .inr ⟨Ho.out, rfl, Hs.out.2, Hs.out.1⟩
  · have hp : (on st = !st.down) := by unfold on; have : (st.fuse == 0) = false := by simpa using hf
                                       rw [this]; simp
    have HE : Hid (Ending.returned (Value.bool (!st.down)) = Ending.returned (Value.bool (on st))) := Lib.hid (by rw [hp])
    have hend : RPowPost base r vl vo va st w (Ending.returned (Value.bool (!st.down))) w := by
      rw [HE.out]
      cases ho : on st with
      | true => exact .inl ⟨ho, rfl, rfl⟩
      | false =>
        have hd : st.down = true := by rw [hp] at ho; simpa using ho
        exact .inr ⟨ho, rfl, KR.refl _ _, by rw [pairDown hd]; exact Hh.out⟩
    have Hend := Lib.hid hend
    clear hend HE hp
    by_cases hg : 0 ≤ st.fuse
    · have e1 : decide (0 ≤ st.fuse) = true := by simpa using hg
      rw [e1] at c5
      have e2 : max st.fuse 0 = st.fuse := by omega
      rw [e2] at c6
      have e3 : (st.fuse == 0) = false := by simpa using hf
      clear e1 e2
      go_enter Tryz.func43, Tryz.ntmps43
      go_wp2
      go_ret
      exact Hend.out
    · have e1 : decide (0 ≤ st.fuse) = false := by simpa using hg
      rw [e1] at c5
      clear e1
      go_enter Tryz.func43, Tryz.ntmps43
      go_wp2
      go_ret
      exact Hend.out

/-- What an act of the document's comes to. -/
def RDoPost (base r : Nat) (n : Int) (st : St) (w : World) (e : Ending) (w' : World) : Prop := e = .returned (.int .i64 n) ∧ KR base w w' ∧ ∃ vl vo va, ROk w' base r vl vo va st

set_option maxHeartbeats 2000000 in
theorem Rdid_any {w : World} {base r : Nat} {vl vo va : Value} {st : St} (h : ROk w base r vl vo va st) (hf : st.fuse = -1 ∨ 1 ≤ st.fuse) (hh : st.fuse ≤ 9223372036854775807) : Calls Tryz.prog 56 #[.pointer (some ⟨r, 0, none⟩)] w (RDoPost base r 0 (bump st) w) := by
  have c4 := h.c4; have f4 := h.free 4
  have s1 := h.set (st' := { st with acts := wrap64 (st.acts + 1) }) 4 (.int .i64 (wrap64 (st.acts + 1))) rfl h.files h.old h.acts
  have d5 := s1.1.c5; have d6 := s1.1.c6; have g6 := s1.1.free 6
  rcases hf with hf | hf
  · have e5 : decide (0 ≤ ({ st with acts := wrap64 (st.acts + 1) } : St).fuse) = false := by show decide (0 ≤ st.fuse) = false; rw [hf]; rfl
    rw [e5] at d5
    have hb : ({ st with acts := wrap64 (st.acts + 1) } : St) = bump st := by unfold bump burnt; rw [if_pos hf, ← hf]
    rw [hb] at s1
    have Hs := Lib.hid s1
    clear s1 h hf e5 hb d6 g6
    go_enter Tryz.func56, Tryz.ntmps56
    go_wp2
    go_ret
    exact ⟨rfl, Hs.out.2, _, _, _, Hs.out.1⟩
  · have e5 : decide (0 ≤ ({ st with acts := wrap64 (st.acts + 1) } : St).fuse) = true := by show decide (0 ≤ st.fuse) = true; simp; omega
    rw [e5] at d5
    have e6 : max ({ st with acts := wrap64 (st.acts + 1) } : St).fuse 0 = st.fuse := by show max st.fuse 0 = _; omega
    rw [e6] at d6
    have hb : burnt st.fuse = st.fuse - 1 := burnt_eq hf hh
    have s2 := s1.1.set (st' := bump st) 6 (.int .i64 (wrap64 (st.fuse - 1))) (by
      unfold bump rCells
      rw [hb, IntWalk.wrap64_in (st.fuse - 1) (by omega)]
      have a1 : decide (0 ≤ st.fuse) = decide (0 ≤ st.fuse - 1) := by simp; omega
      have a2 : max (st.fuse - 1) 0 = st.fuse - 1 := by omega
      show (#[vl, vo, va, Value.int .i64 st.room, .int .i64 (wrap64 (st.acts + 1)), .bool (decide (0 ≤ st.fuse)), .int .i64 (max st.fuse 0), .bool st.down] : Array Value).setIfInBounds 6 _ = _
      rw [a1, a2]; rfl) s1.1.files s1.1.old s1.1.acts
    have Hs := Lib.hid s2; have Hk := Lib.hid s1.2
    clear s1 s2 h e5 e6 hb hf hh
    go_enter Tryz.func56, Tryz.ntmps56
    go_wp2
    go_ret
    exact ⟨rfl, Hk.out.trans Hs.out.2, _, _, _, Hs.out.1⟩
end Go.Proofs.YtbibogpeagnjoaaGreatDoor


namespace Go.Proofs.YtbibogpeagnjoaaGreatDoor
open Go Go.RowKit Go.Maps Go.Sort Go.Shelf Go.Deep

theorem infoRef : (Tryz.prog.info? 79).map (fun i => (i.zero, i.size, i.bytes)) = some (some (.agg #[.int .i64 0, .string ⟨#[]⟩, .string ⟨#[]⟩, .slice none 0 0]), 4, 64) := by kernel_rfl

/-- 'append(l, a)' of the document's acts. -/
theorem run_appA {w : World} {base : Nat} {va dv : Value} {l : List Act} {a : Act} (h : RActs w base va l) (hd : RowIn w base dv a.data) (x : Nat) (hx : w.heap[x]? = some (.cells #[.int .i64 a.what, S a.path, S a.to, dv] 79 (0, 0))) (hl : l.length ≤ 1000000) (hb : base ≤ w.heap.size) (ty : TypeId) :
    ∃ v' w', (Builtin.append_ #[44, 44] ty #[va, .slice (some ⟨x, 0, none⟩) 1 1]).run Tryz.prog w = .ok v' w' ∧ RActs w' base v' (l ++ [a]) ∧ KR base w w' ∧ w.grownBy w' va.ownBlock := by
  obtain ⟨i0, hi, hz0, hz1, hz2⟩ := info_parts infoRef
  obtain ⟨vs, hown, hra⟩ := h
  obtain ⟨da, dc, rfl⟩ := hd.shape
  obtain ⟨v', w', h1, h2, h3, _⟩ := run_append_own (P := Tryz.prog) w base 44 ty 79 i0 _ 4 64 Tryz.underlying44 hi hz0 hz1 hz2 rfl (by decide) va l.length vs hown ⟨x, 0, none⟩ 1 1 [.int .i64 a.what, S a.path, S a.to, .slice da a.data.length dc] rfl
    (World.news_of_block (cs := #[.int .i64 a.what, S a.path, S a.to, .slice da a.data.length dc]) (t := 79) (fr := (0, 0)) hx) (by simp [Value.oneCell', S]) (by unfold maxLen; omega) (by omega) hb
  have k : KR base w w' := (KR.refl base w).grown h3 hb fun r hr => by
    obtain ⟨e1, cur, e2⟩ := racts_block hown hr
    exact ⟨e1, cur, _, e2⟩
  refine ⟨v', w', h1, ⟨vs ++ [.int .i64 a.what, S a.path, S a.to, .slice da a.data.length dc], by rw [List.length_append]; exact h2, RaIn.snoc (hd.keepR k) (hra.imp fun _ _ hv => hv.keepR k)⟩, k, h3⟩

def acted (a : Act) (st : St) : St := { st with files := a.play st.files, loose := st.loose ++ [(dirOf a.path, a)] }
theorem box_act {W : World} {k : Nat} {v0 v1 v2 : Value} {n : Int} {s1 s2 : ByteArray} {x : Option Addr} {m c : Nat} (e0 : v0 = .int .i64 n) (e1 : v1 = .string s1) (e2 : v2 = .string s2) (h : W.heap[k]? = some (.cells #[v0, v1, v2, .slice x m c] 79 (0, 0))) :
    (Instr.loadAt 79 (.pointer (some ⟨k, 0, none⟩))).run Tryz.prog W = .ok (.agg #[v0, v1, v2, .slice x m c]) W :=
  l_act W k 0 v0 v1 v2 n s1 s2 x m c e0 e1 e2 (cell_of_block h 0) (cell_of_block h 1) (cell_of_block h 2) (cell_of_block h 3)

set_option maxHeartbeats 8000000 in
set_option maxRecDepth 100000 in
theorem Rloose_any {w : World} {base r k0 : Nat} {vl vo va dv : Value} {st : St} (h : ROk w base r vl vo va st) (hp : PlI st) (hbd : Bd st k0) (ho : on st = true) (a : Act) (hd : RowIn w base dv a.data) (hdl : a.data.length ≤ 262144) (e0 : Value) (e1 e2 : ByteArray) (n0 : e0 = .int .i64 a.what) (n1 : S a.path = .string e1) (n2 : S a.to = .string e2) :
    Calls Tryz.prog 44 #[.pointer (some ⟨r, 0, none⟩), .agg #[e0, .string e1, .string e2, dv]] w (RDoPost base r 0 (bump (acted a st)) w) := by
  obtain ⟨da, dc, rfl⟩ := hd.shape
  obtain ⟨la, lc, rfl⟩ := h.files.slice
  obtain ⟨aa, ac, hva⟩ := h.acts.slice
  rw [List.length_map] at hva
  subst hva
  have hbw := h.base_le
  have hrw := lt_of_block h.blk
  have hB1 := below_alloc w (.cells #[e0, .string e1, .string e2, .slice da a.data.length dc] 79)
  have hx1 := heap_alloc_new w (.cells #[e0, .string e1, .string e2, .slice da a.data.length dc] 79)
  have Hvx : Hid ((Value.slice aa st.loose.length ac).ownBlock ≠ some w.heap.size) := Lib.hid fun e => by
    obtain ⟨vs, hv, _⟩ := h.acts
    obtain ⟨_, cur, hc⟩ := racts_block hv e
    have := lt_of_block hc
    omega
  obtain ⟨w1, hw1⟩ : ∃ w1, w1 = w.alloc (.cells #[e0, .string e1, .string e2, .slice da a.data.length dc] 79) := ⟨_, rfl⟩
  rw [← hw1] at hx1
  rw [← hw1] at hB1
  have h1 : ROk w1.drew base r _ _ _ st := (h.new hB1).keep ((K.refl 0 w1).drew)
  have hd1 : RowIn w1.drew base (.slice da a.data.length dc) a.data := (hd.keep (K.of_new (base := 0) hB1 (Nat.zero_le _))).drew
  have hb1 : base ≤ w1.drew.heap.size := Nat.le_trans hbw hB1.size
  have hpl := played_any h1.files hp.rises hb1 (by have := hbd.files; have := hbd.lim; omega) hbd.small a hd1 hdl
  rw [n1, n2, ← n0] at hpl
  have Hpl := Lib.hid hpl; have H1 := Lib.hid h1; have Hd1 := Lib.hid hd1; have HB1 := Lib.hid hB1; have Hx1 := Lib.hid hx1
  have Hfu := Lib.hid (on_fuse hp ho); have Hhi := Lib.hid hp.high
  have Hlen : Hid (st.loose.length ≤ 1000000) := Lib.hid (by have := hbd.both; have := hbd.lim; omega)
  have c0 := h1.c0; have c2 := h1.c2
  have Hn := Lib.hid n0; have Hn1 := Lib.hid n1; have Hn2 := Lib.hid n2
  have hxr : Hid (w.heap.size ≠ r) := Lib.hid (by omega)
  have Hb1 := Lib.hid hb1; have Hbw := Lib.hid hbw
  have hxlt : Hid (w.heap.size < w1.heap.size) := Lib.hid (lt_of_block hx1)
  clear hpl h hp hbd ho hd hdl h1 hd1 hx1 hrw hbw n0 n1 n2 hb1 hB1
  go_enter Tryz.func44, Tryz.ntmps44
  go_wp2_with fail
  rw [← hw1]
  clear hw1
  refine h_start (fun W => W.heap[w.heap.size]? = some (.cells #[e0, .string e1, .string e2, .slice da a.data.length dc] 79 (0, 0))) (by kernel_rfl) ?_
  refine h_tk 0 (.pointer (some ⟨r, 0, none⟩)) Hx1.out rfl (fun W hW => by kernel_rfl) ?_
  refine h_tk 1 (.pointer (some ⟨r, 0, none⟩)) Hx1.out rfl (fun W hW => by kernel_rfl) ?_
  refine h_tk 2 (.pointer (some ⟨r, 0, none⟩)) Hx1.out rfl (fun W hW => y_nil rfl (by kernel_rfl)) ?_
  refine h_tk 3 (.pointer (some ⟨r, 0, none⟩)) Hx1.out rfl (fun W hW => y_field rfl (by kernel_rfl) (f_sh W r 0 (by decide))) ?_
  refine h_tk 5 (.agg #[e0, .string e1, .string e2, .slice da a.data.length dc]) Hx1.out rfl (fun W hW => y_load rfl (by kernel_rfl) (box_act Hn.out rfl rfl hW)) ?_
  refine h_op 4 (.slice la st.files.length lc) w1.drew (by kernel_rfl) rfl (by kernel_rfl) (y_load rfl (by kernel_rfl) (l_files _ r 0 _ _ _ c0)) Hx1.out ?_
  refine h_call 6 55 #[.slice la st.files.length lc, .agg #[e0, .string e1, .string e2, .slice da a.data.length dc]] (by kernel_rfl) rfl (by kernel_rfl) (by kernel_rfl) ?_
  refine Hpl.out.mono ?_
  rintro e w2 ⟨v2, rfl, hf2, hB2⟩
  have hx2 : w2.heap[w.heap.size]? = some (.cells #[e0, .string e1, .string e2, .slice da a.data.length dc] 79 (0, 0)) := (hB2.block _ hxlt.out).trans Hx1.out
  have hr2 := H1.out.new hB2
  have k2 : KR base w1.drew w2 := KR.of_new hB2 Hb1.out
  have hs2 := hr2.set (st' := { st with files := a.play st.files }) 0 v2 rfl hf2 hr2.old hr2.acts
  obtain ⟨l2, m2, rfl⟩ := hf2.slice
  refine ⟨_, rfl, hx2, ?_⟩
  refine h_tk 7 (.pointer (some ⟨r, 0, none⟩)) hx2 rfl (fun W hW => y_nil rfl (by kernel_rfl)) ?_
  refine h_tk 8 (.pointer (some ⟨r, 0, none⟩)) hx2 rfl (fun W hW => y_field rfl (by kernel_rfl) (f_sh W r 0 (by decide))) ?_
  have hx3 : (w2.setCell ⟨r, 0, none⟩ (.slice l2 (a.play st.files).length m2)).heap[w.heap.size]? = some (.cells #[e0, .string e1, .string e2, .slice da a.data.length dc] 79 (0, 0)) := (Below.heap_setCell _ _ _ _ hxr.out).trans hx2
  refine h_sto 9 (w2.setCell ⟨r, 0, none⟩ (.slice l2 (a.play st.files).length m2)) (by kernel_rfl) rfl (by kernel_rfl) (y_sto rfl (by kernel_rfl) (by kernel_rfl) (st_files _ r 0 _ _ _ _ hr2.c0 (hr2.free 0))) hx3 ?_
  refine h_done _ (by kernel_rfl) ?_
  obtain ⟨w3, hw3⟩ : ∃ w3, w3 = w2.setCell ⟨r, 0, none⟩ (.slice l2 (a.play st.files).length m2) := ⟨_, rfl⟩
  rw [← hw3] at hs2 hx3 ⊢
  have K3 : Hid (KR base w w3) := Lib.hid (((((KR.refl base w).new HB1.out Hbw.out).drew).trans k2).trans hs2.2)
  have H3 := Lib.hid hs2.1
  have Hd3 := Lib.hid (((Hd1.out.keepR k2).keepR hs2.2).drew)
  have Hx3 := Lib.hid hx3
  clear hw3 hs2 hx3 hx2 hr2 k2 hf2 hB2 c0 c2
  go_simp
  go_wp2_with fail
  have c2 := H3.out.c2
  have hap := run_appA (w := w3.drew.alloc (.cells #[e0, .string e1, .string e2, .slice da a.data.length dc] 79)) (base := base) (va := .slice aa st.loose.length ac) (dv := .slice da a.data.length dc) (l := st.loose.map (·.2)) (a := a)
    ((H3.out.keep ((K.refl 0 w3).drew)).new (below_alloc _ _)).acts (Hd3.out.keep (K.of_new (base := 0) (below_alloc _ _) (Nat.zero_le _))) w3.drew.heap.size (by rw [← Hn.out, Hn1.out, Hn2.out]; exact heap_alloc_new _ _) (by rw [List.length_map]; exact Hlen.out) (by have := H3.out.base_le; have := (below_alloc w3.drew (.cells #[e0, .string e1, .string e2, .slice da a.data.length dc] 79)).size; show base ≤ _; exact Nat.le_trans ‹base ≤ w3.heap.size› this) 44
  obtain ⟨v5, w5, hrun, hacts, k5, hg5⟩ := hap
  obtain ⟨wb, hwb⟩ : ∃ wb, wb = w3.drew.alloc (.cells #[e0, .string e1, .string e2, .slice da a.data.length dc] 79) := ⟨_, rfl⟩
  have hB4 : Below w3.heap.size w3 wb := by rw [hwb]; exact ⟨rfl, rfl, rfl, by simp, fun i hi => Below.heap_alloc _ _ _ hi⟩
  rw [← hwb] at hrun k5 hg5
  have kb : KR base w3 wb := KR.of_new hB4 H3.out.base_le
  have hr5 : ROk wb base r _ _ _ _ := H3.out.new hB4
  have hblk5 : w5.heap[r]? = some (.cells (rCells _ _ _ _) 46 (0, 0)) := (hg5.block r (lt_of_block hr5.blk) (fun e => by
    obtain ⟨vs, hv, _⟩ := hr5.acts
    obtain ⟨_, cur, hc⟩ := racts_block hv e.symm
    rw [hr5.blk] at hc; cases hc)).trans hr5.blk
  have hx4 : wb.heap[w.heap.size]? = some (.cells #[e0, .string e1, .string e2, .slice da a.data.length dc] 79 (0, 0)) := (hB4.block _ (lt_of_block Hx3.out)).trans Hx3.out
  have hc5 := cell_of_block hblk5 2
  have hz5 : w5.frozen? ⟨r, 2, none⟩ = false := by simp [World.frozen?, hblk5]
  have hs6 : ∀ l4 m4, v5 = .slice l4 (st.loose.length + 1) m4 → ROk (w5.setCell ⟨r, 2, none⟩ v5) base r (.slice l2 (a.play st.files).length m2) vo v5 (acted a st) ∧ KR base w5 (w5.setCell ⟨r, 2, none⟩ v5) := fun l4 m4 e => by
    have k6 := (KR.refl base w5).set hblk5 H3.out.base_r 2 v5
    refine ⟨⟨by rw [set_block hblk5]; rfl, H3.out.base_r, (hr5.files.keepR k5).keepR k6, (hr5.old.keepR k5).keepR k6, ?_⟩, k6⟩
    obtain ⟨vs, hv, hz⟩ := hacts
    show RActs _ base v5 ((st.loose ++ [(dirOf a.path, a)]).map (·.2))
    rw [List.map_append]
    refine ⟨vs, ⟨hv.1, ?_⟩, hz.imp fun _ _ h => h.keepR k6⟩
    rcases hv.2 with x | ⟨g, cap, cur, e, hb, hg, x⟩
    · exact .inl x
    · refine .inr ⟨g, cap, cur, e, hb, ?_, x⟩
      rw [Below.heap_setCell _ _ _ _ (fun e1 => by
        have e1 : g = r := e1
        subst e1; rw [hblk5] at hg; cases hg)]
      exact hg
  obtain ⟨a5, c5, hv5⟩ := hacts.slice
  rw [List.length_append, List.length_map, List.length_singleton] at hv5
  have hx5 : w5.heap[w.heap.size]? = some (.cells #[e0, .string e1, .string e2, .slice da a.data.length dc] 79 (0, 0)) := by
    rw [hg5.block _ (lt_of_block hx4) (fun e => Hvx.out e.symm)]; exact hx4
  have hx6 : (w5.setCell ⟨r, 2, none⟩ v5).heap[w.heap.size]? = some (.cells #[e0, .string e1, .string e2, .slice da a.data.length dc] 79 (0, 0)) := (Below.heap_setCell _ _ _ _ hxr.out).trans hx5
  obtain ⟨hs7, k7⟩ := hs6 a5 c5 hv5
  subst hv5
  have hsr := st_acts w5 r 2 a5 (st.loose.length + 1) c5 _ hc5 hz5
  have KT := Lib.hid (((K3.out.trans kb).trans k5).trans k7)
  have HS7 := Lib.hid hs7
  refine h_start (fun W => W.heap[w.heap.size]? = some (.cells #[e0, .string e1, .string e2, .slice da a.data.length dc] 79 (0, 0))) (by kernel_rfl) ?_
  refine h_tk 0 (.pointer (some ⟨r, 0, none⟩)) Hx3.out rfl (fun W hW => by kernel_rfl) ?_
  refine h_tk 1 (.pointer (some ⟨r, 0, none⟩)) Hx3.out rfl (fun W hW => by kernel_rfl) ?_
  refine h_tk 2 (.pointer (some ⟨r, 0, none⟩)) Hx3.out rfl (fun W hW => y_nil rfl (by kernel_rfl)) ?_
  refine h_tk 3 (.pointer (some ⟨r, 2, none⟩)) Hx3.out rfl (fun W hW => y_field rfl (by kernel_rfl) (f_sh W r 2 (by decide))) ?_
  refine h_tk 5 (.agg #[e0, .string e1, .string e2, .slice da a.data.length dc]) Hx3.out rfl (fun W hW => y_load rfl (by kernel_rfl) (box_act Hn.out rfl rfl hW)) ?_
  have c2b := hr5.c2
  have hbl : (Instr.buildSlice 44 1 #[(0, .agg #[e0, .string e1, .string e2, .slice da a.data.length dc])]).run Tryz.prog w3.drew = .ok (.slice (some ⟨w3.drew.heap.size, 0, none⟩) 1 1) wb := by rw [hwb]; exact bld_act _ _ _ _ _
  refine h_two 4 6 (by kernel_rfl) (.slice aa st.loose.length ac) (.slice (some ⟨w3.drew.heap.size, 0, none⟩) 1 1) w3.drew wb rfl rfl (by kernel_rfl) (by kernel_rfl) (y_load rfl (by kernel_rfl) (l_acts _ r 2 _ _ _ c2)) (y_bld rfl (by kernel_rfl) hbl) Hx3.out hx4 ?_ ?_
  · refine h_op 6 (.slice (some ⟨w3.drew.heap.size, 0, none⟩) 1 1) wb (by kernel_rfl) rfl (by kernel_rfl) (y_bld rfl (by kernel_rfl) hbl) hx4 ?_
    refine h_op 7 _ w5 (by kernel_rfl) rfl (by kernel_rfl) (y_app rfl (by kernel_rfl) (by kernel_rfl) hrun) hx5 ?_
    refine h_tk 8 (.pointer (some ⟨r, 0, none⟩)) hx5 rfl (fun W hW => y_nil rfl (by kernel_rfl)) ?_
    refine h_tk 9 (.pointer (some ⟨r, 2, none⟩)) hx5 rfl (fun W hW => y_field rfl (by kernel_rfl) (f_sh W r 2 (by decide))) ?_
    refine h_sto 10 (w5.setCell ⟨r, 2, none⟩ (.slice a5 (st.loose.length + 1) c5)) (by kernel_rfl) rfl (by kernel_rfl) (y_sto rfl (by kernel_rfl) (by kernel_rfl) hsr) hx6 ?_
    refine h_done _ (by kernel_rfl) ?_
    obtain ⟨w6, hw6⟩ : ∃ w6, w6 = w5.setCell ⟨r, 2, none⟩ (.slice a5 (st.loose.length + 1) c5) := ⟨_, rfl⟩
    rw [← hw6] at HS7 KT ⊢
    have Hdi := Lib.hid (Rdid_any HS7.out Hfu.out Hhi.out)
    clear hw6 hs7 k7 hsr hx6 hx5 hx4 hrun hacts hr5 hblk5 hc5 hz5 hs6 hg5 hbl c2 c2b k5 kb hB4 hwb
    go_simp
    go_wp2_with fail
    refine Hdi.out.mono ?_
    rintro e w7 ⟨rfl, k8, v1, v2, v3, hr8⟩
    have HE := Lib.hid (KT.out.trans k8); have HR := Lib.hid hr8
    clear k8 hr8
    go_wp2_with fail
    go_ret
    exact ⟨rfl, HE.out, _, _, _, HR.out⟩
  · refine h_op 4 (.slice aa st.loose.length ac) wb (by kernel_rfl) rfl (by kernel_rfl) (y_load rfl (by kernel_rfl) (l_acts _ r 2 _ _ _ c2b)) hx4 ?_
    refine h_op 7 _ w5 (by kernel_rfl) rfl (by kernel_rfl) (y_app rfl (by kernel_rfl) (by kernel_rfl) hrun) hx5 ?_
    refine h_tk 8 (.pointer (some ⟨r, 0, none⟩)) hx5 rfl (fun W hW => y_nil rfl (by kernel_rfl)) ?_
    refine h_tk 9 (.pointer (some ⟨r, 2, none⟩)) hx5 rfl (fun W hW => y_field rfl (by kernel_rfl) (f_sh W r 2 (by decide))) ?_
    refine h_sto 10 (w5.setCell ⟨r, 2, none⟩ (.slice a5 (st.loose.length + 1) c5)) (by kernel_rfl) rfl (by kernel_rfl) (y_sto rfl (by kernel_rfl) (by kernel_rfl) hsr) hx6 ?_
    refine h_done _ (by kernel_rfl) ?_
    obtain ⟨w6, hw6⟩ : ∃ w6, w6 = w5.setCell ⟨r, 2, none⟩ (.slice a5 (st.loose.length + 1) c5) := ⟨_, rfl⟩
    rw [← hw6] at HS7 KT ⊢
    have Hdi := Lib.hid (Rdid_any HS7.out Hfu.out Hhi.out)
    clear hw6 hs7 k7 hsr hx6 hx5 hx4 hrun hacts hr5 hblk5 hc5 hz5 hs6 hg5 hbl c2 c2b k5 kb hB4 hwb
    go_simp
    go_wp2_with fail
    refine Hdi.out.mono ?_
    rintro e w7 ⟨rfl, k8, v1, v2, v3, hr8⟩
    have HE := Lib.hid (KT.out.trans k8); have HR := Lib.hid hr8
    clear k8 hr8
    go_wp2_with fail
    go_ret
    exact ⟨rfl, HE.out, _, _, _, HR.out⟩
end Go.Proofs.YtbibogpeagnjoaaGreatDoor


namespace Go.Proofs.YtbibogpeagnjoaaGreatDoor
open Go Go.RowKit Go.Maps Go.Sort Go.Shelf Go.Deep

theorem tsize_snoc {t : Tb} {k : Nat} {q : By × By} (h : t[k]? = some q) : tsize (t.take (k + 1)) = tsize (t.take k) + q.2.length := by
  unfold tsize; rw [take_snoc h]; simp
theorem tsize_take (t : Tb) (k : Nat) : tsize (t.take k) ≤ tsize t := by
  have h : tsize t = tsize (t.take k) + tsize (t.drop k) := by
    unfold tsize
    rw [← List.sum_append, ← List.map_append, List.take_append_drop]
  omega

set_option maxHeartbeats 2000000 in
theorem RUsed_any {w : World} {base r k0 : Nat} {vl vo va : Value} {st : St} (h : ROk w base r vl vo va st) (hbd : Bd st k0) : Calls Tryz.prog 27 #[.pointer (some ⟨r, 0, none⟩)] w fun e w' => e = .returned (.int .i64 (tsize st.files : Int)) ∧ w = w' := by
  obtain ⟨la, lc, rfl⟩ := h.files.slice
  have c0 := h.c0
  have Hf := Lib.hid h.files
  have hsz := hbd.size
  have hl : st.files.length ≤ 1000000 := by have := hbd.files; have := hbd.lim; omega
  obtain ⟨t, ht⟩ : ∃ t, t = st.files := ⟨_, rfl⟩
  rw [← ht] at Hf hsz hl c0 ⊢
  clear h hbd ht
  go_enter Tryz.func27, Tryz.ntmps27
  go_wp2
  go_loop [3, 4] (fun nv iv => ∃ k : Nat, k ≤ t.length ∧ iv = .int .i64 k ∧ nv = .int .i64 (tsize (t.take k) : Nat)) (fun _ iv => t.length - (intOf iv).toNat)
  case atStart => exact ⟨0, Nat.zero_le _, rfl, rfl⟩
  case round =>
    obtain ⟨k, hk, rfl, rfl⟩ := hrel
    by_cases hlt : k < t.length
    · obtain ⟨⟨qp, qb⟩, hq⟩ : ∃ q, t[k]? = some q := ⟨_, List.getElem?_eq_getElem hlt⟩
      obtain ⟨g, c, hv, dv, d0, d1, hrw⟩ := Hf.out.at hq
      cases hv
      obtain ⟨ba, bc, rfl⟩ := hrw.shape
      have hs1 := tsize_snoc hq
      have hs2 := tsize_take t (k + 1)
      have hbq : tsize (t.take k) + qb.length ≤ 4611686018427387904 := by have : (qp, qb).2.length = qb.length := rfl; omega
      have HS := Lib.hid hs1
      obtain ⟨m, hm⟩ : ∃ m, m = tsize (t.take k) := ⟨_, rfl⟩
      rw [← hm] at hbq ⊢
      have Hm := Lib.hid hm
      unfold S at d0
      clear hs1 hs2 hrw hq hm
      go_wp2
      go_round
      case rel => exact ⟨k + 1, hlt, by go_num, by rw [HS.out, ← Hm.out]; go_num⟩
      case measure => simp [intOf]; omega
    · obtain rfl : k = t.length := by omega
      rw [List.take_length]
      go_wp2
      go_ret
      exact ⟨rfl, rfl⟩

section
variable (W : World) (x y : Int)
theorem run_sub (h : -9223372036854775808 ≤ x - y ∧ x - y ≤ 9223372036854775807) : (binOp .sub 3 (.int .i64 x) (.int .i64 y)).run Tryz.prog W = .ok (.int .i64 (x - y)) W := by
  simp [go_sem, IntWalk.i64_in _ h]
theorem run_add (h : -9223372036854775808 ≤ x + y ∧ x + y ≤ 9223372036854775807) : (binOp .add 3 (.int .i64 x) (.int .i64 y)).run Tryz.prog W = .ok (.int .i64 (x + y)) W := by
  simp [go_sem, IntWalk.i64_in _ h]
theorem run_gtr : (binOp .gtr 3 (.int .i64 x) (.int .i64 y)).run Tryz.prog W = .ok (.bool (decide (y < x))) W := by
  simp [go_sem]
theorem l_int (W : World) (b o : Nat) (n : Int) (h : W.cell? ⟨b, o, none⟩ = some (.int .i64 n)) : (Instr.loadAt 3 (.pointer (some ⟨b, o, none⟩))).run Tryz.prog W = .ok (.int .i64 n) W := by
  go_simp
theorem g_int (op : BinOp) (s t : Operand) : (eqGuard op 3 s t (.int .i64 x) (.int .i64 y)).run Tryz.prog W = .ok () W := by
  cases op <;> simp [go_sem, eqGuard]
end
end Go.Proofs.YtbibogpeagnjoaaGreatDoor
