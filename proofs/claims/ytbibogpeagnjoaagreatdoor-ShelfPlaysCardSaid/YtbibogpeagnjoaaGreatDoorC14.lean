/-
  The document's Fuse and Crash.
  The document's Crash: the walk.
  The document's Sync.
  The document's Sync: the walk.
-/
import Derived.Test.YtbibogpeagnjoaaGreatDoorC13

namespace Go.Proofs.YtbibogpeagnjoaaGreatDoor
open Go Go.RowKit Go.Maps Go.Sort Go.Shelf Go.Deep

def RUnit (base r : Nat) (st : St) (w : World) (e : Ending) (w' : World) : Prop := e = .returned (.tuple #[]) ∧ KR base w w' ∧ ∃ vl vo va, ROk w' base r vl vo va st

/-- Several cells of the shelf are written. -/
theorem ROk.sets {w w' : World} {base r : Nat} {vl vo va vl' vo' va' : Value} {st st' : St} (h : ROk w base r vl vo va st) (k : KR base w w') (hc : w'.heap[r]? = some (.cells (rCells vl' vo' va' st') 46 (0, 0)))
    (h1 : FilesIn w base vl' st'.files) (h2 : FilesIn w base vo' st'.synced) (h3 : RActs w' base va' (st'.loose.map (·.2))) : ROk w' base r vl' vo' va' st' :=
  ⟨hc, h.base_r, h1.keepR k, h2.keepR k, h3⟩
theorem RActs.far {w w' : World} {base r : Nat} {va : Value} {l : List Act} {cs : Array Value} (h : RActs w base va l) (hr : w.heap[r]? = some (.cells cs 46 (0, 0))) (k : KR base w w') (hf : ∀ i, i ≠ r → i < w.heap.size → w'.heap[i]? = w.heap[i]?) : RActs w' base va l := by
  obtain ⟨vs, hv, hz⟩ := h
  refine ⟨vs, ⟨hv.1, ?_⟩, hz.imp fun _ _ h => h.keepR k⟩
  rcases hv.2 with x | ⟨g, cap, cur, e, hb, hg, x⟩
  · exact .inl x
  · refine .inr ⟨g, cap, cur, e, hb, ?_, x⟩
    rw [hf g (fun e1 => by subst e1; rw [hr] at hg; cases hg) (lt_of_block hg)]
    exact hg

set_option maxHeartbeats 2000000 in
theorem RFuse_any {w : World} {base r : Nat} {vl vo va : Value} {st : St} (h : ROk w base r vl vo va st) (n : Int) : Calls Tryz.prog 20 #[.pointer (some ⟨r, 0, none⟩), .int .i64 n] w (RUnit base r { st with fuse := max n (-1) } w) := by
  have c5 := h.c5; have c6 := h.c6; have f5 := h.free 5; have f6 := h.free 6
  have b1 := set_block h.blk 5 (.bool (decide (0 ≤ n)))
  have b2 := set_block b1 6 (.int .i64 (max n 0))
  have k1 := (KR.refl base w).set h.blk h.base_r 5 (.bool (decide (0 ≤ n)))
  have k2 := k1.set b1 h.base_r 6 (.int .i64 (max n 0))
  have hr := h.sets (st' := { st with fuse := max n (-1) }) (vl' := vl) (vo' := vo) (va' := va) k2 (by
    rw [b2]
    have a1 : decide (0 ≤ n) = decide (0 ≤ max n (-1)) := by rw [decide_eq_decide]; omega
    have a2 : max n 0 = max (max n (-1)) 0 := by omega
    show some (Obj.cells (#[vl, vo, va, Value.int .i64 st.room, .int .i64 st.acts, .bool (decide (0 ≤ n)), .int .i64 (max n 0), .bool st.down] : Array Value) _ _) = _
    rw [a1, a2]; rfl) h.files h.old (h.acts.far h.blk k2 fun i hi _ => by rw [Below.heap_setCell _ _ _ _ hi, Below.heap_setCell _ _ _ _ hi])
  have HR := Lib.hid hr; have K2 := Lib.hid k2
  clear h hr k2 k1 b1 b2
  go_enter Tryz.func20, Tryz.ntmps20
  go_wp2
  go_end0
  exact ⟨rfl, K2.out, _, _, _, HR.out⟩

theorem i_acts (W : World) (b n c k : Nat) (h : k < n) : (Instr.indexAt 44 (.slice (some ⟨b, 0, none⟩) n c) (.int .i64 (k : Int))).run Tryz.prog W = .ok (.pointer (some ⟨b, k * 4, none⟩)) W := by
  have h1 : (0 : Int) ≤ (k : Int) := by omega
  have h2 : (k : Int) < (n : Int) := by omega
  simp [go_sem, h1, h2, Tryz.underlying44]
def ActAt (W : World) (g k : Nat) (a : Act) (x : Option Addr) (c : Nat) : Prop := W.cell? ⟨g, k * 4, none⟩ = some (.int .i64 a.what) ∧ W.cell? ⟨g, k * 4 + 1, none⟩ = some (S a.path) ∧ W.cell? ⟨g, k * 4 + 2, none⟩ = some (S a.to) ∧ W.cell? ⟨g, k * 4 + 3, none⟩ = some (.slice x a.data.length c)
theorem ActAt.load {W : World} {g k : Nat} {a : Act} {x : Option Addr} {c : Nat} (h : ActAt W g k a x c) : (Instr.loadAt 79 (.pointer (some ⟨g, k * 4, none⟩))).run Tryz.prog W = .ok (.agg #[.int .i64 a.what, S a.path, S a.to, .slice x a.data.length c]) W :=
  l_act W g (k * 4) _ _ _ a.what ⟨a.path.toArray⟩ ⟨a.to.toArray⟩ x a.data.length c rfl rfl rfl h.1 h.2.1 h.2.2.1 h.2.2.2
theorem ActAt.below {W W' : World} {g k : Nat} {a : Act} {x : Option Addr} {c : Nat} (h : ActAt W g k a x c) (hB : Below W.heap.size W W') : ActAt W' g k a x c :=
  ⟨cell_below' hB h.1, cell_below' hB h.2.1, cell_below' hB h.2.2.1, cell_below' hB h.2.2.2⟩
theorem ActAt.far {W W' : World} {g k : Nat} {a : Act} {x : Option Addr} {c : Nat} (h : ActAt W g k a x c) (hB : W'.heap[g]? = W.heap[g]?) : ActAt W' g k a x c := by
  unfold ActAt at h ⊢
  rw [World.cell?_of_block (w := W) (a := ⟨g, k * 4, none⟩) hB, World.cell?_of_block (w := W) (a := ⟨g, k * 4 + 1, none⟩) hB, World.cell?_of_block (w := W) (a := ⟨g, k * 4 + 2, none⟩) hB, World.cell?_of_block (w := W) (a := ⟨g, k * 4 + 3, none⟩) hB]
  exact h
theorem ROk.act {w : World} {base r : Nat} {vl vo va : Value} {st : St} (h : ROk w base r vl vo va st) {k : Nat} {d : By} {a : Act} (ha : st.loose[k]? = some (d, a)) :
    ∃ g c x xc, va = .slice (some ⟨g, 0, none⟩) st.loose.length c ∧ ActAt w g k a x xc ∧ RowIn w base (.slice x a.data.length xc) a.data ∧ g ≠ r := by
  have hm : (st.loose.map (·.2))[k]? = some a := by rw [List.getElem?_map, ha]; rfl
  obtain ⟨g, c, hv, c0, c1, c2, dv, c3, hr⟩ := h.acts.at hm
  obtain ⟨x, xc, rfl⟩ := hr.shape
  rw [List.length_map] at hv
  refine ⟨g, c, x, xc, hv, ⟨c0, c1, c2, c3⟩, hr, ?_⟩
  rintro rfl
  obtain ⟨vs, hrow, _⟩ := h.acts
  obtain ⟨_, cur, hc⟩ := racts_block hrow (r := g) (by rw [hv]; rfl)
  rw [h.blk] at hc; cases hc
end Go.Proofs.YtbibogpeagnjoaaGreatDoor


namespace Go.Proofs.YtbibogpeagnjoaaGreatDoor
open Go Go.RowKit Go.Maps Go.Sort Go.Shelf Go.Deep

theorem bd_crashK {st : St} {k0 : Nat} (h : Bd st k0) (ks : List Bool) (k : Nat) (hk : k ≤ st.loose.length) : (crashK st.loose ks st.synced k).length ≤ 1000000 ∧ ∀ q ∈ crashK st.loose ks st.synced k, q.2.length ≤ 262144 := by
  refine ⟨?_, small_crashK (ks := ks) h.smallS (fun a ha => h.smallL a ha) k⟩
  have := crashK_len st.loose ks st.synced k; have := h.both; have := h.lim; omega
theorem data_small {st : St} {k0 : Nat} (h : Bd st k0) {k : Nat} {d : By} {a : Act} (ha : st.loose[k]? = some (d, a)) : a.data.length ≤ 262144 := by
  have hm := List.mem_of_getElem? ha
  cases a with
  | write p b => exact h.smallL _ hm p b rfl
  | rename p q => exact Nat.zero_le _
  | remove p => exact Nat.zero_le _

set_option maxHeartbeats 8000000 in
set_option maxRecDepth 100000 in
theorem RCrash_any {w : World} {base r k0 : Nat} {vl vo va kv : Value} {st : St} (h : ROk w base r vl vo va st) (hp : PlI st) (hbd : Bd st k0) {ks : List Bool} (hkl : ks.length ≤ lim) {ak : Option Addr} {ck : Nat} (hkv : kv = .slice ak ks.length ck)
    (hks : ∀ W, KR base w W → ∀ i, i < ks.length → ∃ a, ak = some a ∧ W.cell? (a.add i) = some (.bool (ks.getD i false))) :
    Calls Tryz.prog 22 #[.pointer (some ⟨r, 0, none⟩), kv] w (RUnit base r (crashSt ks st) w) := by
  subst hkv
  have H := Lib.hid h; have Hp := Lib.hid hp; have Hbd := Lib.hid hbd; have Hks := Lib.hid hks
  obtain ⟨aa, ac, hva⟩ := h.acts.slice
  rw [List.length_map] at hva
  subst hva
  have hbw := h.base_le
  have hn : st.loose.length ≤ 1000000 := by have := hbd.both; have := hbd.lim; omega
  unfold lim at hkl
  clear h hp hbd hks
  go_enter Tryz.func22, Tryz.ntmps22
  go_wp2_with fail
  go_loopw [4] (fun iv wr => ∃ (k : Nat) (vo' : Value), k ≤ st.loose.length ∧ iv = .int .i64 k ∧ KR base w wr ∧ ROk wr base r vl vo' (.slice aa st.loose.length ac) { st with synced := crashK st.loose ks st.synced k }) (fun iv _ => st.loose.length - (intOf iv).toNat)
  case atStart => exact ⟨0, vo, Nat.zero_le _, rfl, KR.refl _ _, H.out⟩
  case round =>
    obtain ⟨k, vo', hk, rfl, hK, hr⟩ := hrel
    have c2 := hr.c2
    by_cases hlt : k < st.loose.length
    · obtain ⟨⟨d, a⟩, ha⟩ : ∃ x, st.loose[k]? = some x := ⟨_, List.getElem?_eq_getElem hlt⟩
      obtain ⟨g, gc, x, xc, hv, hat, hrow, hgr⟩ := hr.act (k := k) (d := d) (a := a) ha
      cases hv
      have hcs := crashK_some (ks := ks) (t := st.synced) ha
      by_cases hkk : k < ks.length
      · obtain ⟨ka, rfl, hkc⟩ := Hks.out _ hK k hkk
        have hkI : (k : Int) < (ks.length : Int) := by omega
        cases hq : ks.getD k false with
        | false =>
          rw [hq] at hkc
          have HR : Hid (ROk wr base r vl vo' (.slice (some ⟨g, 0, none⟩) st.loose.length ac) { st with synced := crashK st.loose ks st.synced (k + 1) }) := Lib.hid (by rw [hcs, if_neg (by rw [hq]; decide)]; exact hr)
          have HK := Lib.hid hK
          clear hr hK hcs hat hrow ha hq
          go_wp2_with fail
          go_roundw
          case rel => exact ⟨k + 1, _, hlt, by go_num, HK.out, HR.out⟩
          case measure => simp [intOf]; omega
        | true =>
          rw [hq] at hkc
          have hb := bd_crashK Hbd.out ks k hk
          obtain ⟨la, lc, hvo⟩ := hr.old.slice
          subst hvo
          have c1 := hr.c1
          have hbr := hr.base_le
          have hrd : ROk wr.drew base r _ _ _ _ := hr.keep ((K.refl 0 wr).drew)
          have hpl := played_any hrd.old (crashK_rises Hp.out.risesS k) (by exact hbr) hb.1 hb.2 a hrow.drew (data_small Hbd.out ha)
          have Hpl := Lib.hid hpl; have Hat := Lib.hid hat; have Hrd := Lib.hid hrd
          have HS : Hid ({ st with synced := crashK st.loose ks st.synced (k + 1) } = ({ st with synced := a.play (crashK st.loose ks st.synced k) } : St)) := Lib.hid (by rw [hcs, if_pos hq])
          have HK := Lib.hid hK
          clear hpl hat hrd hr hK hrow hcs hq ha hb
          have hSS : wr.cell? ⟨r, 2, none⟩ = some (.slice (some ⟨g, 0, none⟩) st.loose.length ac) ∧ ActAt wr g k a x xc := ⟨c2, Hat.out⟩
          go_wp2_with fail
          refine h_start (fun W => W.cell? ⟨r, 2, none⟩ = some (.slice (some ⟨g, 0, none⟩) st.loose.length ac) ∧ ActAt W g k a x xc) (by kernel_rfl) ?_
          have hS0 : wr.drew.cell? ⟨r, 2, none⟩ = some (.slice (some ⟨g, 0, none⟩) st.loose.length ac) ∧ ActAt wr.drew g k a x xc := hSS
          refine h_tk 0 (.pointer (some ⟨r, 0, none⟩)) hS0 rfl (fun W hW => by kernel_rfl) ?_
          refine h_tk 1 (.pointer (some ⟨r, 0, none⟩)) hS0 rfl (fun W hW => by kernel_rfl) ?_
          refine h_tk 2 (.pointer (some ⟨r, 0, none⟩)) hS0 rfl (fun W hW => y_nil rfl (by kernel_rfl)) ?_
          refine h_tk 3 (.pointer (some ⟨r, 1, none⟩)) hS0 rfl (fun W hW => y_field rfl (by kernel_rfl) (f_sh W r 1 (by decide))) ?_
          refine h_tk 5 (.pointer (some ⟨r, 0, none⟩)) hS0 rfl (fun W hW => by kernel_rfl) ?_
          refine h_tk 6 (.pointer (some ⟨r, 0, none⟩)) hS0 rfl (fun W hW => y_nil rfl (by kernel_rfl)) ?_
          refine h_tk 7 (.pointer (some ⟨r, 2, none⟩)) hS0 rfl (fun W hW => y_field rfl (by kernel_rfl) (f_sh W r 2 (by decide))) ?_
          refine h_tk 8 (.slice (some ⟨g, 0, none⟩) st.loose.length ac) hS0 rfl (fun W hW => y_load rfl (by kernel_rfl) (l_acts W r 2 _ _ _ hW.1)) ?_
          refine h_tk 9 (.int .i64 (k : Int)) hS0 rfl (fun W hW => by kernel_rfl) ?_
          refine h_tk 10 (.pointer (some ⟨g, k * 4, none⟩)) hS0 rfl (fun W hW => y_index rfl (by kernel_rfl) (by kernel_rfl) (i_acts W g st.loose.length ac k hlt)) ?_
          refine h_tk 11 (.agg #[.int .i64 a.what, S a.path, S a.to, .slice x a.data.length xc]) hS0 rfl (fun W hW => y_load rfl (by kernel_rfl) hW.2.load) ?_
          refine h_op 4 (.slice la (crashK st.loose ks st.synced k).length lc) wr.drew (by kernel_rfl) rfl (by kernel_rfl) (y_load rfl (by kernel_rfl) (l_files _ r 1 _ _ _ c1)) hS0 ?_
          refine h_call 12 55 #[.slice la (crashK st.loose ks st.synced k).length lc, .agg #[.int .i64 a.what, S a.path, S a.to, .slice x a.data.length xc]] (by kernel_rfl) rfl (by kernel_rfl) (by kernel_rfl) ?_
          refine Hpl.out.mono ?_
          rintro e w2 ⟨v2, rfl, hf2, hB2⟩
          have hr2 := Hrd.out.new hB2
          have k2 : KR base wr.drew w2 := KR.of_new hB2 hbr
          have hs2 := hr2.set (st' := { st with synced := a.play (crashK st.loose ks st.synced k) }) 1 v2 rfl hr2.files hf2 hr2.acts
          have hS2 : w2.cell? ⟨r, 2, none⟩ = some (.slice (some ⟨g, 0, none⟩) st.loose.length ac) ∧ ActAt w2 g k a x xc := ⟨hr2.c2, Hat.out.below ⟨hB2.os, hB2.tape, hB2.output, hB2.size, hB2.block⟩⟩
          obtain ⟨l2, m2, rfl⟩ := hf2.slice
          refine ⟨_, rfl, hS2, ?_⟩
          have hS3 : (w2.setCell ⟨r, 1, none⟩ (.slice l2 (a.play (crashK st.loose ks st.synced k)).length m2)).cell? ⟨r, 2, none⟩ = some (.slice (some ⟨g, 0, none⟩) st.loose.length ac) ∧ ActAt (w2.setCell ⟨r, 1, none⟩ (.slice l2 (a.play (crashK st.loose ks st.synced k)).length m2)) g k a x xc := ⟨hs2.1.c2, hS2.2.far (Below.heap_setCell _ _ _ _ hgr)⟩
          refine h_tk 13 (.pointer (some ⟨r, 0, none⟩)) hS2 rfl (fun W hW => y_nil rfl (by kernel_rfl)) ?_
          refine h_tk 14 (.pointer (some ⟨r, 1, none⟩)) hS2 rfl (fun W hW => y_field rfl (by kernel_rfl) (f_sh W r 1 (by decide))) ?_
          refine h_sto 15 (w2.setCell ⟨r, 1, none⟩ (.slice l2 (a.play (crashK st.loose ks st.synced k)).length m2)) (by kernel_rfl) rfl (by kernel_rfl) (y_sto rfl (by kernel_rfl) (by kernel_rfl) (st_files _ r 1 _ _ _ _ hr2.c1 (hr2.free 1))) hS3 ?_
          refine h_done _ (by kernel_rfl) ?_
          obtain ⟨w3, hw3⟩ : ∃ w3, w3 = w2.setCell ⟨r, 1, none⟩ (.slice l2 (a.play (crashK st.loose ks st.synced k)).length m2) := ⟨_, rfl⟩
          rw [← hw3] at hs2 ⊢
          have HK3 := Lib.hid ((HK.out.drew.trans k2).trans hs2.2)
          have HR3 := Lib.hid hs2.1
          clear hw3 hs2 hS3 hS2 hS0 hSS hr2 k2 hf2 hB2 c1 c2 hkc
          go_simp
          go_wp2_with fail
          go_roundw
          case rel => exact ⟨k + 1, _, hlt, by go_num, HK3.out, by rw [HS.out]; exact HR3.out⟩
          case measure => simp [intOf]; omega
      · have hkI : ¬ (k : Int) < (ks.length : Int) := by omega
        have hq : ks.getD k false = false := by simp [List.getD, List.getElem?_eq_none (by omega : ks.length ≤ k)]
        have HR : Hid (ROk wr base r vl vo' (.slice (some ⟨g, 0, none⟩) st.loose.length ac) { st with synced := crashK st.loose ks st.synced (k + 1) }) := Lib.hid (by rw [hcs, if_neg (by rw [hq]; decide)]; exact hr)
        have HK := Lib.hid hK
        clear hr hK hcs hat hrow ha hq
        go_wp2_with fail
        go_roundw
        case rel => exact ⟨k + 1, _, hlt, by go_num, HK.out, HR.out⟩
        case measure => simp [intOf]; omega
    · obtain rfl : k = st.loose.length := by omega
      obtain ⟨la, lc, hvo⟩ := hr.old.slice
      subst hvo
      have b1 := set_block hr.blk 0 (.slice la (crashK st.loose ks st.synced st.loose.length).length lc)
      have b2 := set_block b1 2 (.slice none 0 0)
      have b3 := set_block b2 5 (.bool false)
      have b4 := set_block b3 6 (.int .i64 0)
      have b5 := set_block b4 7 (.bool false)
      have k5 := (((((KR.refl base wr).set hr.blk hr.base_r 0 (.slice la (crashK st.loose ks st.synced st.loose.length).length lc)).set b1 hr.base_r 2 (.slice none 0 0)).set b2 hr.base_r 5 (.bool false)).set b3 hr.base_r 6 (.int .i64 0)).set b4 hr.base_r 7 (.bool false)
      have hfin := hr.sets (st' := crashSt ks st) k5 (b5.trans rfl) hr.old hr.old (RActs.nil _ _)
      have c0 := hr.c0; have c1 := hr.c1; have c5 := hr.c5; have c6 := hr.c6; have c7 := hr.c7
      have f0 := hr.free 0; have f2 := hr.free 2; have f5 := hr.free 5; have f6 := hr.free 6; have f7 := hr.free 7
      have HF := Lib.hid hfin; have HK := Lib.hid (hK.trans k5)
      clear hfin hK k5 b1 b2 b3 b4 b5 hr
      go_wp2_with fail
      go_end0
      exact ⟨rfl, HK.out, _, _, _, HF.out⟩
end Go.Proofs.YtbibogpeagnjoaaGreatDoor


namespace Go.Proofs.YtbibogpeagnjoaaGreatDoor
open Go Go.RowKit Go.Maps Go.Sort Go.Shelf Go.Deep

theorem path_dir2 {p : By} (h : pathB p = true) : partB (dirOf p) = true ∧ partB (nameOf p) = true ∧ p.contains 47 = true := by
  unfold pathB at h
  simp only [Bool.and_eq_true] at h
  exact ⟨h.1.2, h.2, h.1.1⟩
theorem cut_whole2 : ∀ {p : By}, p.contains 47 = true → (dirOf p).length + (nameOf p).length + 1 = p.length
  | [], h => by simp at h
  | c :: p, h => by
    by_cases hc : c = 47
    · subst hc; simp [dirOf, nameOf]
    · have h2 : p.contains 47 = true := by
        rw [List.contains_cons] at h
        have : (47 == c) = false := by rw [beq_eq_false_iff_ne]; exact fun e => hc e.symm
        rw [this, Bool.false_or] at h; exact h
      have ih := cut_whole2 h2
      have hb : (c != 47) = true := by simpa using hc
      unfold dirOf nameOf at ih ⊢
      simp only [List.takeWhile_cons, List.dropWhile_cons, hb, ↓reduceIte, List.length_cons]
      omega
theorem path_short2 {p : By} (h : pathB p = true) : p.length ≤ 141 := by
  obtain ⟨h1, h2, h3⟩ := path_dir2 h
  have := cut_whole2 h3
  unfold partB at h1 h2
  simp only [Bool.and_eq_true, decide_eq_true_eq] at h1 h2
  omega

/-- Acts that stay loose: a row of one's own, whose bytes lie from base on. -/
def LeftA (w : World) (base b2 : Nat) (v : Value) (l : List Act) : Prop := ∃ vs, w.ownsRow b2 79 4 v l.length vs ∧ RaIn w base vs l
theorem LeftA.slice {w : World} {base b2 : Nat} {v : Value} {l : List Act} (h : LeftA w base b2 v l) : ∃ a c, v = .slice a l.length c := by
  obtain ⟨vs, hv, _⟩ := h
  rcases hv.2 with ⟨rfl, h0⟩ | ⟨g, cap, cur, rfl, _⟩
  · exact ⟨none, 0, by rw [h0]⟩
  · exact ⟨_, _, rfl⟩
theorem LeftA.below {w w' : World} {base b2 : Nat} {v : Value} {l : List Act} (h : LeftA w base b2 v l) (hB : Below w.heap.size w w') : LeftA w' base b2 v l := by
  obtain ⟨vs, h1, h2⟩ := h
  exact ⟨vs, h1.kept (row := none) ⟨hB.os, hB.tape, hB.output, hB.size, fun k hk _ => hB.block k hk⟩ (Classical.em _), h2.imp fun _ _ hv => hv.keep (K.of_new (base := 0) hB (Nat.zero_le _))⟩
theorem LeftA.set {w : World} {base b2 r i : Nat} {u v : Value} {l : List Act} {cs : Array Value} (h : LeftA w base b2 v l) (hr : w.heap[r]? = some (.cells cs 46 (0, 0))) : LeftA (w.setCell ⟨r, i, none⟩ u) base b2 v l := by
  have k := (KR.refl 0 w).set hr (Nat.zero_le _) i u
  obtain ⟨vs, hv, hz⟩ := h
  refine ⟨vs, ⟨hv.1, ?_⟩, hz.imp fun _ _ h => h.keepR k⟩
  rcases hv.2 with x | ⟨g, cap, cur, e, hb, hg, x⟩
  · exact .inl x
  · refine .inr ⟨g, cap, cur, e, hb, ?_, x⟩
    rw [Below.heap_setCell _ _ _ _ (fun e1 => by
      have e1 : g = r := e1
      subst e1; rw [hr] at hg; cases hg)]
    exact hg

def But1 (r : Nat) (w w' : World) : Prop := ∀ i, i ≠ r → i < w.heap.size → w'.heap[i]? = w.heap[i]?
/-- The loop of Sync, between two rounds. -/
def RSyncRel (base r : Nat) (d : By) (vl va : Value) (st : St) (w : World) (k : Nat) (rest : Value) (wr : World) : Prop :=
  KR base w wr ∧ But1 r w wr ∧ (∃ vo, ROk wr base r vl vo va { st with synced := syncT d (st.loose.take k) st.synced }) ∧ LeftA wr base w.heap.size rest ((syncL d (st.loose.take k)).map (·.2))

/-- A round in which the act stays loose: behind the append. -/
theorem rsync_skip {base r k : Nat} {d : By} {vl va rest v' dv : Value} {st : St} {w wr w1 : World} {a : By × Act} {vs : List Value} (hw : w.heap[r]? ≠ none) (hb : base ≤ w.heap.size) (h : RSyncRel base r d vl va st w k rest wr) (ha : st.loose[k]? = some a) (hq : (a.1 == d) = false) (hd : RowIn wr base dv a.2.data)
    {wb : World} (hBb : Below wr.heap.size wr wb) (hva : ∀ g, va.ownBlock = some g → g < w.heap.size)
    (hvs : wr.ownsRow w.heap.size 79 4 rest ((syncL d (st.loose.take k)).map (·.2)).length vs) (hra : RaIn wr base vs ((syncL d (st.loose.take k)).map (·.2)))
    (hg : wb.grownBy w1 rest.ownBlock) (hown : w1.ownsRow w.heap.size 79 4 v' (((syncL d (st.loose.take k)).map (·.2)).length + 1) (vs ++ [.int .i64 a.2.what, S a.2.path, S a.2.to, dv])) : RSyncRel base r d vl va st w (k + 1) v' w1 := by
  obtain ⟨hK, hbut, ⟨vo, hr⟩, hl⟩ := h
  have hrow : ∀ x, rest.ownBlock = some x → w.heap.size ≤ x ∧ ∃ cur, wr.heap[x]? = some (.cells cur 79 (0, 0)) := fun x hx => racts_block hvs hx
  have hszr := hK.size
  have kb : KR base wr wb := KR.of_new hBb hr.base_le
  have hsame : ∀ i, i < w.heap.size → w1.heap[i]? = wr.heap[i]? := fun i hi => by
    rw [hg.block i (by have := hBb.size; omega) (fun e => by have := (hrow i e.symm).1; omega), hBb.block i (by omega)]
  have hrlt : r < w.heap.size := by
    rcases Nat.lt_or_ge r w.heap.size with h | h
    · exact h
    · exact absurd (Array.getElem?_eq_none h) hw
  have k1 : KR base wb w1 := (KR.refl base wb).grown hg (Nat.le_trans hr.base_le hBb.size) fun x hx => by
    obtain ⟨e1, cur, e2⟩ := hrow x hx
    exact ⟨by omega, cur, _, (hBb.block x (lt_of_block e2)).trans e2⟩
  have kr := kb.trans k1
  have hT : syncT d (st.loose.take (k + 1)) st.synced = syncT d (st.loose.take k) st.synced := by rw [take_snoc ha, syncT_snoc, if_neg (by rw [hq]; decide)]
  have hL : (syncL d (st.loose.take (k + 1))).map (·.2) = (syncL d (st.loose.take k)).map (·.2) ++ [a.2] := by rw [take_snoc ha, syncL_snoc, if_neg (by rw [hq]; decide), List.map_append]; rfl
  refine ⟨hK.trans kr, fun i hi hlt => (hsame i hlt).trans (hbut i hi hlt), ⟨vo, ?_⟩, ?_⟩
  · rw [hT]
    refine ⟨(hsame r hrlt).trans hr.blk, hr.base_r, hr.files.keepR kr, hr.old.keepR kr, ?_⟩
    obtain ⟨vs', hv', hz'⟩ := hr.acts
    refine ⟨vs', ⟨hv'.1, ?_⟩, hz'.imp fun _ _ h => h.keepR kr⟩
    rcases hv'.2 with x | ⟨g, cap, cur, e, hbg, hgg, x⟩
    · exact .inl x
    · exact .inr ⟨g, cap, cur, e, hbg, by rw [hsame g (hva g (by rw [e]; rfl))]; exact hgg, x⟩
  · rw [hL]
    exact ⟨_, by rw [List.length_append]; exact hown, RaIn.snoc (hd.keepR kr) (hra.imp fun _ _ h => h.keepR kr)⟩

/-- A round in which the act is played: behind the store. -/
theorem rsync_play {base r k : Nat} {d : By} {vl va rest : Value} {st : St} {w wr wb w2 : World} {a : By × Act} {vo v2 : Value} (hK : KR base w wr) (hbut : But1 r w wr) (hr : ROk wr base r vl vo va { st with synced := syncT d (st.loose.take k) st.synced })
    (hl : LeftA wr base w.heap.size rest ((syncL d (st.loose.take k)).map (·.2))) (ha : st.loose[k]? = some a) (hq : (a.1 == d) = true) (hBb : Below wr.heap.size wr wb) (hB2 : Below wb.heap.size wb w2) (hf : FilesIn w2 base v2 (a.2.play (syncT d (st.loose.take k) st.synced))) :
    RSyncRel base r d vl va st w (k + 1) rest (w2.setCell ⟨r, 1, none⟩ v2) := by
  have hB : Below wr.heap.size wr w2 := below_two hBb hB2
  have hr2 := hr.new hB
  have hl2 := hl.below hB
  have k2 : KR base wr w2 := KR.of_new hB hr.base_le
  have hT : syncT d (st.loose.take (k + 1)) st.synced = a.2.play (syncT d (st.loose.take k) st.synced) := by rw [take_snoc ha, syncT_snoc, if_pos hq]
  have hL : syncL d (st.loose.take (k + 1)) = syncL d (st.loose.take k) := by rw [take_snoc ha, syncL_snoc, if_pos hq]
  have hs := hr2.set (st' := { st with synced := a.2.play (syncT d (st.loose.take k) st.synced) }) 1 v2 rfl hr2.files hf hr2.acts
  have hsz := hK.size
  refine ⟨(hK.trans k2).trans hs.2, fun i hi hlt => ?_, ⟨v2, by rw [hT]; exact hs.1⟩, by rw [hL]; exact hl2.set hr2.blk⟩
  rw [Below.heap_setCell _ _ _ _ hi, hB.block i (by omega)]
  exact hbut i hi hlt
end Go.Proofs.YtbibogpeagnjoaaGreatDoor


namespace Go.Proofs.YtbibogpeagnjoaaGreatDoor
open Go Go.RowKit Go.Maps Go.Sort Go.Shelf Go.Deep

theorem sync_err1 {d : By} (h : partB d = false) : syncErr d = 1 := by unfold syncErr; rw [if_neg (by rw [h]; decide)]
theorem sync_err0 {d : By} (h : partB d = true) : syncErr d = 0 := by unfold syncErr; rw [if_pos h]
theorem bd_syncT {st : St} {k0 : Nat} (h : Bd st k0) (d : By) (k : Nat) : (syncT d (st.loose.take k) st.synced).length ≤ 1000000 ∧ ∀ q ∈ syncT d (st.loose.take k) st.synced, q.2.length ≤ 262144 := by
  refine ⟨?_, small_syncT h.smallS (fun a ha => h.smallL a (List.mem_of_mem_take ha))⟩
  have := syncT_len d (st.loose.take k) st.synced
  have h2 : (st.loose.take k).length ≤ st.loose.length := by rw [List.length_take]; omega
  have := h.both; have := h.lim; omega

set_option maxHeartbeats 16000000 in
set_option maxRecDepth 100000 in
theorem RSync_any {w : World} {base r k0 : Nat} {vl vo va : Value} {st : St} (h : ROk w base r vl vo va st) (hp : PlI st) (hbd : Bd st k0) {d : By} (hdl : d.length ≤ lim) :
    Calls Tryz.prog 16 #[.pointer (some ⟨r, 0, none⟩), S d] w (RDoPost base r (doN st (syncErr d)) (doSt st (syncErr d) (syncedSt d st)) w) := by
  have Hpw := Lib.hid (RPower_any h hp)
  have H := Lib.hid h; have Hp := Lib.hid hp; have Hbd := Lib.hid hbd
  have hbw := h.base_le
  have hpa := fun W => Part_any d W hdl
  unfold S at hpa
  have HPa := Lib.hid hpa
  clear h hp hbd hpa
  cases ho : on st with
  | false =>
    obtain ⟨e1, e2⟩ := do_off' (st1 := syncedSt d st) (er := syncErr d) ho
    rw [e1, e2]
    have Ho := Lib.hid ho
    clear e1 e2 ho
    unfold S
    go_enter Tryz.func16, Tryz.ntmps16
    go_wp2_with fail
    refine Hpw.out.mono ?_
    rintro e w1 (⟨h1, _⟩ | ⟨_, rfl, hk, hr⟩)
    · rw [Ho.out] at h1; cases h1
    have HK := Lib.hid hk; have HR := Lib.hid hr
    clear hk hr
    go_wp2_with fail
    go_ret
    exact ⟨rfl, HK.out, _, _, _, HR.out⟩
  | true =>
    have hpw : Calls Tryz.prog 43 #[.pointer (some ⟨r, 0, none⟩)] w fun e w' => e = .returned (.bool true) ∧ w = w' := Hpw.out.mono fun e w' hh => by
      rcases hh with ⟨_, h1, h2⟩ | ⟨h1, _⟩
      · exact ⟨h1, h2⟩
      · rw [ho] at h1; cases h1
    have Hpw2 := Lib.hid hpw
    have Ho := Lib.hid ho
    clear hpw Hpw ho
    cases hpb : partB d with
    | false =>
      rw [hpb] at HPa
      have hbad := sync_err1 hpb
      obtain ⟨e1, e2⟩ := do_bad' (st1 := syncedSt d st) (er := syncErr d) Ho.out (by rw [hbad]; decide)
      rw [e1, e2, hbad]
      clear e1 e2 hbad hpb
      unfold S
      go_enter Tryz.func16, Tryz.ntmps16
      go_wp2_with fail
      refine Hpw2.out.mono ?_
      rintro e w1 hh
      obtain ⟨rfl, hw⟩ := hh
      subst hw
      go_wp2_with fail
      refine (HPa.out _).mono ?_
      rintro e w2 hh
      obtain ⟨rfl, hw⟩ := hh
      subst hw
      go_wp2_with fail
      go_ret
      exact ⟨rfl, KR.refl _ _, _, _, _, H.out⟩
    | true =>
      rw [hpb] at HPa
      obtain ⟨e1, e2⟩ := do_good' (st1 := syncedSt d st) (er := syncErr d) Ho.out (sync_err0 hpb)
      rw [e1, e2]
      clear e1 e2 hpb
      obtain ⟨aa, ac, hva⟩ := H.out.acts.slice
      rw [List.length_map] at hva
      subst hva
      have hn : st.loose.length ≤ 1000000 := by have := Hbd.out.both; have := Hbd.out.lim; omega
      have Hva : Hid (∀ g, (Value.slice aa st.loose.length ac).ownBlock = some g → g < w.heap.size) := Lib.hid fun g e => by
        obtain ⟨vs, hv, _⟩ := H.out.acts
        obtain ⟨_, cur, hc⟩ := racts_block hv e
        exact lt_of_block hc
      unfold S
      go_enter Tryz.func16, Tryz.ntmps16
      go_wp2_with fail
      refine Hpw2.out.mono ?_
      rintro e w1 hh
      obtain ⟨rfl, hw⟩ := hh
      subst hw
      go_wp2_with fail
      refine (HPa.out _).mono ?_
      rintro e w2 hh
      obtain ⟨rfl, hw⟩ := hh
      subst hw
      go_wp2_with fail
      go_loopw [6, 7, 8, 9, 10] (fun lv iv _a _b _c wr => ∃ (k : Nat), k ≤ st.loose.length ∧ iv = .int .i64 k ∧ Hid (RSyncRel base r d vl (.slice aa st.loose.length ac) st w k lv wr)) (fun _ iv _ _ _ _ => st.loose.length - (intOf iv).toNat)
      case atStart => exact ⟨0, Nat.zero_le _, rfl, Lib.hid ⟨KR.refl _ _, fun _ _ _ => rfl, ⟨vo, H.out⟩, [], World.ownsRow_nil _ _ _ _, trivial⟩⟩
      case round =>
        obtain ⟨k, hk, rfl, hrel⟩ := hrel
        obtain ⟨vo', hr⟩ := hrel.out.2.2.1
        have c2 := hr.c2
        by_cases hlt : k < st.loose.length
        · obtain ⟨⟨dd, a⟩, ha⟩ : ∃ x, st.loose[k]? = some x := ⟨_, List.getElem?_eq_getElem hlt⟩
          obtain ⟨g, gc, x, xc, hv, hat, hrow, hgr⟩ := hr.act (k := k) (d := dd) (a := a) ha
          cases hv
          obtain ⟨hdd, hpp⟩ := Hp.out.acts (dd, a) (List.mem_of_getElem? ha)
          have hdir := fun W => Dir_any a.path W (by have h9 : a.path.length ≤ 141 := path_short2 hpp; unfold lim; omega)
          unfold DirRPost S at hdir
          rw [refDir_path hpp, ← hdd, hpp] at hdir
          obtain ⟨a0, a1, a2, a3⟩ := hat
          unfold S at a1 a2
          have Hrow := Lib.hid hrow; have Hr := Lib.hid hr; have Ha := Lib.hid ha; have Hdir := Lib.hid hdir
          have hnw := heap_alloc_new wr (.cells #[.int .i64 a.what, .string ⟨a.path.toArray⟩, .string ⟨a.to.toArray⟩, .slice x a.data.length xc] 79)
          have Hnw := Lib.hid hnw
          have hBa := below_alloc wr (.cells #[.int .i64 a.what, .string ⟨a.path.toArray⟩, .string ⟨a.to.toArray⟩, .slice x a.data.length xc] 79)
          have HBa := Lib.hid hBa
          clear hrow hr ha hdd hpp hdir hnw hBa hgr
          go_wp2_with fail
          refine (Hdir.out _).mono ?_
          rintro e w3 ⟨rfl, hB3⟩
          have hx3 := (hB3.block wr.heap.size (lt_of_block Hnw.out)).trans Hnw.out
          have hB13 := below_two HBa.out hB3
          have Hx3 := Lib.hid hx3; have HB13 := Lib.hid hB13
          have x0 := cell_of_block hx3 0; have x1 := cell_of_block hx3 1; have x2 := cell_of_block hx3 2; have x3 := cell_of_block hx3 3
          have d2 := cell_below' hB13 c2
          clear hB3 hx3 hB13 a0 a1 a2 a3 c2
          cases hq : (dd == d) with
          | true =>
            obtain ⟨hK, hbut, _, hleft⟩ := hrel.out
            have hrd : ROk w3 base r _ _ _ _ := Hr.out.new HB13.out
            obtain ⟨la, lc, hvo⟩ := hrd.old.slice
            subst hvo
            have c1 := hrd.c1
            have hb := bd_syncT Hbd.out d k
            have hbr := hrd.base_le
            have hpl := played_any (w := w3.drew) (hrd.old.keep ((K.refl 0 w3).drew)) (syncT_rises d _ Hp.out.risesS) hbr hb.1 hb.2 a ((Hrow.out.keep (K.of_new (base := 0) HB13.out (Nat.zero_le _))).drew) (data_small Hbd.out Ha.out)
            have Hpl := Lib.hid hpl; have Hrd := Lib.hid hrd; have Hq := Lib.hid hq
            clear hpl hrd hb hK hbut hleft
            go_wp2_with fail
            refine h_start (fun W => W.heap[wr.heap.size]? = some (.cells #[.int .i64 a.what, .string ⟨a.path.toArray⟩, .string ⟨a.to.toArray⟩, .slice x a.data.length xc] 79 (0, 0))) (by kernel_rfl) ?_
            have hS0 := Hx3.out
            refine h_tk 0 (.pointer (some ⟨r, 0, none⟩)) hS0 rfl (fun W hW => by kernel_rfl) ?_
            refine h_tk 1 (.pointer (some ⟨r, 0, none⟩)) hS0 rfl (fun W hW => by kernel_rfl) ?_
            refine h_tk 2 (.pointer (some ⟨r, 0, none⟩)) hS0 rfl (fun W hW => y_nil rfl (by kernel_rfl)) ?_
            refine h_tk 3 (.pointer (some ⟨r, 1, none⟩)) hS0 rfl (fun W hW => y_field rfl (by kernel_rfl) (f_sh W r 1 (by decide))) ?_
            refine h_tk 5 (.agg #[.int .i64 a.what, .string ⟨a.path.toArray⟩, .string ⟨a.to.toArray⟩, .slice x a.data.length xc]) hS0 rfl (fun W hW => y_load rfl (by kernel_rfl) (box_act rfl rfl rfl hW)) ?_
            refine h_op 4 (.slice la (syncT d (st.loose.take k) st.synced).length lc) w3.drew (by kernel_rfl) rfl (by kernel_rfl) (y_load rfl (by kernel_rfl) (l_files _ r 1 _ _ _ c1)) hS0 ?_
            refine h_call 6 55 #[.slice la (syncT d (st.loose.take k) st.synced).length lc, .agg #[.int .i64 a.what, .string ⟨a.path.toArray⟩, .string ⟨a.to.toArray⟩, .slice x a.data.length xc]] (by kernel_rfl) rfl (by kernel_rfl) (by kernel_rfl) ?_
            refine Hpl.out.mono ?_
            rintro e w4 ⟨v4, rfl, hf4, hB4d⟩
            have hB4 : Below w3.heap.size w3 w4 := ⟨hB4d.os, hB4d.tape, hB4d.output, hB4d.size, hB4d.block⟩
            have hR := rsync_play (a := (dd, a)) hrel.out.1 hrel.out.2.1 Hr.out hrel.out.2.2.2 Ha.out Hq.out HB13.out hB4 hf4
            have hr4 := Hrd.out.new hB4
            have hS4 := (hB4.block wr.heap.size (lt_of_block Hx3.out)).trans Hx3.out
            obtain ⟨l2, m2, rfl⟩ := hf4.slice
            refine ⟨_, rfl, hS4, ?_⟩
            have hne : wr.heap.size ≠ r := by have := lt_of_block Hr.out.blk; omega
            have hS5 := (Below.heap_setCell w4 ⟨r, 1, none⟩ (.slice l2 (a.play (syncT d (st.loose.take k) st.synced)).length m2) _ hne).trans hS4
            refine h_tk 7 (.pointer (some ⟨r, 0, none⟩)) hS4 rfl (fun W hW => y_nil rfl (by kernel_rfl)) ?_
            refine h_tk 8 (.pointer (some ⟨r, 1, none⟩)) hS4 rfl (fun W hW => y_field rfl (by kernel_rfl) (f_sh W r 1 (by decide))) ?_
            refine h_sto 9 (w4.setCell ⟨r, 1, none⟩ (.slice l2 (a.play (syncT d (st.loose.take k) st.synced)).length m2)) (by kernel_rfl) rfl (by kernel_rfl) (y_sto rfl (by kernel_rfl) (by kernel_rfl) (st_files _ r 1 _ _ _ _ hr4.c1 (hr4.free 1))) hS5 ?_
            refine h_done _ (by kernel_rfl) ?_
            have HR := Lib.hid hR
            obtain ⟨w5, hw5⟩ : ∃ w5, w5 = w4.setCell ⟨r, 1, none⟩ (.slice l2 (a.play (syncT d (st.loose.take k) st.synced)).length m2) := ⟨_, rfl⟩
            have e5 : w4.setCell ⟨r, 1, none⟩ (.slice l2 (a.play (syncT d (st.loose.take k) st.synced)).length m2) = w5 := hw5.symm
            rw [e5] at HR ⊢
            clear hw5 e5 hR hr4 hS4 hS5 hS0 hf4 hB4 hB4d hne c1 d2 x0 x1 x2 x3
            go_simp
            go_wp2_with fail
            go_roundw
            case rel => exact ⟨k + 1, hlt, by go_num, HR⟩
            case measure => simp [intOf]; omega
          | false =>
            obtain ⟨hK, hbut, _, hleft⟩ := hrel.out
            obtain ⟨al, nl, hls⟩ := hleft.slice
            obtain ⟨vs, hvs0, hra0⟩ := hleft
            have hvs := hvs0.kept (w' := w3) (row := none) ⟨HB13.out.os, HB13.out.tape, HB13.out.output, HB13.out.size, fun k hk _ => HB13.out.block k hk⟩ (Classical.em _)
            have Hvs0 := Lib.hid hvs0; have Hra0 := Lib.hid hra0
            have hol : (syncL d (st.loose.take k)).length ≤ k := by
              have h1 := syncL_len d (st.loose.take k)
              rw [List.length_take] at h1; omega
            obtain ⟨i0, hi0, hz0, hz1, hz2⟩ := info_parts infoRef
            have hnw := heap_alloc_new w3 (.cells #[.int .i64 a.what, .string ⟨a.path.toArray⟩, .string ⟨a.to.toArray⟩, .slice x a.data.length xc] 79)
            have Hnw3 := Lib.hid hnw
            have hsz3 : w.heap.size ≤ w3.heap.size := by have := hK.size; have := HB13.out.size; omega
            have Hq := Lib.hid hq
            have Hrel := Lib.hid hrel.out
            rw [List.length_map] at hls hvs
            obtain ⟨LL, hLL⟩ : ∃ LL, LL = (syncL d (st.loose.take k)).length := ⟨_, rfl⟩
            rw [← hLL] at hvs hol hls
            have HLL := Lib.hid hLL
            have HVS := Lib.hid hvs
            clear hnw hra0 hvs0 hbut hK hLL hrel
            subst hls
            go_wp2_with (at_builtin; refine wpList_append_own _ rfl _ _ 44 rfl w.heap.size 79 i0 _ 4 64 Tryz.underlying44 hi0 hz0 hz1 hz2 rfl (by decide) _ _ _ rfl (hvs.alloc _) ⟨w3.heap.size, 0, none⟩ 1 1 [.int .i64 a.what, .string ⟨a.path.toArray⟩, .string ⟨a.to.toArray⟩, .slice x a.data.length xc] rfl rfl ?c1 ?c2 ?c3 ?c4 ?c5 ?_)
            case c1 => exact World.news_of_block (cs := #[.int .i64 a.what, .string ⟨a.path.toArray⟩, .string ⟨a.to.toArray⟩, .slice x a.data.length xc]) (t := 79) (fr := (0, 0)) Hnw3.out
            case c2 => simp [Value.oneCell']
            case c3 => unfold maxLen; omega
            case c4 => omega
            case c5 => simp; omega
            intro v' w4 hown' hgrow _
            have hR := rsync_skip (a := (dd, a)) (by rw [H.out.blk]; simp) hbw Hrel.out Ha.out Hq.out Hrow.out (below_two HB13.out (below_alloc w3 _)) Hva.out Hvs0.out Hra0.out hgrow (by rw [List.length_map, ← HLL.out]; exact hown')
            have HR := Lib.hid hR
            clear hR hown' hgrow hvs x0 x1 x2 x3 d2
            go_wp2_with fail
            go_roundw
            case rel => exact ⟨k + 1, hlt, by go_num, HR⟩
            case measure => simp [intOf]; omega
        · obtain rfl : k = st.loose.length := by omega
          obtain ⟨hK, hbut, _, hleft⟩ := hrel.out
          rw [List.take_length] at hr hleft
          obtain ⟨al, nl, hls⟩ := hleft.slice
          rw [List.length_map] at hls
          obtain ⟨vs, hvs, hra⟩ := hleft
          have hacts : RActs wr base u6 ((syncL d st.loose).map (·.2)) := ⟨vs, row_mono hvs hbw, hra⟩
          have hs := hr.set (st' := syncedSt d st) (va' := u6) 2 u6 rfl hr.files hr.old hacts
          have f2 := hr.free 2
          have Hdi := Lib.hid (Rdid_any hs.1 (by show st.fuse = -1 ∨ 1 ≤ st.fuse; exact on_fuse Hp.out Ho.out) (by show st.fuse ≤ _; exact Hp.out.high))
          have HK := Lib.hid (hK.trans hs.2)
          subst hls
          clear hs hK hbut hvs hra hacts hr hrel
          go_wp2_with fail
          refine Hdi.out.mono ?_
          rintro e w7 ⟨rfl, k8, v1, v2, v3, hr8⟩
          have HE := Lib.hid (HK.out.trans k8); have HR := Lib.hid hr8
          clear k8 hr8
          go_wp2_with fail
          go_ret
          exact ⟨rfl, HE.out, _, _, _, HR.out⟩
end Go.Proofs.YtbibogpeagnjoaaGreatDoor
