/-
  Crash: the walks.
-/
import Derived.Test.YtccloieikkdcoaaGreatDoorCrash
import Derived.LoopN
namespace Go.Proofs.YtccloieikkdcoaaGreatDoor
open Go Go.RowKit Go.Maps Go.Shelf

set_option maxHeartbeats 8000000 in
set_option maxRecDepth 100000 in
theorem Crash_some {w : World} {base s f y k0 g cap : Nat} {st : St} (h : Ok w base s f y (.slice (some ⟨g, 0, none⟩) st.loose.length cap) st) (hbd : Bd st k0) {kv : Value} {ks : List Bool} (hkv : BoolsAt w base kv ks) (hkl : ks.length ≤ maxLen) :
    Calls Tryz.prog 23 #[.pointer (some ⟨s, 0, none⟩), kv] w (CrashPost base s y (crashSt ks st) w) := by
  have c2 := h.c2
  have hn : st.loose.length ≤ 1000000 := by have := hbd.both; have := hbd.lim; omega
  have hgl : g < w.heap.size ∧ g ≠ y := by
    obtain ⟨vs, hv, _⟩ := h.loose
    obtain ⟨_, cur, hc⟩ := ownBlock_row hv (r := g) rfl
    refine ⟨lt_of_block hc, fun e => ?_⟩
    obtain ⟨xs, c, hm⟩ := h.synced.isMap
    rw [e, hm] at hc; cases hc
  have Hgl := Lib.hid hgl.1; have Hgy := Lib.hid hgl.2; clear hgl
  obtain ⟨ak, ck, rfl⟩ : ∃ ak ck, kv = .slice ak ks.length ck := by
    rcases hkv with ⟨rfl, rfl⟩ | ⟨a, c, rfl, _⟩
    · exact ⟨none, 0, rfl⟩
    · exact ⟨_, _, rfl⟩
  unfold maxLen at hkl
  have Hk := Lib.hid h; have Hkv := Lib.hid hkv
  clear hkv
  go_enter Tryz.func23, Tryz.ntmps23
  go_wp2_with fail
  go_loopw [11] (fun i wr => ∃ k : Nat, k ≤ st.loose.length ∧ i = .int .i64 k ∧ CrashRel base s y g ks st w k wr) (fun i _ => st.loose.length - (intOf i).toNat)
  case atStart => exact ⟨0, Nat.zero_le _, rfl, K.refl _ _, rfl, rfl, Hk.out.synced⟩
  case round =>
    obtain ⟨k, hk, rfl, hK, hs, hg, ht⟩ := hrel
    by_cases hlt : k < st.loose.length
    · obtain ⟨vs, hown1, hacts1⟩ := Hk.out.loose
      obtain ⟨a, ha⟩ : ∃ a, st.loose[k]? = some a := ⟨_, List.getElem?_eq_getElem hlt⟩
      obtain ⟨pv, e0, e1, hact⟩ := hacts1.at k a ha
      have hgc : ∀ j u, vs[j]? = some u → wr.cell? ⟨g, j, none⟩ = some u := fun j u hu => by
        have := World.ownsRow.cells hown1 (g := g) rfl j u hu
        rw [show (⟨g, 0, none⟩ : Addr).add j = ⟨g, j, none⟩ by unfold Addr.add; split <;> simp_all] at this
        rw [World.cell?_of_block (w := w) (a := ⟨g, j, none⟩) hg]; exact this
      have x0 := hgc _ _ e0
      have x1 := hgc _ _ e1
      unfold S at x0
      obtain ⟨gN, capN, rfl, hent, hplay⟩ := act_shape hact
      have Hplay := Lib.hid hplay; clear hplay
      have Hact := Lib.hid hact
      have Hst := Lib.hid ha
      clear hgc e0 e1 hact ha hown1 hacts1
      have c11 : wr.cell? ⟨s, 1, none⟩ = some (.map (some y)) := by rw [World.cell?_of_block (w := w) (a := ⟨s, 1, none⟩) hs]; exact Hk.out.c1
      have c12 := cell_below (below_alloc wr (.cells #[.string ⟨a.1.toArray⟩, .func (.func gN) #[] capN] 81)) c11
      have b1 : (wr.alloc (.cells #[.string ⟨a.1.toArray⟩, .func (.func gN) #[] capN] 81)).cell? ⟨wr.heap.size, 1, none⟩ = some (.func (.func gN) #[] capN) := cell_of_block (heap_alloc_new wr _) 1
      by_cases hkk : k < ks.length
      · have hkI : (k : Int) < (ks.length : Int) := by omega
        obtain ⟨ka, rfl, hkc⟩ : ∃ ka, ak = some ka ∧ (wr.alloc (.cells #[.string ⟨a.1.toArray⟩, .func (.func gN) #[] capN] 81)).cell? (ka.add k) = some (.bool (ks.getD k false)) := by
          rcases (Hkv.out.keep hK) with ⟨e, e2⟩ | ⟨ka, c, e, hc⟩
          · rw [e2] at hkk; simp at hkk
          · cases e
            refine ⟨ka, rfl, ?_⟩
            obtain ⟨_, h2⟩ := hc k hkk
            rw [List.getElem?_eq_getElem hkk] at h2
            have h3 := cell_below (below_alloc wr (.cells #[.string ⟨a.1.toArray⟩, .func (.func gN) #[] capN] 81)) h2
            rw [h3]; simp [hkk]
        cases hq : ks.getD k false
        · rw [hq] at hkc
          have HQ := hq; clear hq
          have R := crash_skip (o1 := .cells #[.string ⟨a.1.toArray⟩, .func (.func gN) #[] capN] 81) Hk.out Hgl.out Hst.out HQ hK hs hg ht
          have HR := Lib.hid R
          clear R hs hg ht hK
          go_wp2_with fail
          go_roundw
          case rel => exact ⟨k + 1, by omega, by go_num, HR.out⟩
          case measure => simp [intOf]; omega
        · rw [hq] at hkc
          have hlen : (crashK st.loose ks st.synced k).length < maxLen := by
            have h1 := crashK_len st.loose ks st.synced k
            have h3 := hbd.both; have h4 := hbd.lim
            unfold maxLen; omega
          have hwrs := hK.size
          have hBa := below_alloc wr (.cells #[.string ⟨a.1.toArray⟩, .func (.func gN) #[] capN] 81)
          have hta : TabIn (wr.alloc (.cells #[.string ⟨a.1.toArray⟩, .func (.func gN) #[] capN] 81)).drew base y (crashK st.loose ks st.synced k) :=
            ht.keep ((K.of_new (base := base) hBa (by have := Hk.out.base_le; omega)).drew) (hBa.block y ht.lt)
          have haa : ActIn (wr.alloc (.cells #[.string ⟨a.1.toArray⟩, .func (.func gN) #[] capN] 81)).drew base (.func (.func gN) #[] capN) a.2 :=
            Hact.out.keep ((hK.trans (K.of_new (base := base) hBa (by have := Hk.out.base_le; omega))).drew)
          have hpl := Hplay.out _ y _ haa (hbd.fits a (List.mem_of_getElem? Hst.out)) hta hlen
          have Hpl := Lib.hid hpl
          have hny : wr.heap.size ≠ y := by have := ht.lt; omega
          have hsy : s ≠ y := fun e => by obtain ⟨xs, c, hm⟩ := Hk.out.synced.isMap; rw [← e, Hk.out.blk] at hm; cases hm
          have HQ := Lib.hid hq
          clear hpl hta haa hlen hq
          go_wp2_with fail
          go_region_held3 (fun w' => w'.cell? ⟨wr.heap.size, 1, none⟩ = some (.func (.func gN) #[] capN) ∧ w'.cell? ⟨s, 1, none⟩ = some (.map (some y)))
            (first | exact ⟨b1, c12⟩ | assumption | go_keep)
            (first | (refine Hpl.out.mono ?_; rintro e w2 ⟨rfl, ht2, hg2⟩; have hS2 := And.intro (hg2.cell b1 (by intro e; cases e; exact hny rfl)) (hg2.cell c12 (by intro e; cases e; exact hsy rfl))))
          have R := crash_play Hk.out Hgl.out Hgy.out Hst.out HQ.out hK hs hg ht ht2 ⟨hg2.os, hg2.tape, hg2.output, hg2.size, hg2.block⟩
          have HR := Lib.hid R
          clear R ht hs hg hK ht2 hg2 hS2
          go_wp2_with fail
          go_roundw
          case rel => exact ⟨k + 1, by omega, by go_num, HR.out⟩
          case measure => simp [intOf]; omega
      · have hkI : ¬ (k : Int) < (ks.length : Int) := by omega
        have HQ : ks.getD k false = false := by simp [List.getD, List.getElem?_eq_none (by omega : ks.length ≤ k)]
        have R := crash_skip (o1 := .cells #[.string ⟨a.1.toArray⟩, .func (.func gN) #[] capN] 81) Hk.out Hgl.out Hst.out HQ hK hs hg ht
        have HR := Lib.hid R
        clear R hs hg ht hK
        go_wp2_with fail
        go_roundw
        case rel => exact ⟨k + 1, by omega, by go_num, HR.out⟩
        case measure => simp [intOf]; omega
    · obtain rfl : k = st.loose.length := by omega
      have hs3 : wr.heap[s]? = some (.cells (shelfCells f y (.slice (some ⟨g, 0, none⟩) st.loose.length cap) st) 70 (0, 0)) := hs.trans Hk.out.blk
      have c11 : wr.cell? ⟨s, 1, none⟩ = some (.map (some y)) := cell_of_block hs3 1
      have Hcl := Lib.hid (mapClone_any ht)
      have Hs3 := Lib.hid hs3; have Ht := Lib.hid ht; have HK := Lib.hid hK; have Hs := Lib.hid hs
      clear hs3 ht hK hg hs
      go_wp2_with fail
      refine Hcl.out.mono ?_
      rintro e w2 ⟨rfl, ht2, hB2⟩
      have R := crash_end (st' := crashSt ks st) Hk.out HK.out Hs.out Ht.out hB2 ht2 rfl
      have HR := Lib.hid R; clear R ht2
      have hsl : s < wr.heap.size := lt_of_block Hs3.out
      have hs2 : w2.heap[s]? = _ := (hB2.block s hsl).trans Hs3.out
      have d0 : w2.cell? ⟨s, 0, none⟩ = some (.map (some f)) := cell_of_block hs2 0
      have d2 : w2.cell? ⟨s, 2, none⟩ = some (.slice (some ⟨g, 0, none⟩) st.loose.length cap) := cell_of_block hs2 2
      have d5 : w2.cell? ⟨s, 5, none⟩ = some (.int .i64 st.fuse) := cell_of_block hs2 5
      have d6 : w2.cell? ⟨s, 6, none⟩ = some (.bool st.down) := cell_of_block hs2 6
      have e0 : w2.frozen? ⟨s, 0, none⟩ = false := by simp [World.frozen?, hs2]
      have e2 : w2.frozen? ⟨s, 2, none⟩ = false := by simp [World.frozen?, hs2]
      have e5 : w2.frozen? ⟨s, 5, none⟩ = false := by simp [World.frozen?, hs2]
      have e6 : w2.frozen? ⟨s, 6, none⟩ = false := by simp [World.frozen?, hs2]
      clear hs2
      go_wp2_with fail
      go_end0
      exact ⟨rfl, HR.out.1, _, HR.out.2⟩

set_option maxHeartbeats 8000000 in
set_option maxRecDepth 100000 in
theorem Crash_nil {w : World} {base s f y : Nat} {st : St} (h : Ok w base s f y (.slice none 0 0) st) (hl : st.loose = []) {kv : Value} {ks : List Bool} :
    Calls Tryz.prog 23 #[.pointer (some ⟨s, 0, none⟩), kv] w (CrashPost base s y (crashSt ks st) w) := by
  have c2 := h.c2
  have c11 := h.c1
  have Hcl := Lib.hid (mapClone_any h.synced)
  have he : crashSt ks st = { st with files := st.synced, synced := st.synced, loose := [], fuse := -1, down := false } := by unfold crashSt; rw [hl]; rfl
  have Hk := Lib.hid h; have He := Lib.hid he
  clear h he hl
  go_enter Tryz.func23, Tryz.ntmps23
  go_wp2_with fail
  refine wp_loop_rounds 1 ?_
  rw [rounds_succ]
  go_wp2_with fail
  refine Hcl.out.mono ?_
  rintro e w2 ⟨rfl, ht2, hB2⟩
  have R := crash_end (st' := crashSt ks st) Hk.out (K.refl _ _) rfl Hk.out.synced hB2 ht2 He.out
  have HR := Lib.hid R; clear R ht2
  have hsl : s < w.heap.size := lt_of_block Hk.out.blk
  have hs2 : w2.heap[s]? = _ := (hB2.block s hsl).trans Hk.out.blk
  have d0 : w2.cell? ⟨s, 0, none⟩ = some (.map (some f)) := cell_of_block hs2 0
  have d2 : w2.cell? ⟨s, 2, none⟩ = some (.slice none 0 0) := cell_of_block hs2 2
  have d5 : w2.cell? ⟨s, 5, none⟩ = some (.int .i64 st.fuse) := cell_of_block hs2 5
  have d6 : w2.cell? ⟨s, 6, none⟩ = some (.bool st.down) := cell_of_block hs2 6
  have e0 : w2.frozen? ⟨s, 0, none⟩ = false := by simp [World.frozen?, hs2]
  have e2 : w2.frozen? ⟨s, 2, none⟩ = false := by simp [World.frozen?, hs2]
  have e5 : w2.frozen? ⟨s, 5, none⟩ = false := by simp [World.frozen?, hs2]
  have e6 : w2.frozen? ⟨s, 6, none⟩ = false := by simp [World.frozen?, hs2]
  clear hs2
  go_wp2_with fail
  go_end0
  exact ⟨rfl, HR.out.1, _, HR.out.2⟩

theorem Crash_any {w : World} {base s f y k0 : Nat} {lv : Value} {st : St} (h : Ok w base s f y lv st) (hbd : Bd st k0) {kv : Value} {ks : List Bool} (hkv : BoolsAt w base kv ks) (hkl : ks.length ≤ maxLen) :
    Calls Tryz.prog 23 #[.pointer (some ⟨s, 0, none⟩), kv] w (CrashPost base s y (crashSt ks st) w) := by
  obtain ⟨vs, hv, ha⟩ := h.loose
  rcases hv.2 with ⟨rfl, h0⟩ | ⟨g, cap, cur, rfl, _⟩
  · exact Crash_nil h (List.length_eq_zero_iff.1 h0)
  · exact Crash_some h hbd hkv hkl
end Go.Proofs.YtccloieikkdcoaaGreatDoor
