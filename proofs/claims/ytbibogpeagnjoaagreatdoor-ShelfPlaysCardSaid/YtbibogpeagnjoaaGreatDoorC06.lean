/-
  Crash: the walks.
  What a shelf tells: Acts, Loose, Used.
  slices.Sorted(maps.Keys(m)) at a map of files: its paths, rising.
  Of, New: a shelf of files.
  Files: all files, by rising paths, in new memory.
-/
import Derived.LoopN
import Derived.Test.YtbibogpeagnjoaaGreatDoorC05
import Derived.Sort.KeysCollected
import Derived.Test.YtbibogpeagnjoaaGreatDoorLay

namespace Go.Proofs.YtbibogpeagnjoaaGreatDoor
open Go Go.RowKit Go.Maps Go.Shelf

set_option maxHeartbeats 8000000 in
set_option maxRecDepth 100000 in
theorem Crash_some {w : World} {base s f y k0 g cap : Nat} {st : St} (h : Ok w base s f y (.slice (some ⟨g, 0, none⟩) st.loose.length cap) st) (hbd : Bd st k0) {kv : Value} {ks : List Bool} (hkv : BoolsAt w base kv ks) (hkl : ks.length ≤ maxLen) :
    Calls Tryz.prog 21 #[.pointer (some ⟨s, 0, none⟩), kv] w (CrashPost base s y (crashSt ks st) w) := by
  have c2 := h.c2
  have hn : st.loose.length ≤ 1000000 := by have := hbd.both; have := hbd.lim; omega
  have hgl : g < w.heap.size ∧ g ≠ y := by
    obtain ⟨vs, hv, _⟩ := h.loose
    obtain ⟨_, cur, hc⟩ := ownBlock_row hv (r := g) rfl
    refine ⟨lt_of_block hc, fun e => ?_⟩
    obtain ⟨xs, c, hm⟩ := h.synced.isMap
    rw [e, hm] at hc; cases hc
  have Hgl := Lib.hid hgl.1; have Hgy := Lib.hid hgl.2; clear hgl
  obtain ⟨ak, ck, rfl⟩ : ∃ ak ck, kv = .slice ak ks.length ck := by
    rcases hkv with ⟨rfl, rfl⟩ | ⟨a, c, rfl, _⟩
    · exact ⟨none, 0, rfl⟩
    · exact ⟨_, _, rfl⟩
  unfold maxLen at hkl
  have Hk := Lib.hid h; have Hkv := Lib.hid hkv
  clear hkv
  go_enter Tryz.func21, Tryz.ntmps21
  go_wp2_with fail
  go_loopw [11] (fun i wr => ∃ k : Nat, k ≤ st.loose.length ∧ i = .int .i64 k ∧ CrashRel base s y g ks st w k wr) (fun i _ => st.loose.length - (intOf i).toNat)
  case atStart => exact ⟨0, Nat.zero_le _, rfl, K.refl _ _, rfl, rfl, Hk.out.synced⟩
  case round =>
    obtain ⟨k, hk, rfl, hK, hs, hg, ht⟩ := hrel
    by_cases hlt : k < st.loose.length
    · obtain ⟨vs, hown1, hacts1⟩ := Hk.out.loose
      obtain ⟨a, ha⟩ : ∃ a, st.loose[k]? = some a := ⟨_, List.getElem?_eq_getElem hlt⟩
      obtain ⟨pv, e0, e1, hact⟩ := hacts1.at k a ha
      have hgc : ∀ j u, vs[j]? = some u → wr.cell? ⟨g, j, none⟩ = some u := fun j u hu => by
        have := World.ownsRow.cells hown1 (g := g) rfl j u hu
        rw [show (⟨g, 0, none⟩ : Addr).add j = ⟨g, j, none⟩ by unfold Addr.add; split <;> simp_all] at this
        rw [World.cell?_of_block (w := w) (a := ⟨g, j, none⟩) hg]; exact this
      have x0 := hgc _ _ e0
      have x1 := hgc _ _ e1
      unfold S at x0
      obtain ⟨gN, capN, rfl, hent, hplay⟩ := act_shape hact
      have Hplay := Lib.hid hplay; clear hplay
      have Hact := Lib.hid hact
      have Hst := Lib.hid ha
      clear hgc e0 e1 hact ha hown1 hacts1
      have c11 : wr.cell? ⟨s, 1, none⟩ = some (.map (some y)) := by rw [World.cell?_of_block (w := w) (a := ⟨s, 1, none⟩) hs]; exact Hk.out.c1
      have c12 := cell_below (below_alloc wr (.cells #[.string ⟨a.1.toArray⟩, .func (.func gN) #[] capN] 75)) c11
      have b1 : (wr.alloc (.cells #[.string ⟨a.1.toArray⟩, .func (.func gN) #[] capN] 75)).cell? ⟨wr.heap.size, 1, none⟩ = some (.func (.func gN) #[] capN) := cell_of_block (heap_alloc_new wr _) 1
      by_cases hkk : k < ks.length
      · have hkI : (k : Int) < (ks.length : Int) := by omega
        obtain ⟨ka, rfl, hkc⟩ : ∃ ka, ak = some ka ∧ (wr.alloc (.cells #[.string ⟨a.1.toArray⟩, .func (.func gN) #[] capN] 75)).cell? (ka.add k) = some (.bool (ks.getD k false)) := by
          rcases (Hkv.out.keep hK) with ⟨e, e2⟩ | ⟨ka, c, e, hc⟩
          · rw [e2] at hkk; simp at hkk
          · cases e
            refine ⟨ka, rfl, ?_⟩
            obtain ⟨_, h2⟩ := hc k hkk
            rw [List.getElem?_eq_getElem hkk] at h2
            have h3 := cell_below (below_alloc wr (.cells #[.string ⟨a.1.toArray⟩, .func (.func gN) #[] capN] 75)) h2
            rw [h3]; simp [hkk]
        cases hq : ks.getD k false
        · rw [hq] at hkc
          have HQ := hq; clear hq
          have R := crash_skip (o1 := .cells #[.string ⟨a.1.toArray⟩, .func (.func gN) #[] capN] 75) Hk.out Hgl.out Hst.out HQ hK hs hg ht
          have HR := Lib.hid R
          clear R hs hg ht hK
          go_wp2_with fail
          go_roundw
          case rel => exact ⟨k + 1, by omega, by go_num, HR.out⟩
          case measure => simp [intOf]; omega
        · rw [hq] at hkc
          have hlen : (crashK st.loose ks st.synced k).length < maxLen := by
            have h1 := crashK_len st.loose ks st.synced k
            have h3 := hbd.both; have h4 := hbd.lim
            unfold maxLen; omega
          have hwrs := hK.size
          have hBa := below_alloc wr (.cells #[.string ⟨a.1.toArray⟩, .func (.func gN) #[] capN] 75)
          have hta : TabIn (wr.alloc (.cells #[.string ⟨a.1.toArray⟩, .func (.func gN) #[] capN] 75)).drew base y (crashK st.loose ks st.synced k) :=
            ht.keep ((K.of_new (base := base) hBa (by have := Hk.out.base_le; omega)).drew) (hBa.block y ht.lt)
          have haa : ActIn (wr.alloc (.cells #[.string ⟨a.1.toArray⟩, .func (.func gN) #[] capN] 75)).drew base (.func (.func gN) #[] capN) a.2 :=
            Hact.out.keep ((hK.trans (K.of_new (base := base) hBa (by have := Hk.out.base_le; omega))).drew)
          have hpl := Hplay.out _ y _ haa (hbd.fits a (List.mem_of_getElem? Hst.out)) hta hlen
          have Hpl := Lib.hid hpl
          have hny : wr.heap.size ≠ y := by have := ht.lt; omega
          have hsy : s ≠ y := fun e => by obtain ⟨xs, c, hm⟩ := Hk.out.synced.isMap; rw [← e, Hk.out.blk] at hm; cases hm
          have HQ := Lib.hid hq
          clear hpl hta haa hlen hq
          go_wp2_with fail
          go_region_held3 (fun w' => w'.cell? ⟨wr.heap.size, 1, none⟩ = some (.func (.func gN) #[] capN) ∧ w'.cell? ⟨s, 1, none⟩ = some (.map (some y)))
            (first | exact ⟨b1, c12⟩ | assumption | go_keep)
            (first | (refine Hpl.out.mono ?_; rintro e w2 ⟨rfl, ht2, hg2⟩; have hS2 := And.intro (hg2.cell b1 (by intro e; cases e; exact hny rfl)) (hg2.cell c12 (by intro e; cases e; exact hsy rfl))))
          have R := crash_play Hk.out Hgl.out Hgy.out Hst.out HQ.out hK hs hg ht ht2 ⟨hg2.os, hg2.tape, hg2.output, hg2.size, hg2.block⟩
          have HR := Lib.hid R
          clear R ht hs hg hK ht2 hg2 hS2
          go_wp2_with fail
          go_roundw
          case rel => exact ⟨k + 1, by omega, by go_num, HR.out⟩
          case measure => simp [intOf]; omega
      · have hkI : ¬ (k : Int) < (ks.length : Int) := by omega
        have HQ : ks.getD k false = false := by simp [List.getD, List.getElem?_eq_none (by omega : ks.length ≤ k)]
        have R := crash_skip (o1 := .cells #[.string ⟨a.1.toArray⟩, .func (.func gN) #[] capN] 75) Hk.out Hgl.out Hst.out HQ hK hs hg ht
        have HR := Lib.hid R
        clear R hs hg ht hK
        go_wp2_with fail
        go_roundw
        case rel => exact ⟨k + 1, by omega, by go_num, HR.out⟩
        case measure => simp [intOf]; omega
    · obtain rfl : k = st.loose.length := by omega
      have hs3 : wr.heap[s]? = some (.cells (shelfCells f y (.slice (some ⟨g, 0, none⟩) st.loose.length cap) st) 64 (0, 0)) := hs.trans Hk.out.blk
      have c11 : wr.cell? ⟨s, 1, none⟩ = some (.map (some y)) := cell_of_block hs3 1
      have Hcl := Lib.hid (mapClone_any ht)
      have Hs3 := Lib.hid hs3; have Ht := Lib.hid ht; have HK := Lib.hid hK; have Hs := Lib.hid hs
      clear hs3 ht hK hg hs
      go_wp2_with fail
      refine Hcl.out.mono ?_
      rintro e w2 ⟨rfl, ht2, hB2⟩
      have R := crash_end (st' := crashSt ks st) Hk.out HK.out Hs.out Ht.out hB2 ht2 rfl
      have HR := Lib.hid R; clear R ht2
      have hsl : s < wr.heap.size := lt_of_block Hs3.out
      have hs2 : w2.heap[s]? = _ := (hB2.block s hsl).trans Hs3.out
      have d0 : w2.cell? ⟨s, 0, none⟩ = some (.map (some f)) := cell_of_block hs2 0
      have d2 : w2.cell? ⟨s, 2, none⟩ = some (.slice (some ⟨g, 0, none⟩) st.loose.length cap) := cell_of_block hs2 2
      have d5 : w2.cell? ⟨s, 5, none⟩ = some (.int .i64 st.fuse) := cell_of_block hs2 5
      have d6 : w2.cell? ⟨s, 6, none⟩ = some (.bool st.down) := cell_of_block hs2 6
      have e0 : w2.frozen? ⟨s, 0, none⟩ = false := by simp [World.frozen?, hs2]
      have e2 : w2.frozen? ⟨s, 2, none⟩ = false := by simp [World.frozen?, hs2]
      have e5 : w2.frozen? ⟨s, 5, none⟩ = false := by simp [World.frozen?, hs2]
      have e6 : w2.frozen? ⟨s, 6, none⟩ = false := by simp [World.frozen?, hs2]
      clear hs2
      go_wp2_with fail
      go_end0
      exact ⟨rfl, HR.out.1, _, HR.out.2⟩

set_option maxHeartbeats 8000000 in
set_option maxRecDepth 100000 in
theorem Crash_nil {w : World} {base s f y : Nat} {st : St} (h : Ok w base s f y (.slice none 0 0) st) (hl : st.loose = []) {kv : Value} {ks : List Bool} :
    Calls Tryz.prog 21 #[.pointer (some ⟨s, 0, none⟩), kv] w (CrashPost base s y (crashSt ks st) w) := by
  have c2 := h.c2
  have c11 := h.c1
  have Hcl := Lib.hid (mapClone_any h.synced)
  have he : crashSt ks st = { st with files := st.synced, synced := st.synced, loose := [], fuse := -1, down := false } := by unfold crashSt; rw [hl]; rfl
  have Hk := Lib.hid h; have He := Lib.hid he
  clear h he hl
  go_enter Tryz.func21, Tryz.ntmps21
  go_wp2_with fail
  refine wp_loop_rounds 1 ?_
  rw [rounds_succ]
  go_wp2_with fail
  refine Hcl.out.mono ?_
  rintro e w2 ⟨rfl, ht2, hB2⟩
  have R := crash_end (st' := crashSt ks st) Hk.out (K.refl _ _) rfl Hk.out.synced hB2 ht2 He.out
  have HR := Lib.hid R; clear R ht2
  have hsl : s < w.heap.size := lt_of_block Hk.out.blk
  have hs2 : w2.heap[s]? = _ := (hB2.block s hsl).trans Hk.out.blk
  have d0 : w2.cell? ⟨s, 0, none⟩ = some (.map (some f)) := cell_of_block hs2 0
  have d2 : w2.cell? ⟨s, 2, none⟩ = some (.slice none 0 0) := cell_of_block hs2 2
  have d5 : w2.cell? ⟨s, 5, none⟩ = some (.int .i64 st.fuse) := cell_of_block hs2 5
  have d6 : w2.cell? ⟨s, 6, none⟩ = some (.bool st.down) := cell_of_block hs2 6
  have e0 : w2.frozen? ⟨s, 0, none⟩ = false := by simp [World.frozen?, hs2]
  have e2 : w2.frozen? ⟨s, 2, none⟩ = false := by simp [World.frozen?, hs2]
  have e5 : w2.frozen? ⟨s, 5, none⟩ = false := by simp [World.frozen?, hs2]
  have e6 : w2.frozen? ⟨s, 6, none⟩ = false := by simp [World.frozen?, hs2]
  clear hs2
  go_wp2_with fail
  go_end0
  exact ⟨rfl, HR.out.1, _, HR.out.2⟩

theorem Crash_any {w : World} {base s f y k0 : Nat} {lv : Value} {st : St} (h : Ok w base s f y lv st) (hbd : Bd st k0) {kv : Value} {ks : List Bool} (hkv : BoolsAt w base kv ks) (hkl : ks.length ≤ maxLen) :
    Calls Tryz.prog 21 #[.pointer (some ⟨s, 0, none⟩), kv] w (CrashPost base s y (crashSt ks st) w) := by
  obtain ⟨vs, hv, ha⟩ := h.loose
  rcases hv.2 with ⟨rfl, h0⟩ | ⟨g, cap, cur, rfl, _⟩
  · exact Crash_nil h (List.length_eq_zero_iff.1 h0)
  · exact Crash_some h hbd hkv hkl
end Go.Proofs.YtbibogpeagnjoaaGreatDoor


namespace Go.Proofs.YtbibogpeagnjoaaGreatDoor
open Go Go.RowKit Go.Maps Go.Shelf

set_option maxHeartbeats 1000000 in
theorem Acts_any {w : World} {base s f y : Nat} {lv : Value} {st : St} (h : Ok w base s f y lv st) : Calls Tryz.prog 23 #[.pointer (some ⟨s, 0, none⟩)] w fun e w' => e = .returned (.int .i64 st.acts) ∧ w = w' := by
  have c4 := h.c4
  clear h
  go_enter Tryz.func23, Tryz.ntmps23
  go_wp2
  go_ret
  exact ⟨rfl, rfl⟩

theorem LooseIn.slice {w : World} {base : Nat} {v : Value} {l : List (By × Act)} (h : LooseIn w base v l) : ∃ a c, v = .slice a l.length c := by
  obtain ⟨vs, hv, _⟩ := h
  rcases hv.2 with ⟨rfl, h0⟩ | ⟨g, cap, cur, rfl, _⟩
  · exact ⟨none, 0, by rw [h0]⟩
  · exact ⟨_, _, rfl⟩

set_option maxHeartbeats 1000000 in
theorem Loose_any {w : World} {base s f y : Nat} {lv : Value} {st : St} (h : Ok w base s f y lv st) : Calls Tryz.prog 24 #[.pointer (some ⟨s, 0, none⟩)] w fun e w' => e = .returned (.int .i64 st.loose.length) ∧ w = w' := by
  obtain ⟨a, c, rfl⟩ := h.loose.slice
  have c2 := h.c2
  clear h
  go_enter Tryz.func24, Tryz.ntmps24
  go_wp2
  go_ret
  exact ⟨rfl, rfl⟩

set_option maxHeartbeats 1000000 in
theorem Used_any {w : World} {base s f y : Nat} {lv : Value} {st : St} (h : Ok w base s f y lv st) (hb : tsize st.files ≤ 4611686018427387904) : Calls Tryz.prog 26 #[.pointer (some ⟨s, 0, none⟩)] w (SizePost (tsize st.files) w) := by
  have hs := Lib.hid (size_any h.files hb)
  have c0 := h.c0
  clear h
  go_enter Tryz.func26, Tryz.ntmps26
  go_wp2_with fail
  refine hs.out.mono ?_
  rintro e w' ⟨rfl, hB⟩
  go_wp2_with fail
  go_ret
  exact ⟨rfl, hB⟩
end Go.Proofs.YtbibogpeagnjoaaGreatDoor


namespace Go.Proofs.YtbibogpeagnjoaaGreatDoor
open Go Go.RowKit Go.Maps Go.Sort Go.Shelf

theorem le_of_before : ∀ {a b : By}, bytesBefore a b = true → a ≤ b
  | [], _, _ => List.nil_le _
  | _ :: _, [], h => by cases h
  | x :: a, y :: b, h => by
    simp only [bytesBefore, Bool.or_eq_true, Bool.and_eq_true, decide_eq_true_eq, beq_iff_eq] at h
    rcases h with h | ⟨rfl, h⟩
    · exact List.le_of_lt (List.Lex.rel h)
    · have := le_of_before h
      rw [List.cons_le_cons_iff]
      exact .inr ⟨rfl, this⟩

theorem paths_sorted {t : Tb} (h : Rises t) {ss : List (List UInt8)} (hp : ss.Perm (t.map (·.1))) : ss.mergeSort (fun x y => decide (x ≤ y)) = t.map (·.1) := by
  have e := mergeSort_of_perm hp
  refine e.trans ?_
  refine List.mergeSort_of_pairwise ?_
  rw [List.pairwise_map]
  exact h.imp fun {x y} hb => by simpa [leB] using le_of_before hb

theorem strKeys_of {Q : Value → By → Prop} : ∀ {es : List (Lit × DataW Value)} {t : Tb}, EntsOk Q es t → strKeys (.map es) = t.map (·.1)
  | [], [], _ => rfl
  | x :: es, q :: t, ⟨h1, _, h4⟩ => by
    have ih := strKeys_of h4
    show strOf x.1 :: es.map (fun p => strOf p.1) = q.1 :: t.map (·.1)
    rw [h1]
    exact congrArg (q.1 :: ·) ih
  | [], _ :: _, h => h.elim
  | _ :: _, [], h => h.elim

theorem keys_any (mb : Option Nat) (W : World) : Calls Tryz.prog 60 #[.map mb] W fun e w' => e = .returned (.func (.func 74) #[] #[.pointer (some ⟨W.heap.size, 0, none⟩)]) ∧ w' = W.alloc (.cells #[.map mb] 54) :=
  (callsIn_wide (n := 5)).1 (AnyZ.keys_in Tryz.keysA Fence.wide 5 trivial rfl mb W)

theorem sortsA (m : Nat) : AnyZ.SortsIn Tryz.prog Tryz.sortedA_ren Fence.wide m :=
  ⟨fun blk off cap ss W hH hblk hsz => callsIn_wide.2 (AnyM.slices_Sort_string Tryz.sortA blk off cap ss W hH hblk hsz),
   fun p cap W => callsIn_wide.2 (AnyM.slices_Sort_string_none Tryz.sortA p cap W)⟩

def SortedPost (t : Tb) (w : World) (e : Ending) (w' : World) : Prop := ∃ v, e = .returned v ∧ w'.ownsRow w.heap.size 9 1 v t.length (t.map fun q => S q.1) ∧ Below w.heap.size w w'

theorem sorted_any {w : World} {base m : Nat} {t : Tb} (h : TabIn w base m t) (hl : t.length ≤ 1000000) :
    Calls Tryz.prog 59 #[.func (.func 74) #[] #[.pointer (some ⟨w.heap.size, 0, none⟩)]] (w.alloc (.cells #[.map (some m)] 54)) (SortedPost t (w.alloc (.cells #[.map (some m)] 54))) := by
  obtain ⟨hb, hr, es, hown, he⟩ := h
  have hbl := hown.lt
  have hsz : Maps.size (DataW.map es) = t.length := he.length
  have hseq : SeqGives Fence.wide 2 Tryz.prog 74 #[.pointer (some ⟨w.heap.size, 0, none⟩)] encStr (fun ss => ss.Perm (strKeys (DataW.map es))) (Maps.size (DataW.map es)) (w.alloc (.cells #[.map (some m)] 54)) :=
    AnyZ.keys_gives (ρ := Tryz.keysA_ren) { Tryz.keysA with } Fence.wide _ trivial rfl (by omega) w.heap.size m t.length (DataW.map es) _ (by simp) (by simp) (by
      obtain ⟨es', clock, hb, Ft, hs, hD⟩ := hown
      exact ⟨es', clock, (Below.heap_alloc _ _ m hbl).trans hb, Ft, hs, hD⟩)
  have cS := AnyZ.sorted_in Tryz.sortedA Fence.wide 5 trivial trivial trivial trivial rfl (by omega) (sortsA _) (enters_of Tryz.func73 (by kernel_rfl) rfl) 74 #[.pointer (some ⟨w.heap.size, 0, none⟩)] trivial (enters_of Tryz.func74 (by kernel_rfl) rfl) _ _ (by rw [hsz]; unfold maxLen; omega) (by rw [hsz]; omega) _ hseq
  change CallsIn _ _ Tryz.prog 59 _ _ _ at cS
  refine ((callsIn_wide (n := 5)).1 cS).mono fun e w' hd => ?_
  obtain ⟨v, ss, rfl, hS, hrow, _, hB⟩ := hd
  rw [strKeys_of he] at hS
  have hlen : ss.length = t.length := by rw [hS.length_eq]; simp
  rw [paths_sorted hr hS, hlen, List.map_map] at hrow
  exact ⟨v, rfl, hrow, hB⟩
end Go.Proofs.YtbibogpeagnjoaaGreatDoor


namespace Go.Proofs.YtbibogpeagnjoaaGreatDoor
open Go Go.RowKit Go.Maps Go.Shelf

/-- A shelf as it is at first. -/
def newSt (room : Int) (t : Tb) : St := { files := t, synced := t, loose := [], room := room, acts := 0, fuse := -1, down := false }

def OfPost (base : Nat) (st : St) (w : World) (e : Ending) (w' : World) : Prop :=
  ∃ s f y, e = .returned (.pointer (some ⟨s, 0, none⟩)) ∧ Ok w' base s f y (.slice none 0 0) st ∧ Below w.heap.size w w'

theorem tab_empty {w : World} {base : Nat} (hb : base ≤ w.heap.size) : TabIn (w.alloc (.map #[] 0)) base w.heap.size [] :=
  ⟨hb, Rises.nil, [], World.ownsMap_made w _ _ _, trivial⟩

/-- The block of a new shelf. -/
theorem of_end {w w2 : World} {base y f : Nat} {room : Int} {t : Tb} (hb : base ≤ w2.heap.size) (hne : f ≠ y) (hf : TabIn w2 base f t) (hy : TabIn w2 base y t) (hB : Below w.heap.size w w2) :
    Ok (w2.alloc (.cells (shelfCells f y (.slice none 0 0) (newSt room t)) 64)) base w2.heap.size f y (.slice none 0 0) (newSt room t) ∧ Below w.heap.size w (w2.alloc (.cells (shelfCells f y (.slice none 0 0) (newSt room t)) 64)) := by
  have hB2 := below_alloc w2 (.cells (shelfCells f y (.slice none 0 0) (newSt room t)) 64)
  have k : K base w2 _ := K.of_new hB2 hb
  exact ⟨⟨heap_alloc_new w2 _, hb, hne, hf.keep k (hB2.block f hf.lt), hy.keep k (hB2.block y hy.lt), [], World.ownsRow_nil _ _ _ _, trivial⟩, hB.trans (hB2.mono hB.size)⟩

set_option maxHeartbeats 4000000 in
set_option maxRecDepth 100000 in
/-- Of without files. -/
theorem Of_nil {base : Nat} (room : Int) (w : World) (hb : base ≤ w.heap.size) : Calls Tryz.prog 7 #[.int .i64 room, .slice none 0 0] w (OfPost base (newSt room []) w) := by
  have hmm := @run_makeMap Tryz.prog
  have B1 := below_alloc w (.map #[] 0)
  have t1 := tab_empty hb
  have Hcl := Lib.hid (mapClone_any t1)
  have T1 := Lib.hid t1; have HB := Lib.hid B1
  clear t1 B1
  go_enter Tryz.func7, Tryz.ntmps7
  go_wp2_with fail
  refine wp_loop_rounds 1 ?_
  rw [rounds_succ]
  go_wp2_with fail
  refine Hcl.out.mono ?_
  rintro e w2 ⟨rfl, ht2, hB2⟩
  have k2 : K base (w.alloc (.map #[] 0)) w2 := K.of_new hB2 (by simp; omega)
  have hy := T1.out.keep k2 (hB2.block w.heap.size (by simp))
  have R := of_end (room := room) (f := (w.alloc (.map #[] 0)).heap.size) (y := w.heap.size) (t := []) (base := base) (w := w) (by have := hB2.size; simp at this; omega) (by simp) ht2 hy (below_two HB.out hB2)
  rw [show (w.alloc (.map #[] 0)).heap.size = w.heap.size + 1 by simp] at R
  have HR := Lib.hid R; clear R k2 ht2 hy
  go_wp2_with fail
  go_ret
  exact ⟨_, _, _, rfl, HR.out.1, HR.out.2⟩

set_option maxHeartbeats 4000000 in
set_option maxRecDepth 100000 in
/-- New. -/
theorem New_any {base : Nat} (room : Int) (w : World) (hb : base ≤ w.heap.size) : Calls Tryz.prog 30 #[.int .i64 room] w (OfPost base (newSt room []) w) := by
  have Ho := Lib.hid (Of_nil room w hb)
  go_enter Tryz.func30, Tryz.ntmps30
  go_wp2_with fail
  refine Ho.out.mono ?_
  rintro e w2 ⟨s, f, y, rfl, hk, hB2⟩
  have Hk := Lib.hid hk; clear hk
  go_wp2_with fail
  go_ret
  exact ⟨_, _, _, rfl, Hk.out, hB2⟩
end Go.Proofs.YtbibogpeagnjoaaGreatDoor


namespace Go.Proofs.YtbibogpeagnjoaaGreatDoor
open Go Go.RowKit Go.Maps Go.Sort Go.Shelf

/-- The cells of a row of files: each a path and its bytes. -/
def FsIn (w : World) (B : Nat) : List Value → Tb → Prop
  | [], [] => True
  | p :: v :: vs, q :: t => p = S q.1 ∧ RowIn w B v q.2 ∧ FsIn w B vs t
  | _, _ => False

theorem FsIn.imp {w w' : World} {B : Nat} (hr : ∀ v b, RowIn w B v b → RowIn w' B v b) : ∀ {vs t}, FsIn w B vs t → FsIn w' B vs t
  | [], [], _ => trivial
  | _ :: _ :: _, _ :: _, ⟨h1, h2, h3⟩ => ⟨h1, hr _ _ h2, FsIn.imp hr h3⟩
  | [], _ :: _, h => h.elim
  | [_], t, h => by cases t <;> exact h.elim
  | _ :: _ :: _, [], h => h.elim

theorem FsIn.snoc {w : World} {B : Nat} {v : Value} {q : By × By} (hv : RowIn w B v q.2) : ∀ {vs t}, FsIn w B vs t → FsIn w B (vs ++ [S q.1, v]) (t ++ [q])
  | [], [], _ => ⟨rfl, hv, trivial⟩
  | _ :: _ :: _, _ :: _, ⟨h1, h2, h3⟩ => ⟨h1, h2, FsIn.snoc hv h3⟩
  | [], _ :: _, h => h.elim
  | [_], t, h => by cases t <;> exact h.elim
  | _ :: _ :: _, [], h => h.elim

theorem FsIn.at {w : World} {B : Nat} : ∀ {vs t} (_ : FsIn w B vs t) (i : Nat) (q : By × By), t[i]? = some q → ∃ v, vs[i * 2]? = some (S q.1) ∧ vs[i * 2 + 1]? = some v ∧ RowIn w B v q.2
  | d :: pv :: vs, b :: l, ⟨h1, h2, h3⟩, 0, a, hi => by
    simp at hi; subst hi
    exact ⟨pv, by simp [h1], by simp, h2⟩
  | d :: pv :: vs, b :: l, ⟨_, _, h3⟩, i + 1, a, hi => by
    obtain ⟨pv', r1, r2, r3⟩ := FsIn.at h3 i a (by simpa using hi)
    refine ⟨pv', ?_, ?_, r3⟩
    · rw [show (i + 1) * 2 = i * 2 + 1 + 1 from by omega]; simpa using r1
    · rw [show (i + 1) * 2 + 1 = i * 2 + 1 + 1 + 1 from by omega]; simpa using r2
  | [], [], _, _, _, hi => by simp at hi
  | [], _ :: _, h, _, _, _ => h.elim
  | [_], l, h, _, _, _ => by cases l <;> exact h.elim
  | _ :: _ :: _, [], h, _, _, _ => h.elim

/-- The slice value v is the files t, in memory from block B on. -/
def FilesIn (w : World) (B : Nat) (v : Value) (t : Tb) : Prop := ∃ vs, w.ownsRow B 52 2 v t.length vs ∧ FsIn w B vs t

theorem RowIn.grown {w w' : World} {B : Nat} {v : Value} {b : By} {row : Option Nat} (h : RowIn w B v b) (hg : w.grownBy w' row) (hr : ∀ r, row = some r → ∀ cur fz, w.heap[r]? ≠ some (Obj.cells cur 5 fz)) : RowIn w' B v b := by
  refine ⟨h.1, ?_⟩
  rcases h.2 with r | ⟨g, cap, cur, e, hb, hc, r⟩
  · exact .inl r
  · refine .inr ⟨g, cap, cur, e, hb, ?_, r⟩
    rw [hg.block g (lt_of_block hc) (fun e => hr g e.symm _ _ hc)]
    exact hc

theorem FilesIn.keep {w w' : World} {B b' : Nat} {v : Value} {t : Tb} (h : FilesIn w B v t) (k : K b' w w') : FilesIn w' B v t := by
  obtain ⟨vs, h1, h2⟩ := h
  refine ⟨vs, ⟨h1.1, ?_⟩, h2.imp fun _ _ h => h.keep k⟩
  rcases h1.2 with r | ⟨g, cap, cur, e, hb, hc, r⟩
  · exact .inl r
  · exact .inr ⟨g, cap, cur, e, hb, k.const _ _ _ _ hc rfl, r⟩

theorem FilesIn.slice {w : World} {B : Nat} {v : Value} {t : Tb} (h : FilesIn w B v t) : ∃ a c, v = .slice a t.length c := by
  obtain ⟨vs, hv, _⟩ := h
  rcases hv.2 with ⟨rfl, h0⟩ | ⟨g, cap, cur, rfl, _⟩
  · exact ⟨none, 0, by rw [h0]⟩
  · exact ⟨_, _, rfl⟩

theorem infoFile : (Tryz.prog.info? 52).map (fun i => (i.zero, i.size, i.bytes)) = some (some (.agg #[.string ⟨#[]⟩, .slice none 0 0]), 2, 40) := by kernel_rfl

/-- 'm[p]' of a path that is there. -/
theorem TabIn.look1 {w : World} {base m : Nat} {t : Tb} (h : TabIn w base m t) {p b : By} (hp : p.length ≤ maxLen) (hb : tget p t = some b) :
    ∃ a c, RowIn w base (.slice a b.length c) b ∧ (Instr.lookup 54 (.map (some m)) (.string ⟨p.toArray⟩) false).run Tryz.prog w = .ok (.slice a b.length c) w := by
  obtain ⟨_, hr, es, hown, he⟩ := h
  obtain ⟨v, ps, hrun, hv⟩ := hown.lookup law9 Tryz.underlying54 (zeroBytes w) (zd := .held (.slice none 0 0)) (zp := []) rfl (keyOf_S hp)
  rcases tab_at he p (.held (.slice none 0 0)) with ⟨h1, _⟩ | ⟨b', v', h1, _, h3, h4⟩
  · rw [hb] at h1; cases h1
  · rw [hb] at h1; cases h1
    rw [h3] at hv
    obtain ⟨⟨a, n, c, rfl⟩, e⟩ := heldR_inv hv
    cases e
    obtain ⟨a', c', e⟩ := h4.shape
    cases e
    exact ⟨_, _, h4, hrun⟩

/-- The paths of all files are no longer than may be. -/
theorem tab_keys {w : World} {base m : Nat} {t : Tb} (h : TabIn w base m t) : ∀ q ∈ t, q.1.length ≤ maxLen := by
  obtain ⟨_, hr, es, hown, he⟩ := h
  obtain ⟨es', e, hk⟩ := hown.keysOf
  cases e
  intro q hq
  have hkeys : ∀ {es t}, EntsOk (RowIn w base) es t → ∀ q ∈ t, ∃ x ∈ es, x.1 = .string q.1 := by
    intro es
    induction es with
    | nil => intro t he q hq; cases t with | nil => cases hq | cons _ _ => exact he.elim
    | cons x es ih =>
      intro t he q hq
      cases t with
      | nil => cases hq
      | cons q0 t =>
        rcases List.mem_cons.1 hq with rfl | hq
        · exact ⟨x, by simp, he.1⟩
        · obtain ⟨x', hx', e⟩ := ih he.2.2 q hq
          exact ⟨x', by simp [hx'], e⟩
  obtain ⟨x, hx, e⟩ := hkeys he q hq
  obtain ⟨key, hkk⟩ := hk x hx
  obtain ⟨b, _, e2, hl⟩ := Maps.keyOf_str Tryz.underlying9 hkk
  rw [e] at e2
  cases e2
  exact hl

/-- What Files comes to. -/
def FilesPost (t : Tb) (w : World) (e : Ending) (w' : World) : Prop := ∃ v, e = .returned v ∧ FilesIn w' w.heap.size v t ∧ Below w.heap.size w w'

/-- The loop of Files, between two rounds: k files are in l. -/
def FilesRel (w0 : World) (w2 : World) (sb : Nat) (t : Tb) (k : Nat) (l : Value) (wr : World) : Prop :=
  Below w0.heap.size w0 wr ∧ w2.heap.size ≤ wr.heap.size ∧ (∀ cur fz, w2.heap[sb]? = some (Obj.cells cur 9 fz) → wr.heap[sb]? = w2.heap[sb]?) ∧ FilesIn wr w0.heap.size l (t.take k)

/-- A round of Files. -/
theorem files_round {w0 w2 wr w3 w4 : World} {sb k : Nat} {t : Tb} {l l' cv : Value} {q : By × By} {vs : List Value} {o : Obj} (hr : FilesRel w0 w2 sb t k l wr) (hq : t[k]? = some q) (hsl : sb < w2.heap.size)
    (hvs : wr.ownsRow w0.heap.size 52 2 l (t.take k).length vs) (hfs : FsIn wr w0.heap.size vs (t.take k))
    (hB3 : Below wr.heap.size wr w3) (hcv : RowIn w3 wr.heap.size cv q.2) (hg : (w3.alloc o).grownBy w4 l.ownBlock) (hown : w4.ownsRow w0.heap.size 52 2 l' ((t.take k).length + 1) (vs ++ [S q.1, cv])) :
    FilesRel w0 w2 sb t (k + 1) l' w4 := by
  obtain ⟨h1, h2, h3, h4⟩ := hr
  have hrow : ∀ r, l.ownBlock = some r → w0.heap.size ≤ r ∧ ∃ cur, wr.heap[r]? = some (Obj.cells cur 52 (0, 0)) := fun r hr => by
    rcases hvs.2 with ⟨e, _⟩ | ⟨g, _, cur, e, hb, hc, _⟩
    · rw [e] at hr; cases hr
    · rw [e] at hr; cases hr; exact ⟨hb, cur, hc⟩
  have hB3o : Below wr.heap.size wr (w3.alloc o) := below_two hB3 (below_alloc w3 o)
  have hrow4 : ∀ r, l.ownBlock = some r → ∀ cur fz, (w3.alloc o).heap[r]? ≠ some (Obj.cells cur 5 fz) := fun r hr cur fz e => by
    obtain ⟨_, cur', hc⟩ := hrow r hr
    rw [hB3o.block r (lt_of_block hc), hc] at e
    cases e
  have hold : ∀ i, i < wr.heap.size → l.ownBlock ≠ some i → w4.heap[i]? = wr.heap[i]? := fun i hi hl => by
    rw [hg.block i (by have := hB3o.size; omega) (fun e => hl e.symm), hB3o.block i hi]
  have hrows : ∀ v b, RowIn wr w0.heap.size v b → RowIn w4 w0.heap.size v b := fun v b hv =>
    (hv.keep (K.of_new (base := 0) hB3o (Nat.zero_le _))).grown hg hrow4
  have hsz : wr.heap.size ≤ w4.heap.size := Nat.le_trans hB3o.size hg.size
  refine ⟨⟨hg.os.trans (hB3o.os.trans h1.os), hg.tape.trans (hB3o.tape.trans h1.tape), hg.output.trans (hB3o.output.trans h1.output), Nat.le_trans h1.size hsz, fun i hi => ?_⟩, Nat.le_trans h2 hsz, fun cur fz hc => ?_, ?_⟩
  · rw [hold i (by have := h1.size; omega) (fun e => by have := (hrow i e).1; omega)]; exact h1.block i hi
  · have := h3 cur fz hc
    rw [hold sb (by omega) (fun e => by obtain ⟨_, cur', hc'⟩ := hrow sb e; rw [this, hc] at hc'; cases hc'), this]
  · have et : t.take (k + 1) = t.take k ++ [q] := take_snoc hq
    refine ⟨vs ++ [S q.1, cv], ?_, ?_⟩
    · rw [et, List.length_append]; exact hown
    · rw [et]
      refine FsIn.snoc ?_ (hfs.imp hrows)
      have hcv1 : RowIn w3 w0.heap.size cv q.2 := hcv.mono h1.size
      exact (hcv1.keep (K.of_new (base := 0) (below_alloc w3 o) (Nat.zero_le _))).grown hg hrow4

set_option maxHeartbeats 8000000 in
set_option maxRecDepth 100000 in
theorem Files_any {w : World} {base s f y k0 : Nat} {lv : Value} {st : St} (h : Ok w base s f y lv st) (hbd : Bd st k0) :
    Calls Tryz.prog 29 #[.pointer (some ⟨s, 0, none⟩)] w (FilesPost st.files w) := by
  have c0 := h.c0
  have hlen := h.files.len 3
  have hn : st.files.length ≤ 1000000 := by have := hbd.files; have := hbd.lim; omega
  obtain ⟨i0, hi0, hz0, hz1, hz2⟩ := info_parts infoFile
  have Hk := Lib.hid h
  clear h
  go_enter Tryz.func29, Tryz.ntmps29
  go_wp2_with (refine wpList_make_own _ rfl _ _ 22 rfl w.heap.size 52 i0 _ 2 Tryz.underlying22 hi0 hz0 hz1 .i64 .i64 _ st.files.length rfl rfl rfl ?c1 ?c2 ?c3 ?_)
  case c1 => rw [hz2]; omega
  case c2 => unfold maxLen; omega
  case c3 => exact Nat.le_refl _
  intro w1 hl0 hg1
  have hB1 : Below w.heap.size w w1 := (Below.refl _ _).grown hg1 (Nat.le_refl _) (fun k hk => by cases hk)
  have hk1 := Hk.out.keep hB1
  have c01 := hk1.c0
  have Hs := Lib.hid (sorted_any hk1.files hn)
  clear hk1
  go_wp2_with fail
  refine (keys_any (some f) w1).mono ?_
  rintro e w1' ⟨rfl, rfl⟩
  go_wp2_with fail
  refine Hs.out.mono ?_
  rintro e w2 ⟨v, rfl, hrow2, hB2⟩
  have hB12 : Below w.heap.size w w2 := below_two hB1 (below_two (below_alloc w1 _) hB2)
  have hl2 : w2.ownsRow w.heap.size 52 2 (.slice (some ⟨w.heap.size, 0, none⟩) 0 st.files.length) 0 [] :=
    ((hl0.alloc (.cells #[.map (some f)] 54)).kept (row := none) ⟨hB2.os, hB2.tape, hB2.output, hB2.size, fun k hk _ => hB2.block k hk⟩ (.inr (by simp [Value.ownBlock])))
  obtain ⟨av, cv, rfl⟩ : ∃ av cv, v = .slice av st.files.length cv := by
    rcases hrow2.2 with ⟨r, r0⟩ | ⟨gg, cap, cur, r, _⟩
    · exact ⟨none, 0, by rw [r, r0]⟩
    · exact ⟨_, _, r⟩
  have Hrow := Lib.hid hrow2; have Hl2 := Lib.hid hl2
  clear hrow2 hl2 hl0 hg1
  go_wp2_with fail
  have hsbv : ∃ sb, st.files.length = 0 ∨ (av = some ⟨sb, 0, none⟩ ∧ sb < w2.heap.size ∧ ∃ cur, w2.heap[sb]? = some (Obj.cells cur 9 (0, 0))) := by
    rcases Hrow.out.2 with ⟨r, r0⟩ | ⟨gg, cap, cur, r, _, hc, _⟩
    · exact ⟨0, .inl r0⟩
    · cases r; exact ⟨gg, .inr ⟨rfl, lt_of_block hc, cur, hc⟩⟩
  obtain ⟨sb, hsb⟩ := hsbv
  have Hsb := Lib.hid hsb; clear hsb
  go_loopw [3, 19] (fun l i wr => ∃ k : Nat, k ≤ st.files.length ∧ i = .int .i64 k ∧ FilesRel w w2 sb st.files k l wr) (fun _ i _ => st.files.length - (intOf i).toNat)
  case atStart =>
    refine ⟨0, Nat.zero_le _, rfl, hB12, Nat.le_refl _, fun _ _ _ => rfl, [], Hl2.out, trivial⟩
  case round =>
    obtain ⟨k, hk, rfl, hrel⟩ := hrel
    have Hrel := Lib.hid hrel
    obtain ⟨hBr, hszr, hsbr, vs, hvs, hfs⟩ := hrel
    by_cases hlt : k < st.files.length
    · obtain ⟨rfl, hsbl, cur, hcur⟩ := Hsb.out.resolve_left (by omega)
      obtain ⟨q, hq⟩ : ∃ q, st.files[k]? = some q := ⟨_, List.getElem?_eq_getElem hlt⟩
      have x0 : wr.cell? ⟨sb, k, none⟩ = some (S q.1) := by
        have := World.ownsRow.cells Hrow.out (g := sb) rfl k (S q.1) (by simp [hq])
        rw [show (⟨sb, 0, none⟩ : Addr).add k = ⟨sb, k, none⟩ by unfold Addr.add; split <;> simp_all] at this
        rw [World.cell?_of_block (w := w2) (a := ⟨sb, k, none⟩) (hsbr _ _ hcur)]; exact this
      have hkr := Hk.out.keep hBr
      have c0r := hkr.c0
      have hqm := List.mem_of_getElem? hq
      obtain ⟨qa, qc, hqrow, hlook⟩ := hkr.files.look1 (tab_keys hkr.files q hqm) (tget_of_mem hkr.files.2.1 hqm)
      have Hcl := Lib.hid (clone_any hqrow.bytes (by have := hbd.small q hqm; omega))
      have Hsbl := Lib.hid hsbl; have Hq := Lib.hid hq; have Hvs := Lib.hid hvs; have Hfs := Lib.hid hfs
      have Hlook := Lib.hid hlook
      obtain ⟨al, nl, cl, rfl⟩ : ∃ al nl cl, u3 = .slice al nl cl := by
        rcases hvs.2 with ⟨r, _⟩ | ⟨gg, cap, cur, r, _⟩
        · exact ⟨_, _, _, r⟩
        · exact ⟨_, _, _, r⟩
      clear hq hvs hfs hqrow hkr hsbr hcur hsbl hqm
      unfold S at x0
      go_wp2_with fail
      refine Hcl.out.mono ?_
      rintro e w3 ⟨cv', rfl, hcv, hB3⟩
      obtain ⟨ac, cc, rfl⟩ := hcv.shape
      have hvs3 : w3.ownsRow w.heap.size 52 2 (.slice al nl cl) (st.files.take k).length vs := Hvs.out.kept (row := none) ⟨hB3.os, hB3.tape, hB3.output, hB3.size, fun k hk _ => hB3.block k hk⟩ (Classical.em _)
      obtain ⟨i0, hi0, hz0, hz1, hz2⟩ := info_parts infoFile
      have hnw := heap_alloc_new w3 (.cells #[.string ⟨q.1.toArray⟩, .slice ac q.2.length cc] 52)
      have Hnw := Lib.hid hnw; clear hnw
      have Hcv := Lib.hid hcv; clear hcv
      have htk := List.length_take_le k st.files
      have hsz3 := hB3.size
      have hszw := hBr.size
      go_wp2_with (at_builtin; refine wpList_append_own _ rfl _ _ 22 rfl w.heap.size 52 i0 _ 2 40 Tryz.underlying22 hi0 hz0 hz1 hz2 rfl (by decide) _ _ _ rfl (hvs3.alloc _) ⟨w3.heap.size, 0, none⟩ 1 1 [.string ⟨q.1.toArray⟩, .slice ac q.2.length cc] rfl rfl ?c1 ?c2 ?c3 ?c4 ?c5 ?_)
      case c1 => exact World.news_of_block (cs := #[.string ⟨q.1.toArray⟩, .slice ac q.2.length cc]) (t := 52) (fr := (0, 0)) Hnw.out
      case c2 => simp [Value.oneCell']
      case c3 => unfold maxLen; omega
      case c4 => omega
      case c5 => simp; omega
      intro v' w4 hown' hgrow _
      have R := files_round Hrel.out Hq.out Hsbl.out Hvs.out Hfs.out hB3 Hcv.out hgrow (by rw [show (st.files.take k).length = k by rw [List.length_take]; omega]; exact hown')
      have HR := Lib.hid R
      clear R hown' hgrow hvs3 hB3 hBr
      go_wp2_with fail
      go_roundw
      case rel => exact ⟨k + 1, by omega, by go_num, HR.out⟩
      case measure => simp [intOf]; omega
    · obtain rfl : k = st.files.length := by omega
      go_wp2_with fail
      go_ret
      rw [List.take_length] at hvs hfs
      exact ⟨u3, rfl, ⟨vs, hvs, hfs⟩, hBr⟩
end Go.Proofs.YtbibogpeagnjoaaGreatDoor
