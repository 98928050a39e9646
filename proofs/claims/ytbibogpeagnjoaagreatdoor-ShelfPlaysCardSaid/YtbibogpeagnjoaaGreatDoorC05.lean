/-
  Sync's closure: the loose acts of a directory are played on the files as they were synced.
  Sync.
  Crash: of the loose acts those at whose place keep is true are played on the files as they were synced.
-/
import Derived.Deep.LoopGhost
import Derived.Laws.EntriesVeiled
import Derived.Test.YtbibogpeagnjoaaGreatDoorC04
import Derived.LoopN

namespace Go.Proofs.YtbibogpeagnjoaaGreatDoor
open Go Go.RowKit Go.Maps Go.Shelf

def syncT (d : By) (l : List (By × Act)) (t : Tb) : Tb := l.foldl (fun t a => if (a.1 == d) = true then a.2.play t else t) t
def syncL (d : By) (l : List (By × Act)) : List (By × Act) := l.filter fun a => !(a.1 == d)
def syncedSt (d : By) (st : St) : St := { st with synced := syncT d st.loose st.synced, loose := syncL d st.loose }

theorem syncT_snoc (d : By) (l : List (By × Act)) (a : By × Act) (t : Tb) : syncT d (l ++ [a]) t = if (a.1 == d) = true then a.2.play (syncT d l t) else syncT d l t := by
  unfold syncT; rw [List.foldl_append]; rfl
theorem syncL_snoc (d : By) (l : List (By × Act)) (a : By × Act) : syncL d (l ++ [a]) = if (a.1 == d) = true then syncL d l else syncL d l ++ [a] := by
  unfold syncL; rw [List.filter_append]
  cases h : (a.1 == d)
  · rw [if_neg (by simp)]; congr 1; rw [List.filter_cons_of_pos (by simp [h])]; rfl
  · rw [if_pos rfl, List.filter_cons_of_neg (by simp [h])]; simp
theorem play_len (a : Act) (t : Tb) : (a.play t).length ≤ t.length + 1 := by
  cases a with
  | write p b => exact tput_length_le p b t
  | rename p q =>
    show (match tget p t with | none => t | some b => tput q b (tdel p t)).length ≤ _
    cases tget p t with
    | none => exact Nat.le_succ _
    | some b => have h1 := tput_length_le q b (tdel p t); have h2 := tdel_length_le p t; show (tput q b (tdel p t)).length ≤ _; omega
  | remove p => have h2 := tdel_length_le p t; show (tdel p t).length ≤ _; omega
theorem syncT_cons (d : By) (a : By × Act) (l : List (By × Act)) (t : Tb) : syncT d (a :: l) t = syncT d l (if (a.1 == d) = true then a.2.play t else t) := rfl
theorem syncL_cons (d : By) (a : By × Act) (l : List (By × Act)) : syncL d (a :: l) = if (a.1 == d) = true then syncL d l else a :: syncL d l := by
  unfold syncL
  cases h : (a.1 == d)
  · rw [if_neg (by simp), List.filter_cons_of_pos (by rw [h]; rfl)]
  · rw [if_pos rfl, List.filter_cons_of_neg (by rw [h]; simp)]
theorem syncT_len (d : By) : ∀ (l : List (By × Act)) (t : Tb), (syncT d l t).length + (syncL d l).length ≤ t.length + l.length
  | [], t => by simp [syncT, syncL]
  | a :: l, t => by
    rw [syncT_cons, syncL_cons]
    cases h : (a.1 == d)
    · have ih := syncT_len d l t
      rw [if_neg (by simp), if_neg (by simp)]
      simp only [List.length_cons]; omega
    · have ih := syncT_len d l (a.2.play t)
      have hp := play_len a.2 t
      rw [if_pos rfl, if_pos rfl]
      simp only [List.length_cons]; omega
theorem syncL_len (d : By) (l : List (By × Act)) : (syncL d l).length ≤ l.length := List.length_filter_le _ _
theorem syncT_rises (d : By) : ∀ (l : List (By × Act)) {t : Tb}, Rises t → Rises (syncT d l t)
  | [], _, h => h
  | a :: l, t, h => by
    unfold syncT
    rw [List.foldl_cons]
    refine syncT_rises d l (t := if (a.1 == d) = true then a.2.play t else t) ?_
    split
    · exact Act.play_rises h
    · exact h

/-- The function of an act, and what comes of it wherever it is called. -/
theorem act_shape {w : World} {base : Nat} {pv : Value} {a : Act} (ha : ActIn w base pv a) :
    ∃ g cap, pv = .func (.func g) #[] cap ∧ (∀ args w, (callFunc g args).run Tryz.prog w = .ok (.enter g args) w) ∧
      ∀ (w' : World) (m : Nat) (t : Tb), ActIn w' base (.func (.func g) #[] cap) a → a.fits → TabIn w' base m t → t.length < maxLen → Calls Tryz.prog g (#[.map (some m)] ++ cap) w' (PlayPost base m (a.play t) w') := by
  cases a with
  | write p b =>
    obtain ⟨x, y, v, rfl, _⟩ := ha
    refine ⟨_, _, rfl, enters_of Tryz.func66 (by kernel_rfl) rfl, fun w' m t ha' hf ht hl => ?_⟩
    obtain ⟨x', y', v', e, h1, h2, h3⟩ := ha'
    injection e with _ _ e; injection e with e; injection e with ex e; injection e with ey e
    subst ex; subst ey
    exact playWrite ht hl hf h1 h2 h3
  | rename p q =>
    obtain ⟨x, y, rfl, _⟩ := ha
    refine ⟨_, _, rfl, enters_of Tryz.func67 (by kernel_rfl) rfl, fun w' m t ha' hf ht hl => ?_⟩
    obtain ⟨x', y', e, h1, h2⟩ := ha'
    injection e with _ _ e; injection e with e; injection e with ex e; injection e with ey e
    subst ex; subst ey
    exact playRename ht hl hf.1 hf.2 h1 h2
  | remove p =>
    obtain ⟨x, rfl, _⟩ := ha
    refine ⟨_, _, rfl, enters_of Tryz.func68 (by kernel_rfl) rfl, fun w' m t ha' hf ht hl => ?_⟩
    obtain ⟨x', e, h1⟩ := ha'
    injection e with _ _ e; injection e with e; injection e with ex e
    subst ex
    exact playRemove ht hf h1

/-- The loop of Sync's closure, between two rounds: k acts were looked at. -/
def SyncRel (base s f y g : Nat) (d : By) (st : St) (w0 : World) (k : Nat) (rest : Value) (wr : World) : Prop :=
  K base w0 wr ∧ wr.heap[s]? = w0.heap[s]? ∧ wr.heap[f]? = w0.heap[f]? ∧ wr.heap[g]? = w0.heap[g]? ∧ TabIn wr base y (syncT d (st.loose.take k) st.synced) ∧
    ∃ vs, wr.ownsRow w0.heap.size 75 2 rest (syncL d (st.loose.take k)).length vs ∧ ActsIn wr base vs (syncL d (st.loose.take k))

theorem heap_alloc_new2 (w : World) (o1 o2 : Obj) : ((w.alloc o1).alloc o2).heap[w.heap.size + 1]? = some o2 := by
  have h := heap_alloc_new (w.alloc o1) o2
  rwa [show (w.alloc o1).heap.size = w.heap.size + 1 by simp] at h

theorem take_snoc {α : Type} {l : List α} {k : Nat} {a : α} (h : l[k]? = some a) : l.take (k + 1) = l.take k ++ [a] := by
  obtain ⟨hk, e⟩ := List.getElem?_eq_some_iff.1 h
  rw [List.take_succ_eq_append_getElem hk, e]

/-- A round in which the act stays loose. -/
theorem sync_skip {base s f y g k : Nat} {d : By} {st : St} {w wr w1 : World} {rest v' pv : Value} {a : By × Act} {vs2 : List Value} {o1 o2 : Obj} {lv : Value} (h : Ok w base s f y lv st) (hgl : g < w.heap.size) (ha : st.loose[k]? = some a) (hq : (a.1 == d) = false)
    (hact : ActIn w base pv a.2) (hK : K base w wr) (hs : wr.heap[s]? = w.heap[s]?) (hf : wr.heap[f]? = w.heap[f]?) (hg : wr.heap[g]? = w.heap[g]?) (ht : TabIn wr base y (syncT d (st.loose.take k) st.synced))
    (hown2 : wr.ownsRow w.heap.size 75 2 rest (syncL d (st.loose.take k)).length vs2) (hacts2 : ActsIn wr base vs2 (syncL d (st.loose.take k)))
    (hgrow : ((wr.alloc o1).alloc o2).grownBy w1 rest.ownBlock) (hown' : w1.ownsRow w.heap.size 75 2 v' ((syncL d (st.loose.take k)).length + 1) (vs2 ++ [S a.1, pv])) :
    SyncRel base s f y g d st w (k + 1) v' w1 := by
  have hbw := h.base_le
  have hB2 := below_two (below_alloc wr o1) (below_alloc (wr.alloc o1) o2)
  have hwr := hK.size
  have kr : K base wr w1 := by
    refine (K.of_new hB2 (by omega)).grown hgrow (by have := hB2.size; omega) fun r hr => ?_
    obtain ⟨hb, cur, hc⟩ := ownBlock_row hown2 hr
    refine ⟨by omega, fun c e fz h => ?_⟩
    rw [hB2.block r (lt_of_block hc), hc] at h
    cases h; rfl
  have hold : ∀ i, i < w.heap.size → w1.heap[i]? = wr.heap[i]? := fun i hi => by
    rw [hgrow.block i (by have := hB2.size; omega) (fun e => by have := (ownBlock_row hown2 e.symm).1; omega), hB2.block i (by omega)]
  have e1 : syncT d (st.loose.take (k + 1)) st.synced = syncT d (st.loose.take k) st.synced := by rw [take_snoc ha, syncT_snoc, hq]; rfl
  have e2 : syncL d (st.loose.take (k + 1)) = syncL d (st.loose.take k) ++ [a] := by rw [take_snoc ha, syncL_snoc, hq]; rfl
  refine ⟨hK.trans kr, (hold s (lt_of_block h.blk)).trans hs, (hold f h.files.lt).trans hf, (hold g hgl).trans hg, ?_, vs2 ++ [S a.1, pv], ?_, ?_⟩
  · rw [e1]; exact ht.keep kr (hold y h.synced.lt)
  · rw [e2, List.length_append]; exact hown'
  · rw [e2]; exact ActsIn.snoc (a := a) rfl (hact.keep (hK.trans kr)) (hacts2.keep kr)

/-- A round in which the act is played. -/
theorem sync_play {base s f y g k : Nat} {d : By} {st : St} {w wr w1 : World} {rest : Value} {a : By × Act} {vs2 : List Value} {o1 : Obj} {lv : Value} (h : Ok w base s f y lv st) (hgl : g < w.heap.size) (hgy : g ≠ y) (ha : st.loose[k]? = some a) (hq : (a.1 == d) = true)
    (hK : K base w wr) (hs : wr.heap[s]? = w.heap[s]?) (hf : wr.heap[f]? = w.heap[f]?) (hg : wr.heap[g]? = w.heap[g]?) (ht : TabIn wr base y (syncT d (st.loose.take k) st.synced))
    (hown2 : wr.ownsRow w.heap.size 75 2 rest (syncL d (st.loose.take k)).length vs2) (hacts2 : ActsIn wr base vs2 (syncL d (st.loose.take k)))
    (ht1 : TabIn w1 base y (a.2.play (syncT d (st.loose.take k) st.synced))) (hg1 : (wr.alloc o1).grownBy w1 (some y)) : SyncRel base s f y g d st w (k + 1) rest w1 := by
  have hbw := h.base_le
  have hwr := hK.size
  have hB := below_alloc wr o1
  obtain ⟨xs, c, hm⟩ := h.synced.isMap
  have hmr := ht.isMap
  have kr : K base wr w1 := (K.of_new hB (by omega)).turned hg1 (by have := hB.size; omega) h.synced.1 (by obtain ⟨x, c, hx⟩ := hmr; exact ⟨x, c, (hB.block y (lt_of_block hx)).trans hx⟩)
  have hold : ∀ i, i < wr.heap.size → i ≠ y → w1.heap[i]? = wr.heap[i]? := fun i hi hy => by
    rw [hg1.block i (by have := hB.size; omega) (fun e => hy (by cases e; rfl)), hB.block i hi]
  have hsy : s ≠ y := fun e => by rw [← e, h.blk] at hm; cases hm
  have e1 : syncT d (st.loose.take (k + 1)) st.synced = a.2.play (syncT d (st.loose.take k) st.synced) := by rw [take_snoc ha, syncT_snoc, hq]; rfl
  have e2 : syncL d (st.loose.take (k + 1)) = syncL d (st.loose.take k) := by rw [take_snoc ha, syncL_snoc, hq]; rfl
  refine ⟨hK.trans kr, (hold s (by have := lt_of_block h.blk; omega) hsy).trans hs, (hold f (by have := h.files.lt; omega) h.ne).trans hf, (hold g (by omega) hgy).trans hg, ?_, vs2, ?_, ?_⟩
  · rw [e1]; exact ht1
  · rw [e2]
    refine ⟨hown2.1, ?_⟩
    rcases hown2.2 with r | ⟨gg, cap, cur, q1, q2, q3, r⟩
    · exact .inl r
    · exact .inr ⟨gg, cap, cur, q1, q2, (hold gg (lt_of_block q3) (fun e => by obtain ⟨x, c, hx⟩ := hmr; rw [e, hx] at q3; cases q3)).trans q3, r⟩
  · rw [e2]; exact hacts2.keep kr

theorem ownsRow_mono {w : World} {base b' : Nat} {e : TypeId} {size : Nat} {v : Value} {n : Nat} {xs : List Value} (h : w.ownsRow base e size v n xs) (hb : b' ≤ base) : w.ownsRow b' e size v n xs := by
  refine ⟨h.1, ?_⟩
  rcases h.2 with r | ⟨g, cap, cur, q1, q2, r⟩
  · exact .inl r
  · exact .inr ⟨g, cap, cur, q1, Nat.le_trans hb q2, r⟩

/-- Behind the loop: what is left is loose. -/
theorem sync_end {base s f y g : Nat} {d : By} {st : St} {w wr : World} {rest lv : Value} (h : Ok w base s f y lv st) (hr : SyncRel base s f y g d st w st.loose.length rest wr) :
    K base w (wr.setCell ⟨s, 2, none⟩ rest) ∧ Ok (wr.setCell ⟨s, 2, none⟩ rest) base s f y rest (syncedSt d st) := by
  obtain ⟨hK, hs, hf, hg, ht, vs2, hown2, hacts2⟩ := hr
  rw [List.take_length] at ht hown2 hacts2
  have hs3 : wr.heap[s]? = some (.cells (shelfCells f y lv st) 64 (0, 0)) := hs.trans h.blk
  have k2 : K base wr (wr.setCell ⟨s, 2, none⟩ rest) := (K.refl _ _).setShelf hs3 h.base_s 2 _
  have hset : ∀ i, i ≠ s → (wr.setCell ⟨s, 2, none⟩ rest).heap[i]? = wr.heap[i]? := fun i hi => Below.heap_setCell _ _ _ _ hi
  obtain ⟨xf, cf, hmf⟩ := h.files.isMap
  obtain ⟨xy, cy, hmy⟩ := h.synced.isMap
  have hsf : f ≠ s := fun e => by rw [e, h.blk] at hmf; cases hmf
  have hsy : y ≠ s := fun e => by rw [e, h.blk] at hmy; cases hmy
  refine ⟨hK.trans k2, ?_, h.base_s, h.ne, ?_, ?_, vs2, ?_, hacts2.keep k2⟩
  · rw [set_block hs3]; rfl
  · exact h.files.keep (hK.trans k2) ((hset f hsf).trans hf)
  · exact ht.keep k2 (hset y hsy)
  · refine ownsRow_setCell_other (ownsRow_mono hown2 h.base_le) (fun e => ?_) _
    obtain ⟨hb, _⟩ := ownBlock_row hown2 e
    have := lt_of_block h.blk; simp at hb; omega

set_option maxHeartbeats 8000000 in
set_option maxRecDepth 100000 in
theorem trySync_some {w : World} {base s f y k0 g cap : Nat} {st : St} (h : Ok w base s f y (.slice (some ⟨g, 0, none⟩) st.loose.length cap) st) (hbd : Bd st k0) {d : By} {bs bd : Value} (hd : d.length ≤ maxLen) (hpart : partB d = true)
    (hbs : BoxIn w base 27 bs (.pointer (some ⟨s, 0, none⟩))) (hbp : BoxIn w base 9 bd (S d)) :
    Calls Tryz.prog 52 #[bd, bs] w (TryPost base s f y st 0 (syncedSt d st) w) := by
  have hip := isPart_any d w hd
  rw [hpart] at hip
  obtain ⟨gs, rfl, _, hgs⟩ := hbs
  obtain ⟨gd, rfl, _, hgd⟩ := hbp
  have cs := cell_of_one hgs; have cd := cell_of_one hgd
  have c2 := h.c2
  unfold S at cd hip
  have Hip := Lib.hid hip; have Hk := Lib.hid h
  clear hip
  have hn : st.loose.length ≤ 1000000 := by have := hbd.both; have := hbd.lim; omega
  have hgl : g < w.heap.size ∧ g ≠ y := by
    obtain ⟨vs, hv, _⟩ := h.loose
    obtain ⟨_, cur, hc⟩ := ownBlock_row hv (r := g) rfl
    refine ⟨lt_of_block hc, fun e => ?_⟩
    obtain ⟨xs, c, hm⟩ := h.synced.isMap
    rw [e, hm] at hc; cases hc
  have Hgl := Lib.hid hgl.1; have Hgy := Lib.hid hgl.2; clear hgl
  go_enter Tryz.func52, Tryz.ntmps52
  go_wp2_with fail
  refine Hip.out.mono ?_
  rintro e w1 ⟨rfl, rfl⟩
  go_wp2_with fail
  go_loopw [3, 19] (fun rest i wr => ∃ k : Nat, k ≤ st.loose.length ∧ i = .int .i64 k ∧ SyncRel base s f y g d st w k rest wr) (fun _ i _ => st.loose.length - (intOf i).toNat)
  case atStart =>
    refine ⟨0, Nat.zero_le _, rfl, K.refl _ _, rfl, rfl, rfl, Hk.out.synced, [], World.ownsRow_nil _ _ _ _, trivial⟩
  case round =>
    obtain ⟨k, hk, rfl, hK, hs, hf, hg, ht, vs2, hown2, hacts2⟩ := hrel
    by_cases hlt : k < st.loose.length
    · obtain ⟨vs, hown1, hacts1⟩ := Hk.out.loose
      obtain ⟨a, ha⟩ : ∃ a, st.loose[k]? = some a := ⟨_, List.getElem?_eq_getElem hlt⟩
      obtain ⟨pv, e0, e1, hact⟩ := hacts1.at k a ha
      have hgc : ∀ j u, vs[j]? = some u → wr.cell? ⟨g, j, none⟩ = some u := fun j u hu => by
        have := World.ownsRow.cells hown1 (g := g) rfl j u hu
        rw [show (⟨g, 0, none⟩ : Addr).add j = ⟨g, j, none⟩ by unfold Addr.add; split <;> simp_all] at this
        rw [World.cell?_of_block (w := w) (a := ⟨g, j, none⟩) hg]; exact this
      have x0 := hgc _ _ e0
      have x1 := hgc _ _ e1
      unfold S at x0
      obtain ⟨gN, capN, rfl, hent, hplay⟩ := act_shape hact
      have hent2 := hent
      have Hplay := Lib.hid hplay; clear hplay
      have Hact := Lib.hid hact
      have Hst := Lib.hid ha
      clear hgc e0 e1 hact ha hown1 hacts1
      have cs1 := cell_keep hK hgs rfl
      have cd1 := cell_keep hK hgd rfl
      have c11 : wr.cell? ⟨s, 1, none⟩ = some (.map (some y)) := by rw [World.cell?_of_block (w := w) (a := ⟨s, 1, none⟩) hs]; exact Hk.out.c1
      unfold S at cd1
      have cd2 := cell_below (below_alloc wr (.cells #[.string ⟨a.1.toArray⟩, .func (.func gN) #[] capN] 75)) cd1
      have cs2 := cell_below (below_alloc wr (.cells #[.string ⟨a.1.toArray⟩, .func (.func gN) #[] capN] 75)) cs1
      have c12 := cell_below (below_alloc wr (.cells #[.string ⟨a.1.toArray⟩, .func (.func gN) #[] capN] 75)) c11
      have b0 : (wr.alloc (.cells #[.string ⟨a.1.toArray⟩, .func (.func gN) #[] capN] 75)).cell? ⟨wr.heap.size, 0, none⟩ = some (.string ⟨a.1.toArray⟩) := cell_of_block (heap_alloc_new wr _) 0
      have b1 : (wr.alloc (.cells #[.string ⟨a.1.toArray⟩, .func (.func gN) #[] capN] 75)).cell? ⟨wr.heap.size, 1, none⟩ = some (.func (.func gN) #[] capN) := cell_of_block (heap_alloc_new wr _) 1
      cases hq : (a.1 == d)
      · have hlen : (syncL d (st.loose.take k)).length ≤ 1000000 := by
          have := syncL_len d (st.loose.take k)
          have := List.length_take_le k st.loose
          omega
        obtain ⟨i0, hi0, hz0, hz1, hz2⟩ := info_parts infoAct
        have hnw := heap_alloc_new2 wr (.cells #[.string ⟨a.1.toArray⟩, .func (.func gN) #[] capN] 75) (.cells #[.string ⟨a.1.toArray⟩, .func (.func gN) #[] capN] 75)
        have Hnw := Lib.hid hnw; clear hnw
        have hwrs := hK.size
        go_wp2_with (at_builtin; refine wpList_append_own _ rfl _ _ 62 rfl w.heap.size 75 i0 _ 2 24 Tryz.underlying62 hi0 hz0 hz1 hz2 rfl (by decide) _ _ _ rfl ((hown2.alloc _).alloc _) ⟨wr.heap.size + 1, 0, none⟩ 1 1 [.string ⟨a.1.toArray⟩, .func (.func gN) #[] capN] rfl rfl ?c1 ?c2 ?c3 ?c4 ?c5 ?_)
        case c1 => exact World.news_of_block (cs := #[.string ⟨a.1.toArray⟩, .func (.func gN) #[] capN]) (t := 75) (fr := (0, 0)) Hnw.out
        case c2 => simp [Value.oneCell']
        case c3 => unfold maxLen; omega
        case c4 => omega
        case c5 => simp; omega
        · intro v' w1 hown' hgrow _
          have R := sync_skip Hk.out Hgl.out Hst.out hq Hact.out hK hs hf hg ht hown2 hacts2 hgrow hown'
          have HR := Lib.hid R
          clear R hown' hgrow hown2 hacts2 ht hs hf hg hK
          go_wp2_with fail
          go_roundw
          case rel => exact ⟨k + 1, by omega, by go_num, HR.out⟩
          case measure => simp [intOf]; omega
      · have hlen : (syncT d (st.loose.take k) st.synced).length < maxLen := by
          have h1 := syncT_len d (st.loose.take k) st.synced
          have h2 := List.length_take_le k st.loose
          have h3 := hbd.both; have h4 := hbd.lim
          unfold maxLen; omega
        have hwrs := hK.size
        have hBa := below_alloc wr (.cells #[.string ⟨a.1.toArray⟩, .func (.func gN) #[] capN] 75)
        have hta : TabIn (wr.alloc (.cells #[.string ⟨a.1.toArray⟩, .func (.func gN) #[] capN] 75)).drew base y (syncT d (st.loose.take k) st.synced) :=
          ht.keep ((K.of_new (base := base) hBa (by have := Hk.out.base_le; omega)).drew) (hBa.block y ht.lt)
        have haa : ActIn (wr.alloc (.cells #[.string ⟨a.1.toArray⟩, .func (.func gN) #[] capN] 75)).drew base (.func (.func gN) #[] capN) a.2 :=
          Hact.out.keep ((hK.trans (K.of_new (base := base) hBa (by have := Hk.out.base_le; omega))).drew)
        have hpl := Hplay.out _ y _ haa (hbd.fits a (List.mem_of_getElem? Hst.out)) hta hlen
        have Hpl := Lib.hid hpl
        have hny : wr.heap.size ≠ y := by have := ht.lt; omega
        have hgsy : gs ≠ y := fun e => by obtain ⟨xs, c, hm⟩ := Hk.out.synced.isMap; rw [← e, hgs] at hm; cases hm
        have hsy : s ≠ y := fun e => by obtain ⟨xs, c, hm⟩ := Hk.out.synced.isMap; rw [← e, Hk.out.blk] at hm; cases hm
        clear hpl hta haa hlen
        go_wp2_with fail
        go_region_held3 (fun w' => w'.cell? ⟨wr.heap.size, 1, none⟩ = some (.func (.func gN) #[] capN) ∧ w'.cell? ⟨gs, 0, none⟩ = some (.pointer (some ⟨s, 0, none⟩)) ∧ w'.cell? ⟨s, 1, none⟩ = some (.map (some y)))
          (first | exact ⟨b1, cs2, c12⟩ | assumption | go_keep)
          (first | (refine Hpl.out.mono ?_; rintro e w2 ⟨rfl, ht2, hg2⟩; have hS2 := And.intro (hg2.cell b1 (by intro e; cases e; exact hny rfl)) (And.intro (hg2.cell cs2 (by intro e; cases e; exact hgsy rfl)) (hg2.cell c12 (by intro e; cases e; exact hsy rfl)))))
        have R := sync_play Hk.out Hgl.out Hgy.out Hst.out hq hK hs hf hg ht hown2 hacts2 ht2 ⟨hg2.os, hg2.tape, hg2.output, hg2.size, hg2.block⟩
        have HR := Lib.hid R
        clear R hown2 hacts2 ht hs hf hg hK ht2 hg2 hS2
        go_wp2_with fail
        go_roundw
        case rel => exact ⟨k + 1, by omega, by go_num, HR.out⟩
        case measure => simp [intOf]; omega
    · obtain rfl : k = st.loose.length := by omega
      have hs3 : wr.heap[s]? = some (.cells (shelfCells f y (.slice (some ⟨g, 0, none⟩) st.loose.length cap) st) 64 (0, 0)) := hs.trans Hk.out.blk
      have c22 : wr.cell? ⟨s, 2, none⟩ = some (.slice (some ⟨g, 0, none⟩) st.loose.length cap) := cell_of_block hs3 2
      have f22 : wr.frozen? ⟨s, 2, none⟩ = false := by simp [World.frozen?, hs3]
      have cs1 := cell_keep hK hgs rfl
      have R := sync_end (rest := u3) Hk.out ⟨hK, hs, hf, hg, ht, vs2, hown2, hacts2⟩
      have HR := Lib.hid R
      obtain ⟨ar, nr, cr, rfl⟩ : ∃ ar nr cr, u3 = .slice ar nr cr := by
        rcases hown2.2 with ⟨r, _⟩ | ⟨gg, cap, cur, r, _⟩
        · exact ⟨_, _, _, r⟩
        · exact ⟨_, _, _, r⟩
      clear R hown2 hacts2 ht hs hf hg hK hs3
      go_wp2_with fail
      go_ret
      exact ⟨_, _, rfl, HR.out.1, .inl ⟨rfl, rfl, HR.out.2⟩⟩
end Go.Proofs.YtbibogpeagnjoaaGreatDoor


namespace Go.Proofs.YtbibogpeagnjoaaGreatDoor
open Go Go.RowKit Go.Maps Go.Shelf

set_option maxHeartbeats 4000000 in
set_option maxRecDepth 100000 in
theorem trySync_nil {w : World} {base s f y : Nat} {st : St} (h : Ok w base s f y (.slice none 0 0) st) (hl : st.loose = []) {d : By} {bs bd : Value} (hd : d.length ≤ maxLen) (hpart : partB d = true)
    (hbs : BoxIn w base 27 bs (.pointer (some ⟨s, 0, none⟩))) (hbp : BoxIn w base 9 bd (S d)) :
    Calls Tryz.prog 52 #[bd, bs] w (TryPost base s f y st 0 (syncedSt d st) w) := by
  have hip := isPart_any d w hd
  rw [hpart] at hip
  obtain ⟨gs, rfl, _, hgs⟩ := hbs
  obtain ⟨gd, rfl, _, hgd⟩ := hbp
  have cs := cell_of_one hgs; have cd := cell_of_one hgd
  have c2 := h.c2
  have f2 := h.free 2
  have he : syncedSt d st = st := by unfold syncedSt; rw [hl]; cases st; simp at hl ⊢; exact ⟨rfl, hl.symm⟩
  have hset := h.field 2 (.slice none 0 0) st rfl rfl rfl rfl
  have k := (K.refl base w).setShelf h.blk h.base_s 2 (.slice none 0 0)
  unfold S at cd hip
  have Hip := Lib.hid hip; have Hset := Lib.hid hset; have Hk := Lib.hid k; have He := Lib.hid he
  clear hip hset k he h hl
  go_enter Tryz.func52, Tryz.ntmps52
  go_wp2_with fail
  refine Hip.out.mono ?_
  rintro e w1 ⟨rfl, rfl⟩
  go_wp2_with fail
  refine wp_loop_rounds 1 ?_
  rw [rounds_succ]
  go_wp2_with fail
  go_ret
  exact ⟨_, _, rfl, Hk.out, .inl ⟨rfl, rfl, by rw [He.out]; exact Hset.out⟩⟩

set_option maxHeartbeats 4000000 in
set_option maxRecDepth 100000 in
theorem trySync_bad {w : World} {base s f y : Nat} {lv : Value} {st st1 : St} (h : Ok w base s f y lv st) {d : By} {bs bd : Value} (hd : d.length ≤ maxLen) (hpart : partB d = false)
    (hbp : BoxIn w base 9 bd (S d)) :
    Calls Tryz.prog 52 #[bd, bs] w (TryPost base s f y st 1 st1 w) := by
  have hip := isPart_any d w hd
  rw [hpart] at hip
  obtain ⟨gd, rfl, _, hgd⟩ := hbp
  have cd := cell_of_one hgd
  have hB := below_alloc w (.cells #[.string ⟨d.toArray⟩, .iface 35 (.int .i64 1)] 87)
  have hk := h.keep hB
  have k : K base w _ := K.of_new hB h.base_le
  unfold S at cd hip
  have Hip := Lib.hid hip; have Hk := Lib.hid hk; have HK := Lib.hid k
  clear hip hk k h hB
  go_enter Tryz.func52, Tryz.ntmps52
  go_wp2_with fail
  refine Hip.out.mono ?_
  rintro e w1 ⟨rfl, rfl⟩
  go_wp2_with fail
  go_ret
  exact ⟨_, lv, rfl, HK.out, .inr ⟨by decide, ⟨_, _, rfl, heap_alloc_new _ _⟩, Hk.out⟩⟩

def syncErr (d : By) : Int := if partB d = true then 0 else 1
theorem syncErr_ne {d : By} : syncErr d ≠ 13 := by unfold syncErr; split <;> decide

theorem trySync {w : World} {base s f y k0 : Nat} {lv : Value} {st : St} (h : Ok w base s f y lv st) (hbd : Bd st k0) {d : By} {bs bd : Value} (hd : d.length ≤ maxLen)
    (hbs : BoxIn w base 27 bs (.pointer (some ⟨s, 0, none⟩))) (hbp : BoxIn w base 9 bd (S d)) :
    Calls Tryz.prog 52 #[bd, bs] w (TryPost base s f y st (syncErr d) (syncedSt d st) w) := by
  unfold syncErr
  by_cases hp : partB d = true
  · rw [if_pos hp]
    obtain ⟨vs, hv, ha⟩ := h.loose
    rcases hv.2 with ⟨rfl, h0⟩ | ⟨g, cap, cur, rfl, _⟩
    · exact trySync_nil h (List.length_eq_zero_iff.1 h0) hd hp hbs hbp
    · exact trySync_some h hbd hd hp hbs hbp
  · rw [if_neg hp]
    exact trySync_bad h hd (by simpa using hp) hbp

set_option maxHeartbeats 4000000 in
set_option maxRecDepth 100000 in
theorem Sync_any {w : World} {base s f y k : Nat} {lv : Value} {st : St} (h : Ok w base s f y lv st) (hbd : Bd st k) (het : Et w) (hg : 0 < base) {d : By} (hd : d.length ≤ maxLen) :
    Calls Tryz.prog 15 #[.pointer (some ⟨s, 0, none⟩), S d] w (DoPost base s f y (doN st (syncErr d)) (doSt st (syncErr d) (syncedSt d st)) w) := by
  have hmf : ∀ (fn : Fn) (first cap : Array Value) (w : World), (Instr.makeFunc fn first cap).run Tryz.prog w = .ok (.func fn first cap) w := fun _ _ _ _ => rfl
  have hbs := h.base_le
  have B1 := below_alloc w (.cells #[.pointer (some ⟨s, 0, none⟩)] 27)
  have B2 := below_alloc (w.alloc (.cells #[.pointer (some ⟨s, 0, none⟩)] 27)) (.cells #[S d] 9)
  have B := below_two B1 B2
  have kB : K base w _ := K.of_new B hbs
  have x1 := (box_new (t := 27) (.pointer (some ⟨s, 0, none⟩)) hbs).keep (K.of_new (base := base) B2 (by simp; omega)) rfl
  have x2 := box_new2 (t := 9) (.cells #[.pointer (some ⟨s, 0, none⟩)] 27) (S d) hbs
  have ht := trySync (h.keep B) hbd hd x1 x2
  have hdo := do_any (h.keep B) (het.keep kB hg) hg syncErr_ne (enters_of Tryz.func52 (by kernel_rfl) rfl) ht
  have Hd := Lib.hid hdo; have HB := Lib.hid B
  clear hdo ht x1 x2 kB B B1 B2 h het hbd
  unfold S at Hd HB ⊢
  go_enter Tryz.func15, Tryz.ntmps15
  go_wp2_with fail
  refine Hd.out.mono ?_
  rintro e w' hD
  have hD' := hD.from HB.out hbs
  obtain ⟨rfl, hD2⟩ := hD'
  have HD := Lib.hid hD2; clear hD2 hD
  go_wp2_with fail
  go_ret
  exact ⟨rfl, HD.out⟩
end Go.Proofs.YtbibogpeagnjoaaGreatDoor


namespace Go.Proofs.YtbibogpeagnjoaaGreatDoor
open Go Go.RowKit Go.Maps Go.Shelf

/-- The slice value v holds the bools ks, in memory that a shelf does not write. -/
def BoolsAt (w : World) (base : Nat) (v : Value) (ks : List Bool) : Prop :=
  (v = .slice none 0 0 ∧ ks = []) ∨ ∃ a c, v = .slice (some a) ks.length c ∧
    ∀ i, i < ks.length → (a.block < base ∨ ∃ cs e fz, w.heap[a.block]? = some (Obj.cells cs e fz) ∧ mutT e = false) ∧ w.cell? (a.add i) = (ks[i]?).map Value.bool

theorem add_block (a : Addr) (i : Nat) : (a.add i).block = a.block := by unfold Addr.add; split <;> rfl

theorem BoolsAt.keep {w w' : World} {base : Nat} {v : Value} {ks : List Bool} (h : BoolsAt w base v ks) (k : K base w w') : BoolsAt w' base v ks := by
  rcases h with h | ⟨a, c, rfl, h⟩
  · exact .inl h
  · refine .inr ⟨a, c, rfl, fun i hi => ?_⟩
    obtain ⟨h1, h2⟩ := h i hi
    rcases h1 with h1 | ⟨cs, e, fz, h1, h3⟩
    · refine ⟨.inl h1, ?_⟩
      rw [k.below.cell (p := a.add i) (by rw [add_block]; exact h1)]; exact h2
    · have h4 := k.const _ _ _ _ h1 h3
      refine ⟨.inr ⟨cs, e, fz, h4, h3⟩, ?_⟩
      rw [World.cell?_of_block (w := w) (a := a.add i) (by rw [add_block, h1, h4])]; exact h2

def crashK (l : List (By × Act)) (ks : List Bool) (t : Tb) : Nat → Tb
  | 0 => t
  | k + 1 => match l[k]? with
    | some a => if ks.getD k false = true then a.2.play (crashK l ks t k) else crashK l ks t k
    | none => crashK l ks t k
def crashSt (ks : List Bool) (st : St) : St :=
  { st with files := crashK st.loose ks st.synced st.loose.length, synced := crashK st.loose ks st.synced st.loose.length, loose := [], fuse := -1, down := false }

theorem crashK_some {l : List (By × Act)} {ks : List Bool} {t : Tb} {k : Nat} {a : By × Act} (ha : l[k]? = some a) : crashK l ks t (k + 1) = if ks.getD k false = true then a.2.play (crashK l ks t k) else crashK l ks t k := by
  rw [crashK, ha]
theorem crashK_len (l : List (By × Act)) (ks : List Bool) (t : Tb) : ∀ k, (crashK l ks t k).length ≤ t.length + k
  | 0 => Nat.le_refl _
  | k + 1 => by
    have ih := crashK_len l ks t k
    rw [crashK]
    split
    · split
      · rename_i a _ _; have := play_len a.2 (crashK l ks t k); omega
      · omega
    · omega

/-- The loop of Crash, between two rounds. -/
def CrashRel (base s y g : Nat) (ks : List Bool) (st : St) (w0 : World) (k : Nat) (wr : World) : Prop :=
  K base w0 wr ∧ wr.heap[s]? = w0.heap[s]? ∧ wr.heap[g]? = w0.heap[g]? ∧ TabIn wr base y (crashK st.loose ks st.synced k)

theorem crash_skip {base s f y g k : Nat} {ks : List Bool} {st : St} {w wr : World} {lv : Value} {a : By × Act} {o1 : Obj} (h : Ok w base s f y lv st) (hgl : g < w.heap.size) (ha : st.loose[k]? = some a) (hq : ks.getD k false = false)
    (hK : K base w wr) (hs : wr.heap[s]? = w.heap[s]?) (hg : wr.heap[g]? = w.heap[g]?) (ht : TabIn wr base y (crashK st.loose ks st.synced k)) : CrashRel base s y g ks st w (k + 1) (wr.alloc o1) := by
  have hB := below_alloc wr o1
  have hbw := h.base_le
  have hwr := hK.size
  have k1 : K base wr (wr.alloc o1) := K.of_new hB (by omega)
  refine ⟨hK.trans k1, (hB.block s (by have := lt_of_block h.blk; omega)).trans hs, (hB.block g (by omega)).trans hg, ?_⟩
  rw [crashK_some ha, if_neg (by rw [hq]; simp)]
  exact ht.keep k1 (hB.block y ht.lt)

theorem crash_play {base s f y g k : Nat} {ks : List Bool} {st : St} {w wr w1 : World} {lv : Value} {a : By × Act} {o1 : Obj} (h : Ok w base s f y lv st) (hgl : g < w.heap.size) (hgy : g ≠ y) (ha : st.loose[k]? = some a) (hq : ks.getD k false = true)
    (hK : K base w wr) (hs : wr.heap[s]? = w.heap[s]?) (hg : wr.heap[g]? = w.heap[g]?) (ht : TabIn wr base y (crashK st.loose ks st.synced k))
    (ht1 : TabIn w1 base y (a.2.play (crashK st.loose ks st.synced k))) (hg1 : (wr.alloc o1).grownBy w1 (some y)) : CrashRel base s y g ks st w (k + 1) w1 := by
  have hB := below_alloc wr o1
  have hbw := h.base_le
  have hwr := hK.size
  obtain ⟨xs, c, hm⟩ := h.synced.isMap
  have hmr := ht.isMap
  have kr : K base wr w1 := (K.of_new hB (by omega)).turned hg1 (by have := hB.size; omega) h.synced.1 (by obtain ⟨x, c, hx⟩ := hmr; exact ⟨x, c, (hB.block y (lt_of_block hx)).trans hx⟩)
  have hold : ∀ i, i < wr.heap.size → i ≠ y → w1.heap[i]? = wr.heap[i]? := fun i hi hy => by
    rw [hg1.block i (by have := hB.size; omega) (fun e => hy (by cases e; rfl)), hB.block i hi]
  have hsy : s ≠ y := fun e => by rw [← e, h.blk] at hm; cases hm
  refine ⟨hK.trans kr, (hold s (by have := lt_of_block h.blk; omega) hsy).trans hs, (hold g (by omega) hgy).trans hg, ?_⟩
  rw [crashK_some ha, if_pos hq]
  exact ht1

/-- What Crash comes to. -/
def CrashPost (base s y : Nat) (st : St) (w : World) (e : Ending) (w' : World) : Prop := e = .returned (.tuple #[]) ∧ K base w w' ∧ ∃ f, Ok w' base s f y (.slice none 0 0) st

/-- Behind the loop: the shelf's fields are written. -/
theorem crash_end {base s f y : Nat} {st st' : St} {t : Tb} {w wr w2 : World} {lv : Value} (h : Ok w base s f y lv st) (hK : K base w wr) (hs : wr.heap[s]? = w.heap[s]?) (ht : TabIn wr base y t)
    (hB : Below wr.heap.size wr w2) (ht2 : TabIn w2 base wr.heap.size t) (hst : st' = { st with files := t, synced := t, loose := [], fuse := -1, down := false }) :
    K base w ((((w2.setCell ⟨s, 0, none⟩ (.map (some wr.heap.size))).setCell ⟨s, 2, none⟩ (.slice none 0 0)).setCell ⟨s, 5, none⟩ (.int .i64 (-1))).setCell ⟨s, 6, none⟩ (.bool false)) ∧
      Ok ((((w2.setCell ⟨s, 0, none⟩ (.map (some wr.heap.size))).setCell ⟨s, 2, none⟩ (.slice none 0 0)).setCell ⟨s, 5, none⟩ (.int .i64 (-1))).setCell ⟨s, 6, none⟩ (.bool false)) base s wr.heap.size y (.slice none 0 0) st' := by
  have hwr := hK.size
  have hbw := h.base_le
  have hsl := lt_of_block h.blk
  have hs2 : w2.heap[s]? = some (.cells (shelfCells f y lv st) 64 (0, 0)) := (hB.block s (by omega)).trans (hs.trans h.blk)
  have b1 := set_block hs2 0 (.map (some wr.heap.size))
  have b2 := set_block b1 2 (.slice none 0 0)
  have b3 := set_block b2 5 (.int .i64 (-1))
  have b4 := set_block b3 6 (.bool false)
  have k2 : K base wr w2 := K.of_new hB (by omega)
  have k6 := (((k2.setShelf hs2 h.base_s 0 (.map (some wr.heap.size))).setShelf b1 h.base_s 2 (.slice none 0 0)).setShelf b2 h.base_s 5 (.int .i64 (-1))).setShelf b3 h.base_s 6 (.bool false)
  have k26 := ((((K.refl base w2).setShelf hs2 h.base_s 0 (.map (some wr.heap.size))).setShelf b1 h.base_s 2 (.slice none 0 0)).setShelf b2 h.base_s 5 (.int .i64 (-1))).setShelf b3 h.base_s 6 (.bool false)
  have hset : ∀ i, i ≠ s → ((((w2.setCell ⟨s, 0, none⟩ (.map (some wr.heap.size))).setCell ⟨s, 2, none⟩ (.slice none 0 0)).setCell ⟨s, 5, none⟩ (.int .i64 (-1))).setCell ⟨s, 6, none⟩ (.bool false)).heap[i]? = w2.heap[i]? := fun i hi => by
    rw [Below.heap_setCell _ _ _ _ hi, Below.heap_setCell _ _ _ _ hi, Below.heap_setCell _ _ _ _ hi, Below.heap_setCell _ _ _ _ hi]
  have hy : y < wr.heap.size := ht.lt
  obtain ⟨xs, c, hm⟩ := ht.isMap
  have hsy : y ≠ s := fun e => by rw [e, hs.trans h.blk] at hm; cases hm
  refine ⟨hK.trans k6, ?_, h.base_s, by omega, ?_, ?_, [], World.ownsRow_nil _ _ _ _ |> fun r => by subst hst; exact r, by subst hst; trivial⟩
  · rw [b4]; subst hst; rfl
  · subst hst; exact ht2.keep k26 (hset _ (by omega))
  · subst hst; exact ht.keep k6 ((hset y hsy).trans (hB.block y hy))
end Go.Proofs.YtbibogpeagnjoaaGreatDoor
