/-
  own: the files of a directory.
-/
import Derived.Test.YtccloieikkdcoaaGreatDoorOrdW
namespace Go.Proofs.YtccloieikkdcoaaGreatDoor
open Go Go.RowKit Go.Maps Go.Sort Go.Shelf Go.Deep

/-- One of the files that Files told. -/
theorem FilesIn.at {w : World} {B : Nat} {v : Value} {t : Tb} (h : FilesIn w B v t) {i : Nat} {q : By × By} (hq : t[i]? = some q) :
    ∃ g c, v = .slice (some ⟨g, 0, none⟩) t.length c ∧ ∃ dv, w.cell? ⟨g, i * 2, none⟩ = some (S q.1) ∧ w.cell? ⟨g, i * 2 + 1, none⟩ = some dv ∧ RowIn w B dv q.2 := by
  obtain ⟨vs, hrow, hfs⟩ := h
  have hrow' := hrow
  rcases hrow.2 with ⟨rfl, h0⟩ | ⟨g, cap, cur, rfl, _⟩
  · rw [List.length_eq_zero_iff.1 h0] at hq; simp at hq
  · obtain ⟨pv, e0, e1, h2⟩ := hfs.at i q hq
    have c0 := World.ownsRow.cells hrow' (g := g) rfl _ _ e0
    have c1 := World.ownsRow.cells hrow' (g := g) rfl _ _ e1
    rw [add_at] at c0 c1
    rw [Nat.zero_add] at c0 c1
    exact ⟨g, cap, rfl, pv, c0, c1, h2⟩
theorem row_mono {w : World} {B B' n : Nat} {t : TypeId} {k : Nat} {v : Value} {xs : List Value} (h : w.ownsRow B t k v n xs) (hb : B' ≤ B) : w.ownsRow B' t k v n xs := by
  obtain ⟨h1, h2⟩ := h
  refine ⟨h1, ?_⟩
  rcases h2 with h2 | ⟨g, cap, cur, rfl, hbg, r⟩
  · exact .inl h2
  · exact .inr ⟨g, cap, cur, rfl, Nat.le_trans hb hbg, r⟩

/-- The loop of own, between two rounds. -/
def OwnRel (w : World) (B : Nat) (t : Tb) (l : Value) (wr : World) : Prop := Below w.heap.size w wr ∧ ∃ vs, wr.ownsRow w.heap.size 56 2 l t.length vs ∧ FsIn wr B vs t
theorem OwnRel.next {w wr w3 : World} {B : Nat} {t : Tb} {l : Value} (h : OwnRel w B t l wr) (hB : Below wr.heap.size wr w3) : OwnRel w B t l w3 := by
  obtain ⟨h1, vs, h2, h3⟩ := h
  refine ⟨below_two h1 hB, vs, h2.kept (row := none) ⟨hB.os, hB.tape, hB.output, hB.size, fun k hk _ => hB.block k hk⟩ (Classical.em _), h3.imp fun _ _ hv => hv.keep (K.of_new (base := 0) hB (Nat.zero_le _))⟩
theorem own_round {w w3 w4 : World} {B : Nat} {t : Tb} {l l' dv : Value} {q : By × By} {vs : List Value} {o : Obj} (h1 : Below w.heap.size w w3) (hvs : w3.ownsRow w.heap.size 56 2 l t.length vs) (hfs : FsIn w3 B vs t)
    (hcv : RowIn w3 B dv q.2) (hg : (w3.alloc o).grownBy w4 l.ownBlock) (hown : w4.ownsRow w.heap.size 56 2 l' (t.length + 1) (vs ++ [S q.1, dv])) : OwnRel w B (t ++ [q]) l' w4 := by
  have hrow : ∀ r, l.ownBlock = some r → w.heap.size ≤ r ∧ ∃ cur, w3.heap[r]? = some (Obj.cells cur 56 (0, 0)) := fun r hr => by
    rcases hvs.2 with ⟨e, _⟩ | ⟨g, _, cur, e, hb, hc, _⟩
    · rw [e] at hr; cases hr
    · rw [e] at hr; cases hr; exact ⟨hb, cur, hc⟩
  have hB3o : Below w3.heap.size w3 (w3.alloc o) := below_alloc w3 o
  have hrow4 : ∀ r, l.ownBlock = some r → ∀ cur fz, (w3.alloc o).heap[r]? ≠ some (Obj.cells cur 5 fz) := fun r hr cur fz e => by
    obtain ⟨_, cur', hc⟩ := hrow r hr
    rw [hB3o.block r (lt_of_block hc), hc] at e
    cases e
  have hrows : ∀ v b, RowIn w3 B v b → RowIn w4 B v b := fun v b hv => (hv.keep (K.of_new (base := 0) hB3o (Nat.zero_le _))).grown hg hrow4
  have hsz : w3.heap.size ≤ w4.heap.size := Nat.le_trans hB3o.size hg.size
  refine ⟨⟨hg.os.trans (hB3o.os.trans h1.os), hg.tape.trans (hB3o.tape.trans h1.tape), hg.output.trans (hB3o.output.trans h1.output), Nat.le_trans h1.size hsz, fun i hi => ?_⟩, vs ++ [S q.1, dv], ?_, FsIn.snoc (hrows _ _ hcv) (hfs.imp hrows)⟩
  · rw [hg.block i (by have := hB3o.size; have := h1.size; omega) (fun e => by have := (hrow i e.symm).1; omega), hB3o.block i (by have := h1.size; omega)]; exact h1.block i hi
  · rw [List.length_append]; exact hown

/-- The files of a directory. -/
def ownT (dir : By) (t : Tb) : Tb := t.filter fun q => refDir q.1 == dir
theorem own_snoc {dir : By} {t : Tb} {k : Nat} {q : By × By} (h : t[k]? = some q) : ownT dir (t.take (k + 1)) = if (refDir q.1 == dir) = true then ownT dir (t.take k) ++ [q] else ownT dir (t.take k) := by
  unfold ownT
  rw [take_snoc h, List.filter_append]
  cases hc : (refDir q.1 == dir)
  · rw [if_neg (by simp)]; simp [hc]
  · rw [if_pos rfl]; simp [hc]

set_option maxHeartbeats 8000000 in
set_option maxRecDepth 100000 in
theorem own_any {w : World} {B : Nat} {v : Value} {t : Tb} (h : FilesIn w B v t) (hBw : B ≤ w.heap.size) (hl : t.length ≤ 1000000) (hk : ∀ q ∈ t, q.1.length ≤ lim) (dir : By) :
    Calls Tryz.prog 33 #[v, S dir] w fun e w' => ∃ v', e = .returned v' ∧ FilesIn w' B v' (ownT dir t) ∧ Below w.heap.size w w' := by
  obtain ⟨aa, ac, rfl⟩ := h.slice
  have Hf := Lib.hid h
  have Hk := Lib.hid hk
  clear h hk
  unfold S
  go_enter Tryz.func33, Tryz.ntmps33
  go_wp2_with fail
  go_loopw [5, 6, 7, 8] (fun ov iv _d _e wr => ∃ (k : Nat), k ≤ t.length ∧ iv = .int .i64 k ∧ Hid (OwnRel w B (ownT dir (t.take k)) ov wr)) (fun _ iv _ _ _ => t.length - (intOf iv).toNat)
  case atStart => exact ⟨0, Nat.zero_le _, rfl, Lib.hid ⟨Below.refl _ _, [], World.ownsRow_nil _ _ _ _, trivial⟩⟩
  case round =>
    obtain ⟨k, hk, rfl, hrel⟩ := hrel
    by_cases hlt : k < t.length
    · obtain ⟨q, hq⟩ : ∃ q, t[k]? = some q := ⟨_, List.getElem?_eq_getElem hlt⟩
      have hB := hrel.out.1
      obtain ⟨g, c, hv, dv, c0, c1, hrw⟩ := (Hf.out.keep (K.of_new (base := 0) hB (Nat.zero_le _))).at hq
      cases hv
      obtain ⟨da, dc, rfl⟩ := hrw.shape
      unfold S at c0
      have hdir := fun W => Dir_any q.1 W (Hk.out q (List.mem_of_getElem? hq))
      unfold DirRPost S at hdir
      obtain ⟨pb, hpb⟩ : ∃ pb, pb = pathB q.1 := ⟨_, rfl⟩
      rw [← hpb] at hdir
      have HDir := Lib.hid hdir
      have hsn := own_snoc (dir := dir) hq
      have Hsn := Lib.hid hsn
      have HRw := Lib.hid hrw
      obtain ⟨al, nl, cl, rfl⟩ : ∃ al nl cl, u5 = .slice al nl cl := by
        obtain ⟨_, vs, hvs, _⟩ := hrel.out
        rcases hvs.2 with ⟨r, _⟩ | ⟨gg, cap, cur, r, _⟩
        · exact ⟨_, _, _, r⟩
        · exact ⟨_, _, _, r⟩
      clear hdir hsn hB hrw hpb hq
      go_wp2_with fail
      refine (HDir.out _).mono ?_
      rintro e w3 ⟨rfl, hB3⟩
      have h3 := hrel.out.next hB3
      have c0' := cell_below' hB3 c0
      have c1' := cell_below' hB3 c1
      have hrw3 := HRw.out.keep (K.of_new (base := 0) hB3 (Nat.zero_le _))
      have H3 := Lib.hid h3; have HRw3 := Lib.hid hrw3
      clear h3 hB3 c0 c1 hrw3
      obtain ⟨rd, hrd⟩ : ∃ rd, rd = refDir q.1 := ⟨_, rfl⟩
      rw [← hrd] at Hsn ⊢
      by_cases he : rd = dir
      · obtain ⟨hB3, vs, hvs, hfs⟩ := H3.out
        have HS2 : Hid (ownT dir (t.take (k + 1)) = ownT dir (t.take k) ++ [q]) := Lib.hid (by rw [Hsn.out, if_pos (by rw [he]; simp)])
        have hol : (ownT dir (t.take k)).length ≤ k := by
          have h1 : (ownT dir (t.take k)).length ≤ (t.take k).length := by unfold ownT; exact List.length_filter_le _ _
          rw [List.length_take] at h1; omega
        subst he
        have Hvs := Lib.hid hvs; have Hfs := Lib.hid hfs; have HB3 := Lib.hid hB3
        obtain ⟨i0, hi0, hz0, hz1, hz2⟩ := info_parts infoFile
        have hnw := heap_alloc_new w3 (.cells #[.string ⟨q.1.toArray⟩, .slice da q.2.length dc] 56)
        have Hnw := Lib.hid hnw
        have hszw := hB3.size
        clear hnw hrd hfs hB3 Hsn
        go_wp2_with (at_builtin; refine wpList_append_own _ rfl _ _ 22 rfl w.heap.size 56 i0 _ 2 40 Tryz.underlying22 hi0 hz0 hz1 hz2 rfl (by decide) _ _ _ rfl (hvs.alloc _) ⟨w3.heap.size, 0, none⟩ 1 1 [.string ⟨q.1.toArray⟩, .slice da q.2.length dc] rfl rfl ?c1 ?c2 ?c3 ?c4 ?c5 ?_)
        case c1 => exact World.news_of_block (cs := #[.string ⟨q.1.toArray⟩, .slice da q.2.length dc]) (t := 56) (fr := (0, 0)) Hnw.out
        case c2 => simp [Value.oneCell']
        case c3 => unfold maxLen; omega
        case c4 => omega
        case c5 => simp; omega
        intro v' w4 hown' hgrow _
        have HR := Lib.hid (own_round HB3.out Hvs.out Hfs.out HRw3.out hgrow hown')
        clear hown' hgrow hvs
        go_wp2_with fail
        go_roundw
        case rel => exact ⟨k + 1, hlt, by go_num, Lib.hid (by rw [HS2.out]; exact HR.out)⟩
        case measure => simp [intOf]; omega
      · have b3 : (rd == dir) = false := by simpa using he
        have HS2 : Hid (ownT dir (t.take (k + 1)) = ownT dir (t.take k)) := Lib.hid (by rw [Hsn.out, if_neg (by rw [b3]; simp)])
        clear he hrd c0' c1'
        go_wp2_with fail
        go_roundw
        case rel => exact ⟨k + 1, hlt, by go_num, Lib.hid (by rw [HS2.out]; exact H3.out)⟩
        case measure => simp [intOf]; omega
    · obtain rfl : k = t.length := by omega
      obtain ⟨hB, vs, hvs, hfs⟩ := hrel.out
      rw [List.take_length] at hvs hfs
      have HF : Hid (FilesIn wr B u5 (ownT dir t)) := Lib.hid ⟨vs, row_mono hvs hBw, hfs⟩
      have HB := Lib.hid hB
      clear hvs hfs hB
      go_wp2_with fail
      go_ret
      exact ⟨_, rfl, HF.out, HB.out⟩
end Go.Proofs.YtccloieikkdcoaaGreatDoor
