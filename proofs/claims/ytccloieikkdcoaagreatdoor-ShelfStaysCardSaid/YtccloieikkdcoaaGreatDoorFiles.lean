/-
  Files: all files, by rising paths, in new memory.
-/
import Derived.Test.YtccloieikkdcoaaGreatDoorSorted
import Derived.Test.YtccloieikkdcoaaGreatDoorOf
namespace Go.Proofs.YtccloieikkdcoaaGreatDoor
open Go Go.RowKit Go.Maps Go.Sort Go.Shelf

/-- The cells of a row of files: each a path and its bytes. -/
def FsIn (w : World) (B : Nat) : List Value → Tb → Prop
  | [], [] => True
  | p :: v :: vs, q :: t => p = S q.1 ∧ RowIn w B v q.2 ∧ FsIn w B vs t
  | _, _ => False

theorem FsIn.imp {w w' : World} {B : Nat} (hr : ∀ v b, RowIn w B v b → RowIn w' B v b) : ∀ {vs t}, FsIn w B vs t → FsIn w' B vs t
  | [], [], _ => trivial
  | _ :: _ :: _, _ :: _, ⟨h1, h2, h3⟩ => ⟨h1, hr _ _ h2, FsIn.imp hr h3⟩
  | [], _ :: _, h => h.elim
  | [_], t, h => by cases t <;> exact h.elim
  | _ :: _ :: _, [], h => h.elim

theorem FsIn.snoc {w : World} {B : Nat} {v : Value} {q : By × By} (hv : RowIn w B v q.2) : ∀ {vs t}, FsIn w B vs t → FsIn w B (vs ++ [S q.1, v]) (t ++ [q])
  | [], [], _ => ⟨rfl, hv, trivial⟩
  | _ :: _ :: _, _ :: _, ⟨h1, h2, h3⟩ => ⟨h1, h2, FsIn.snoc hv h3⟩
  | [], _ :: _, h => h.elim
  | [_], t, h => by cases t <;> exact h.elim
  | _ :: _ :: _, [], h => h.elim

theorem FsIn.at {w : World} {B : Nat} : ∀ {vs t} (_ : FsIn w B vs t) (i : Nat) (q : By × By), t[i]? = some q → ∃ v, vs[i * 2]? = some (S q.1) ∧ vs[i * 2 + 1]? = some v ∧ RowIn w B v q.2
  | d :: pv :: vs, b :: l, ⟨h1, h2, h3⟩, 0, a, hi => by
    simp at hi; subst hi
    exact ⟨pv, by simp [h1], by simp, h2⟩
  | d :: pv :: vs, b :: l, ⟨_, _, h3⟩, i + 1, a, hi => by
    obtain ⟨pv', r1, r2, r3⟩ := FsIn.at h3 i a (by simpa using hi)
    refine ⟨pv', ?_, ?_, r3⟩
    · rw [show (i + 1) * 2 = i * 2 + 1 + 1 from by omega]; simpa using r1
    · rw [show (i + 1) * 2 + 1 = i * 2 + 1 + 1 + 1 from by omega]; simpa using r2
  | [], [], _, _, _, hi => by simp at hi
  | [], _ :: _, h, _, _, _ => h.elim
  | [_], l, h, _, _, _ => by cases l <;> exact h.elim
  | _ :: _ :: _, [], h, _, _, _ => h.elim

/-- The slice value v is the files t, in memory from block B on. -/
def FilesIn (w : World) (B : Nat) (v : Value) (t : Tb) : Prop := ∃ vs, w.ownsRow B 56 2 v t.length vs ∧ FsIn w B vs t

theorem RowIn.grown {w w' : World} {B : Nat} {v : Value} {b : By} {row : Option Nat} (h : RowIn w B v b) (hg : w.grownBy w' row) (hr : ∀ r, row = some r → ∀ cur fz, w.heap[r]? ≠ some (Obj.cells cur 5 fz)) : RowIn w' B v b := by
  refine ⟨h.1, ?_⟩
  rcases h.2 with r | ⟨g, cap, cur, e, hb, hc, r⟩
  · exact .inl r
  · refine .inr ⟨g, cap, cur, e, hb, ?_, r⟩
    rw [hg.block g (lt_of_block hc) (fun e => hr g e.symm _ _ hc)]
    exact hc

theorem FilesIn.keep {w w' : World} {B b' : Nat} {v : Value} {t : Tb} (h : FilesIn w B v t) (k : K b' w w') : FilesIn w' B v t := by
  obtain ⟨vs, h1, h2⟩ := h
  refine ⟨vs, ⟨h1.1, ?_⟩, h2.imp fun _ _ h => h.keep k⟩
  rcases h1.2 with r | ⟨g, cap, cur, e, hb, hc, r⟩
  · exact .inl r
  · exact .inr ⟨g, cap, cur, e, hb, k.const _ _ _ _ hc rfl, r⟩

theorem FilesIn.slice {w : World} {B : Nat} {v : Value} {t : Tb} (h : FilesIn w B v t) : ∃ a c, v = .slice a t.length c := by
  obtain ⟨vs, hv, _⟩ := h
  rcases hv.2 with ⟨rfl, h0⟩ | ⟨g, cap, cur, rfl, _⟩
  · exact ⟨none, 0, by rw [h0]⟩
  · exact ⟨_, _, rfl⟩

theorem infoFile : (Tryz.prog.info? 56).map (fun i => (i.zero, i.size, i.bytes)) = some (some (.agg #[.string ⟨#[]⟩, .slice none 0 0]), 2, 40) := by kernel_rfl

/-- 'm[p]' of a path that is there. -/
theorem TabIn.look1 {w : World} {base m : Nat} {t : Tb} (h : TabIn w base m t) {p b : By} (hp : p.length ≤ maxLen) (hb : tget p t = some b) :
    ∃ a c, RowIn w base (.slice a b.length c) b ∧ (Instr.lookup 60 (.map (some m)) (.string ⟨p.toArray⟩) false).run Tryz.prog w = .ok (.slice a b.length c) w := by
  obtain ⟨_, hr, es, hown, he⟩ := h
  obtain ⟨v, ps, hrun, hv⟩ := hown.lookup law9 Tryz.underlying60 (zeroBytes w) (zd := .held (.slice none 0 0)) (zp := []) rfl (keyOf_S hp)
  rcases tab_at he p (.held (.slice none 0 0)) with ⟨h1, _⟩ | ⟨b', v', h1, _, h3, h4⟩
  · rw [hb] at h1; cases h1
  · rw [hb] at h1; cases h1
    rw [h3] at hv
    obtain ⟨⟨a, n, c, rfl⟩, e⟩ := heldR_inv hv
    cases e
    obtain ⟨a', c', e⟩ := h4.shape
    cases e
    exact ⟨_, _, h4, hrun⟩

/-- The paths of all files are no longer than may be. -/
theorem tab_keys {w : World} {base m : Nat} {t : Tb} (h : TabIn w base m t) : ∀ q ∈ t, q.1.length ≤ maxLen := by
  obtain ⟨_, hr, es, hown, he⟩ := h
  obtain ⟨es', e, hk⟩ := hown.keysOf
  cases e
  intro q hq
  have hkeys : ∀ {es t}, EntsOk (RowIn w base) es t → ∀ q ∈ t, ∃ x ∈ es, x.1 = .string q.1 := by
    intro es
    induction es with
    | nil => intro t he q hq; cases t with | nil => cases hq | cons _ _ => exact he.elim
    | cons x es ih =>
      intro t he q hq
      cases t with
      | nil => cases hq
      | cons q0 t =>
        rcases List.mem_cons.1 hq with rfl | hq
        · exact ⟨x, by simp, he.1⟩
        · obtain ⟨x', hx', e⟩ := ih he.2.2 q hq
          exact ⟨x', by simp [hx'], e⟩
  obtain ⟨x, hx, e⟩ := hkeys he q hq
  obtain ⟨key, hkk⟩ := hk x hx
  obtain ⟨b, _, e2, hl⟩ := Maps.keyOf_str Tryz.underlying9 hkk
  rw [e] at e2
  cases e2
  exact hl

/-- What Files comes to. -/
def FilesPost (t : Tb) (w : World) (e : Ending) (w' : World) : Prop := ∃ v, e = .returned v ∧ FilesIn w' w.heap.size v t ∧ Below w.heap.size w w'

/-- The loop of Files, between two rounds: k files are in l. -/
def FilesRel (w0 : World) (w2 : World) (sb : Nat) (t : Tb) (k : Nat) (l : Value) (wr : World) : Prop :=
  Below w0.heap.size w0 wr ∧ w2.heap.size ≤ wr.heap.size ∧ (∀ cur fz, w2.heap[sb]? = some (Obj.cells cur 9 fz) → wr.heap[sb]? = w2.heap[sb]?) ∧ FilesIn wr w0.heap.size l (t.take k)

/-- A round of Files. -/
theorem files_round {w0 w2 wr w3 w4 : World} {sb k : Nat} {t : Tb} {l l' cv : Value} {q : By × By} {vs : List Value} {o : Obj} (hr : FilesRel w0 w2 sb t k l wr) (hq : t[k]? = some q) (hsl : sb < w2.heap.size)
    (hvs : wr.ownsRow w0.heap.size 56 2 l (t.take k).length vs) (hfs : FsIn wr w0.heap.size vs (t.take k))
    (hB3 : Below wr.heap.size wr w3) (hcv : RowIn w3 wr.heap.size cv q.2) (hg : (w3.alloc o).grownBy w4 l.ownBlock) (hown : w4.ownsRow w0.heap.size 56 2 l' ((t.take k).length + 1) (vs ++ [S q.1, cv])) :
    FilesRel w0 w2 sb t (k + 1) l' w4 := by
  obtain ⟨h1, h2, h3, h4⟩ := hr
  have hrow : ∀ r, l.ownBlock = some r → w0.heap.size ≤ r ∧ ∃ cur, wr.heap[r]? = some (Obj.cells cur 56 (0, 0)) := fun r hr => by
    rcases hvs.2 with ⟨e, _⟩ | ⟨g, _, cur, e, hb, hc, _⟩
    · rw [e] at hr; cases hr
    · rw [e] at hr; cases hr; exact ⟨hb, cur, hc⟩
  have hB3o : Below wr.heap.size wr (w3.alloc o) := below_two hB3 (below_alloc w3 o)
  have hrow4 : ∀ r, l.ownBlock = some r → ∀ cur fz, (w3.alloc o).heap[r]? ≠ some (Obj.cells cur 5 fz) := fun r hr cur fz e => by
    obtain ⟨_, cur', hc⟩ := hrow r hr
    rw [hB3o.block r (lt_of_block hc), hc] at e
    cases e
  have hold : ∀ i, i < wr.heap.size → l.ownBlock ≠ some i → w4.heap[i]? = wr.heap[i]? := fun i hi hl => by
    rw [hg.block i (by have := hB3o.size; omega) (fun e => hl e.symm), hB3o.block i hi]
  have hrows : ∀ v b, RowIn wr w0.heap.size v b → RowIn w4 w0.heap.size v b := fun v b hv =>
    (hv.keep (K.of_new (base := 0) hB3o (Nat.zero_le _))).grown hg hrow4
  have hsz : wr.heap.size ≤ w4.heap.size := Nat.le_trans hB3o.size hg.size
  refine ⟨⟨hg.os.trans (hB3o.os.trans h1.os), hg.tape.trans (hB3o.tape.trans h1.tape), hg.output.trans (hB3o.output.trans h1.output), Nat.le_trans h1.size hsz, fun i hi => ?_⟩, Nat.le_trans h2 hsz, fun cur fz hc => ?_, ?_⟩
  · rw [hold i (by have := h1.size; omega) (fun e => by have := (hrow i e).1; omega)]; exact h1.block i hi
  · have := h3 cur fz hc
    rw [hold sb (by omega) (fun e => by obtain ⟨_, cur', hc'⟩ := hrow sb e; rw [this, hc] at hc'; cases hc'), this]
  · have et : t.take (k + 1) = t.take k ++ [q] := take_snoc hq
    refine ⟨vs ++ [S q.1, cv], ?_, ?_⟩
    · rw [et, List.length_append]; exact hown
    · rw [et]
      refine FsIn.snoc ?_ (hfs.imp hrows)
      have hcv1 : RowIn w3 w0.heap.size cv q.2 := hcv.mono h1.size
      exact (hcv1.keep (K.of_new (base := 0) (below_alloc w3 o) (Nat.zero_le _))).grown hg hrow4

set_option maxHeartbeats 8000000 in
set_option maxRecDepth 100000 in
theorem Files_any {w : World} {base s f y k0 : Nat} {lv : Value} {st : St} (h : Ok w base s f y lv st) (hbd : Bd st k0) :
    Calls Tryz.prog 31 #[.pointer (some ⟨s, 0, none⟩)] w (FilesPost st.files w) := by
  have c0 := h.c0
  have hlen := h.files.len 3
  have hn : st.files.length ≤ 1000000 := by have := hbd.files; have := hbd.lim; omega
  obtain ⟨i0, hi0, hz0, hz1, hz2⟩ := info_parts infoFile
  have Hk := Lib.hid h
  clear h
  go_enter Tryz.func31, Tryz.ntmps31
  go_wp2_with (refine wpList_make_own _ rfl _ _ 22 rfl w.heap.size 56 i0 _ 2 Tryz.underlying22 hi0 hz0 hz1 .i64 .i64 _ st.files.length rfl rfl rfl ?c1 ?c2 ?c3 ?_)
  case c1 => rw [hz2]; omega
  case c2 => unfold maxLen; omega
  case c3 => exact Nat.le_refl _
  intro w1 hl0 hg1
  have hB1 : Below w.heap.size w w1 := (Below.refl _ _).grown hg1 (Nat.le_refl _) (fun k hk => by cases hk)
  have hk1 := Hk.out.keep hB1
  have c01 := hk1.c0
  have Hs := Lib.hid (sorted_any hk1.files hn)
  clear hk1
  go_wp2_with fail
  refine (keys_any (some f) w1).mono ?_
  rintro e w1' ⟨rfl, rfl⟩
  go_wp2_with fail
  refine Hs.out.mono ?_
  rintro e w2 ⟨v, rfl, hrow2, hB2⟩
  have hB12 : Below w.heap.size w w2 := below_two hB1 (below_two (below_alloc w1 _) hB2)
  have hl2 : w2.ownsRow w.heap.size 56 2 (.slice (some ⟨w.heap.size, 0, none⟩) 0 st.files.length) 0 [] :=
    ((hl0.alloc (.cells #[.map (some f)] 60)).kept (row := none) ⟨hB2.os, hB2.tape, hB2.output, hB2.size, fun k hk _ => hB2.block k hk⟩ (.inr (by simp [Value.ownBlock])))
  obtain ⟨av, cv, rfl⟩ : ∃ av cv, v = .slice av st.files.length cv := by
    rcases hrow2.2 with ⟨r, r0⟩ | ⟨gg, cap, cur, r, _⟩
    · exact ⟨none, 0, by rw [r, r0]⟩
    · exact ⟨_, _, r⟩
  have Hrow := Lib.hid hrow2; have Hl2 := Lib.hid hl2
  clear hrow2 hl2 hl0 hg1
  go_wp2_with fail
  have hsbv : ∃ sb, st.files.length = 0 ∨ (av = some ⟨sb, 0, none⟩ ∧ sb < w2.heap.size ∧ ∃ cur, w2.heap[sb]? = some (Obj.cells cur 9 (0, 0))) := by
    rcases Hrow.out.2 with ⟨r, r0⟩ | ⟨gg, cap, cur, r, _, hc, _⟩
    · exact ⟨0, .inl r0⟩
    · cases r; exact ⟨gg, .inr ⟨rfl, lt_of_block hc, cur, hc⟩⟩
  obtain ⟨sb, hsb⟩ := hsbv
  have Hsb := Lib.hid hsb; clear hsb
  go_loopw [3, 19] (fun l i wr => ∃ k : Nat, k ≤ st.files.length ∧ i = .int .i64 k ∧ FilesRel w w2 sb st.files k l wr) (fun _ i _ => st.files.length - (intOf i).toNat)
  case atStart =>
    refine ⟨0, Nat.zero_le _, rfl, hB12, Nat.le_refl _, fun _ _ _ => rfl, [], Hl2.out, trivial⟩
  case round =>
    obtain ⟨k, hk, rfl, hrel⟩ := hrel
    have Hrel := Lib.hid hrel
    obtain ⟨hBr, hszr, hsbr, vs, hvs, hfs⟩ := hrel
    by_cases hlt : k < st.files.length
    · obtain ⟨rfl, hsbl, cur, hcur⟩ := Hsb.out.resolve_left (by omega)
      obtain ⟨q, hq⟩ : ∃ q, st.files[k]? = some q := ⟨_, List.getElem?_eq_getElem hlt⟩
      have x0 : wr.cell? ⟨sb, k, none⟩ = some (S q.1) := by
        have := World.ownsRow.cells Hrow.out (g := sb) rfl k (S q.1) (by simp [hq])
        rw [show (⟨sb, 0, none⟩ : Addr).add k = ⟨sb, k, none⟩ by unfold Addr.add; split <;> simp_all] at this
        rw [World.cell?_of_block (w := w2) (a := ⟨sb, k, none⟩) (hsbr _ _ hcur)]; exact this
      have hkr := Hk.out.keep hBr
      have c0r := hkr.c0
      have hqm := List.mem_of_getElem? hq
      obtain ⟨qa, qc, hqrow, hlook⟩ := hkr.files.look1 (tab_keys hkr.files q hqm) (tget_of_mem hkr.files.2.1 hqm)
      have Hcl := Lib.hid (clone_any hqrow.bytes (by have := hbd.small q hqm; omega))
      have Hsbl := Lib.hid hsbl; have Hq := Lib.hid hq; have Hvs := Lib.hid hvs; have Hfs := Lib.hid hfs
      have Hlook := Lib.hid hlook
      obtain ⟨al, nl, cl, rfl⟩ : ∃ al nl cl, u3 = .slice al nl cl := by
        rcases hvs.2 with ⟨r, _⟩ | ⟨gg, cap, cur, r, _⟩
        · exact ⟨_, _, _, r⟩
        · exact ⟨_, _, _, r⟩
      clear hq hvs hfs hqrow hkr hsbr hcur hsbl hqm
      unfold S at x0
      go_wp2_with fail
      refine Hcl.out.mono ?_
      rintro e w3 ⟨cv', rfl, hcv, hB3⟩
      obtain ⟨ac, cc, rfl⟩ := hcv.shape
      have hvs3 : w3.ownsRow w.heap.size 56 2 (.slice al nl cl) (st.files.take k).length vs := Hvs.out.kept (row := none) ⟨hB3.os, hB3.tape, hB3.output, hB3.size, fun k hk _ => hB3.block k hk⟩ (Classical.em _)
      obtain ⟨i0, hi0, hz0, hz1, hz2⟩ := info_parts infoFile
      have hnw := heap_alloc_new w3 (.cells #[.string ⟨q.1.toArray⟩, .slice ac q.2.length cc] 56)
      have Hnw := Lib.hid hnw; clear hnw
      have Hcv := Lib.hid hcv; clear hcv
      have htk := List.length_take_le k st.files
      have hsz3 := hB3.size
      have hszw := hBr.size
      go_wp2_with (at_builtin; refine wpList_append_own _ rfl _ _ 22 rfl w.heap.size 56 i0 _ 2 40 Tryz.underlying22 hi0 hz0 hz1 hz2 rfl (by decide) _ _ _ rfl (hvs3.alloc _) ⟨w3.heap.size, 0, none⟩ 1 1 [.string ⟨q.1.toArray⟩, .slice ac q.2.length cc] rfl rfl ?c1 ?c2 ?c3 ?c4 ?c5 ?_)
      case c1 => exact World.news_of_block (cs := #[.string ⟨q.1.toArray⟩, .slice ac q.2.length cc]) (t := 56) (fr := (0, 0)) Hnw.out
      case c2 => simp [Value.oneCell']
      case c3 => unfold maxLen; omega
      case c4 => omega
      case c5 => simp; omega
      intro v' w4 hown' hgrow _
      have R := files_round Hrel.out Hq.out Hsbl.out Hvs.out Hfs.out hB3 Hcv.out hgrow (by rw [show (st.files.take k).length = k by rw [List.length_take]; omega]; exact hown')
      have HR := Lib.hid R
      clear R hown' hgrow hvs3 hB3 hBr
      go_wp2_with fail
      go_roundw
      case rel => exact ⟨k + 1, by omega, by go_num, HR.out⟩
      case measure => simp [intOf]; omega
    · obtain rfl : k = st.files.length := by omega
      go_wp2_with fail
      go_ret
      rw [List.take_length] at hvs hfs
      exact ⟨u3, rfl, ⟨vs, hvs, hfs⟩, hBr⟩
end Go.Proofs.YtccloieikkdcoaaGreatDoor
