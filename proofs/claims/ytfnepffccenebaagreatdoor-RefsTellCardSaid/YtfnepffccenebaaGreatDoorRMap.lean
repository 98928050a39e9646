/-
  Refs in a map by their names.
-/
import Derived.Test.YtfnepffccenebaaGreatDoorRMem
import Derived.Maps.Range
import Derived.StringKeys
namespace Go.Proofs.YtfnepffccenebaaGreatDoor.Rf
open Go.Proofs.YtfnepffccenebaaGreatDoor
open Go Go.RowKit Go.Maps

def refV (r : Ref) : Value := .agg #[SV r.name, SV r.id]
theorem refV_inj {a b : Ref} (h : refV a = refV b) : a = b := by
  unfold refV SV at h
  simp at h
  exact Ref.ext' h.1 h.2
/-- What a map of refs tells of a name. -/
def fOf (l : List Ref) (x : Bs) : Option Value := (l.find? fun r => r.name == x).map refV
theorem fOf_some {l : List Ref} (h : l.Pairwise fun a b => a.name < b.name) {x : Bs} {v : Value} : fOf l x = some v ↔ ∃ r ∈ l, r.name = x ∧ v = refV r := by
  unfold fOf
  constructor
  · intro e
    cases hf : l.find? (fun r => r.name == x) with
    | none => rw [hf] at e; cases e
    | some r =>
      rw [hf] at e
      have h2 := List.find?_some hf
      simp at h2
      exact ⟨r, List.mem_of_find?_eq_some hf, h2, (Option.some.inj e).symm⟩
  · rintro ⟨r, hr, rfl, rfl⟩
    cases hf : l.find? (fun y => y.name == r.name) with
    | none => have := List.find?_eq_none.1 hf r hr; simp at this
    | some y =>
      have h2 := List.find?_some hf
      simp at h2
      rw [rise_inj h (List.mem_of_find?_eq_some hf) hr h2]; rfl
theorem fOf_none {l : List Ref} {x : Bs} : fOf l x = none ↔ ∀ r ∈ l, r.name ≠ x := by
  unfold fOf
  rw [Option.map_eq_none_iff, List.find?_eq_none]
  exact ⟨fun h r hr e => h r hr (by simpa using e), fun h r hr e => h r hr (by simpa using e)⟩
theorem fOf_ext {l : List Ref} {g : Bs → Option Value} (h : ∀ x v, g x = some v ↔ fOf l x = some v) : g = fOf l := by
  funext x
  cases hx : fOf l x with
  | none =>
    cases hg : g x with
    | none => rfl
    | some v => rw [(h x v).1 hg] at hx; cases hx
  | some v => exact (h x v).2 hx
theorem fOf_putW {l : List Ref} (h : l.Pairwise fun a b => a.name < b.name) (r : Ref) : updF (fOf l) r.name (refV r) = fOf (putW r l) := by
  refine fOf_ext fun x v => ?_
  rw [fOf_some (rise_putW h)]
  unfold updF
  by_cases e : x = r.name
  · rw [if_pos e]
    constructor
    · intro hv
      exact ⟨r, (mem_putW h).2 (.inl rfl), e.symm, (Option.some.inj hv).symm⟩
    · rintro ⟨y, hy, h1, rfl⟩
      rcases (mem_putW h).1 hy with rfl | ⟨_, h2⟩
      · rfl
      · exact absurd (h1.trans e) h2
  · rw [if_neg e, fOf_some h]
    constructor
    · rintro ⟨y, hy, h1, h2⟩
      exact ⟨y, (mem_putW h).2 (.inr ⟨hy, fun e' => e (h1.symm.trans e')⟩), h1, h2⟩
    · rintro ⟨y, hy, h1, h2⟩
      rcases (mem_putW h).1 hy with rfl | ⟨h3, _⟩
      · exact absurd h1.symm e
      · exact ⟨y, h3, h1, h2⟩
/-- Block b of w is a map that holds refs l. -/
def MapL (w : World) (b n : Nat) (l : List Ref) : Prop := MapS w b n (fOf l)
theorem MapL.but {w w' : World} {b n : Nat} {l : List Ref} {S : Nat → Prop} (h : MapL w b n l) (hb : But S w w') (hn : ¬ S b) : MapL w' b n l := MapS.but h hb hn
theorem MapL.below {w w' : World} {b n B : Nat} {l : List Ref} (h : MapL w b n l) (hb : Below B w w') (hlt : b < B) : MapL w' b n l := MapS.below h hb hlt
theorem MapL.lt {w : World} {b n : Nat} {l : List Ref} (h : MapL w b n l) : b < w.heap.size := MapS.lt h
theorem MapL.made (w : World) : MapL (w.alloc (.map #[] 0)) w.heap.size 0 [] := MapS.made w
theorem mapTy : Tryz.prog.underlying 52 = some (.map 9 45) := Tryz.underlying52
theorem MapL.put {w : World} {b n : Nat} {l : List Ref} (h : MapL w b n l) (hl : l.Pairwise fun a b => a.name < b.name) (hn : n < maxLen) (r : Ref) (hx : r.name.length ≤ maxLen) :
    ∃ w', (Instr.mapUpdate 52 (.map (some b)) (.string ⟨r.name.toArray⟩) (refV r)).run Tryz.prog w = .ok () w' ∧ MapL w' b (n + 1) (putW r l) ∧ w.grownBy w' (some b) := by
  obtain ⟨w', h1, h2, h3⟩ := MapS.put h mapTy hn hx (refV r)
  exact ⟨w', h1, by unfold MapL; rw [← fOf_putW hl]; exact h2, h3⟩
theorem MapL.del {w : World} {b n : Nat} {l : List Ref} (h : MapL w b n l) (hl : l.Pairwise fun a b => a.name < b.name) (x : Bs) (hx : x.length ≤ maxLen) (ty : TypeId) :
    ∃ w', (Builtin.delete_ #[52, 9] ty #[.map (some b), .string ⟨x.toArray⟩]).run Tryz.prog w = .ok (.tuple #[]) w' ∧ MapL w' b n (l.filter fun r => !(r.name == x)) ∧ w.grownBy w' (some b) := by
  obtain ⟨D, hown, hm, hf⟩ := h
  obtain ⟨w', hrun, hown', ht⟩ := hown.drop lawS mapTy (keyOfS hx) ty
  refine ⟨w', hrun, ⟨_, hown', hown'.isMap, fun y => ⟨fun hy => ?_, fun u hy z => ?_⟩⟩, ht.grown⟩
  · by_cases e : y = x
    · subst e; exact has_del_same
    · rw [has_del_other (fun e' => e (by cases e'; rfl))]
      refine (hf y).1 (fOf_none.2 fun r hr hre => fOf_none.1 hy r (List.mem_filter.2 ⟨hr, ?_⟩) hre)
      rw [hre]; simpa using e
  · obtain ⟨r, hr, h1, rfl⟩ := (fOf_some (hl.filter _)).1 hy
    obtain ⟨h2, h3⟩ := List.mem_filter.1 hr
    have e : y ≠ x := fun e => by rw [h1, e] at h3; simp at h3
    rw [atKey_del_other (fun e' => e (by cases e'; rfl))]
    exact (hf y).2 _ ((fOf_some hl).2 ⟨r, h2, h1, rfl⟩) z
/-- Entries of a map by texts: their keys are texts. -/
theorem keys_str {w : World} {b n : Nat} {D : DataW Value} (h : w.ownsMap Tryz.prog 9 anyR b n D) : ∃ es : List (Lit × DataW Value), D = .map es ∧ es.Pairwise (fun p q => p.1 ≠ q.1) ∧ ∀ p ∈ es, ∃ x : Bs, p.1 = .string x := by
  obtain ⟨es, hD, hp, _⟩ := h.entries lawS
  refine ⟨es, hD, hp, fun p hp => ?_⟩
  obtain ⟨es0, clock, hb, F, _, hD2⟩ := h
  rw [hD] at hD2
  injection hD2 with hD3
  rw [hD3] at hp
  obtain ⟨x, hx, rfl⟩ := List.mem_map.1 (mem_sorted.1 hp)
  obtain ⟨y, hy⟩ := F.reads x hx
  rw [Go.WideElems.rg_of hy]
  obtain ⟨s, _, h2, _⟩ := Go.WideMaps.string_of_keyOf Tryz.underlying9 (Go.WideElems.rd_key hy)
  exact ⟨s.data.toList, h2⟩
theorem len_le {α : Type} [DecidableEq α] : ∀ {l m : List α}, l.Nodup → (∀ x ∈ l, x ∈ m) → l.length ≤ m.length
  | [], _, _, _ => Nat.zero_le _
  | x :: l, m, hn, hs => by
    have hn' := List.nodup_cons.1 hn
    have hx := hs x List.mem_cons_self
    have ih := len_le (l := l) (m := m.erase x) hn'.2 fun y hy => (List.mem_erase_of_ne (fun e => hn'.1 (by rw [← e]; exact hy))).2 (hs y (List.mem_cons_of_mem _ hy))
    rw [List.length_erase_of_mem hx] at ih
    have : 0 < m.length := List.length_pos_of_mem hx
    simp; omega
theorem sameKey_iff {x y : Bs} : (Lit.string x).sameKey (Lit.string y) = true ↔ x = y := by
  constructor
  · intro h; have := WideAt.sameKey_eq h; injection this
  · rintro rfl; exact WideAt.sameKey_self trivial
theorem has_iff {es : List (Lit × DataW Value)} {x : Bs} : has (.map es) (.string x) = true ↔ ∃ p ∈ es, p.1 = .string x := by
  rw [has_eq, List.any_eq_true]
  constructor
  · rintro ⟨p, hp, h⟩; exact ⟨p, hp, WideAt.sameKey_eq h⟩
  · rintro ⟨p, hp, h⟩; exact ⟨p, hp, by rw [h]; exact WideAt.sameKey_self trivial⟩
theorem MapL.hasB {l : List Ref} {D : DataW Value} (hf : ∀ x, (fOf l x = none → has D (.string x) = false) ∧ ∀ v, fOf l x = some v → ∀ z, D.atKey (.string x) z = .held v) (x : Bs) : has D (.string x) = true ↔ ∃ r ∈ l, r.name = x := by
  cases hx : fOf l x with
  | none =>
    rw [(hf x).1 hx]
    refine ⟨(fun h => by cases h), fun ⟨r, hr, e⟩ => absurd e (fOf_none.1 hx r hr)⟩
  | some v =>
    rw [has_true_of_atKey ((hf x).2 v hx)]
    refine ⟨fun _ => ?_, fun _ => rfl⟩
    refine Classical.byContradiction fun hn => ?_
    have := fOf_none.2 fun r hr e => hn ⟨r, hr, e⟩
    rw [this] at hx; cases hx
theorem rise_nodup {l : List Ref} (h : l.Pairwise fun a b => a.name < b.name) : (l.map (·.name)).Nodup := by
  unfold List.Nodup
  rw [List.pairwise_map]
  exact h.imp fun {a b} hab (e : a.name = b.name) => lt_irr b.name (by rw [e] at hab; exact hab)
theorem MapL.size {w : World} {b n : Nat} {l : List Ref} (hl : l.Pairwise fun a b => a.name < b.name) {D : DataW Value} (hown : w.ownsMap Tryz.prog 9 anyR b n D) (hf : ∀ x, (fOf l x = none → has D (.string x) = false) ∧ ∀ v, fOf l x = some v → ∀ z, D.atKey (.string x) z = .held v) : Maps.size D = l.length := by
  obtain ⟨es, rfl, hp, hk⟩ := keys_str hown
  have hB := MapL.hasB hf
  show es.length = l.length
  obtain ⟨ks, hks⟩ : ∃ ks : List Bs, es.map Prod.fst = ks.map Lit.string := by
    clear hp hf hB hown
    induction es with
    | nil => exact ⟨[], rfl⟩
    | cons p es ih =>
      obtain ⟨x, hx⟩ := hk p List.mem_cons_self
      obtain ⟨ks, h⟩ := ih fun q hq => hk q (List.mem_cons_of_mem _ hq)
      exact ⟨x :: ks, by rw [List.map_cons, h, hx]; rfl⟩
  have hlen : es.length = ks.length := by have := congrArg List.length hks; simpa using this
  have hnd : ks.Nodup := by
    have h1 : (es.map Prod.fst).Pairwise (· ≠ ·) := List.pairwise_map.2 hp
    rw [hks, List.pairwise_map] at h1
    exact h1.imp fun {a b} hab e => hab (by rw [e])
  have hmem : ∀ x, x ∈ ks ↔ x ∈ l.map (·.name) := fun x => by
    have h1 : x ∈ ks ↔ Lit.string x ∈ es.map Prod.fst := by
      rw [hks]
      constructor
      · exact fun h => List.mem_map.2 ⟨x, h, rfl⟩
      · intro h
        obtain ⟨y, hy, e⟩ := List.mem_map.1 h
        injection e with e; rw [← e]; exact hy
    rw [h1, List.mem_map, List.mem_map, ← hB x, has_iff]
  have h1 := len_le hnd fun x hx => (hmem x).1 hx
  have h2 := len_le (rise_nodup hl) fun x hx => (hmem x).2 hx
  simp at h1 h2
  omega
theorem MapL.len {w : World} {b n : Nat} {l : List Ref} (h : MapL w b n l) (hl : l.Pairwise fun a b => a.name < b.name) (ty : TypeId) : (Builtin.len_ #[52] ty #[.map (some b)]).run Tryz.prog w = .ok (.int .i64 (l.length : Int)) w := by
  obtain ⟨D, hown, hm, hf⟩ := h
  rw [hown.len mapTy ty, MapL.size hl hown hf]

/-! ### A range over it -/
/-- A range over the map at b is under way, its state at r: what it has come to is vis. -/
def MapGo (w : World) (b r n : Nat) (l vis : List Ref) (cnt : Nat) : Prop :=
  ∃ D left, w.ranges (H := Value) Tryz.prog 9 anyR b r n D left cnt ∧ (∀ x, (fOf l x = none → has D (.string x) = false) ∧ ∀ v, fOf l x = some v → ∀ z, D.atKey (.string x) z = .held v) ∧
    (∀ x : Bs, left (.string x) = true ↔ ∃ y ∈ l, y.name = x ∧ y ∉ vis) ∧ vis.Nodup ∧ ∀ y ∈ vis, y ∈ l
theorem MapGo.map {w : World} {b r n cnt : Nat} {l vis : List Ref} (h : MapGo w b r n l vis cnt) : MapL w b n l := by
  obtain ⟨D, left, h1, h2, _⟩ := h
  exact ⟨D, h1.owns, h1.owns.isMap, h2⟩
theorem MapL.range {w : World} {b n : Nat} {l : List Ref} (h : MapL w b n l) :
    ∃ w' cnt, (Instr.range 52 (.map (some b))).run Tryz.prog w = .ok (.pointer (some ⟨w.heap.size, 0, none⟩)) w' ∧ MapGo w' b w.heap.size n l [] cnt ∧ w.grownBy w' none ∧ w'.heap.size = w.heap.size + 1 := by
  obtain ⟨D, hown, hm, hf⟩ := h
  obtain ⟨w', h1, h2, h3, h4⟩ := hown.range lawS mapTy
  exact ⟨w', _, h1, ⟨D, _, h2, hf, fun x => by rw [MapL.hasB hf x]; simp, List.nodup_nil, fun y hy => by cases hy⟩, h3, h4⟩
theorem MapGo.left {w : World} {b r n cnt : Nat} {l vis : List Ref} (h : MapGo w b r n l vis cnt) : w.rangeLeft b r = cnt := by
  obtain ⟨D, left, h1, _⟩ := h; exact h1.left_eq
theorem MapGo.kept {w w' : World} {b r n cnt : Nat} {l vis : List Ref} {row : Option Nat} (h : MapGo w b r n l vis cnt) (hg : w.grownBy w' row) (hb : some b ≠ row) (hr : some r ≠ row) : MapGo w' b r n l vis cnt := by
  obtain ⟨D, left, h1, h2⟩ := h; exact ⟨D, left, h1.kept hg hb hr, h2⟩
theorem grown_below {w w' : World} (h : Below w.heap.size w w') : w.grownBy w' none := ⟨h.os, h.tape, h.output, h.size, fun i hi _ => h.block i hi⟩
theorem MapGo.below {w w' : World} {b r n cnt : Nat} {l vis : List Ref} (h : MapGo w b r n l vis cnt) (hg : Below w.heap.size w w') : MapGo w' b r n l vis cnt := h.kept (grown_below hg) (by simp) (by simp)
theorem MapGo.lt {w : World} {b r n cnt : Nat} {l vis : List Ref} (h : MapGo w b r n l vis cnt) : b < w.heap.size ∧ r < w.heap.size ∧ r ≠ b := by
  obtain ⟨D, left, h1, _⟩ := h; exact ⟨h1.owns.lt, h1.lt, h1.ne⟩
/-- The step. -/
theorem MapGo.next {w : World} {b r n cnt : Nat} {l vis : List Ref} (h : MapGo w b r n l vis cnt) (hl : l.Pairwise fun a b => a.name < b.name) (ty : TypeId) :
    ((∀ y ∈ l, y ∈ vis) ∧ (Instr.next (.pointer (some ⟨r, 0, none⟩)) false ty).run Tryz.prog w = .ok (.tuple #[.bool false]) w) ∨
    ∃ y w' cnt', y ∈ l ∧ y ∉ vis ∧ (Instr.next (.pointer (some ⟨r, 0, none⟩)) false ty).run Tryz.prog w = .ok (.tuple #[.bool true, SV y.name, refV y]) w' ∧ MapGo w' b r n l (vis ++ [y]) cnt' ∧ cnt' < cnt ∧ w.grownBy w' (some r) ∧ w'.heap.size = w.heap.size ∧
      (Instr.entry (.pointer (some ⟨r, 0, none⟩))).run Tryz.prog w' = .ok (.tuple #[SV y.name, refV y]) w' := by
  obtain ⟨D, left, h1, hf, hl2, hnd, hv⟩ := h
  rcases h1.next lawS ty with ⟨_, hz, hrun⟩ | ⟨key, v, kl, y0, w', cnt', hkey, hlk, hR, hat, hrun, hgo, hlt, hgr, hsz, hen⟩
  · refine .inl ⟨fun y hy => Classical.byContradiction fun hn => ?_, hrun⟩
    have := (hl2 y.name).2 ⟨y, hy, rfl, hn⟩
    rw [hz] at this; cases this
  · obtain ⟨s, rfl, rfl, _⟩ := Go.WideMaps.string_of_keyOf Tryz.underlying9 hkey
    obtain ⟨y, hy, hyn, hyv⟩ := (hl2 s.data.toList).1 hlk
    have hs : Value.string s = SV y.name := by rw [hyn]; rfl
    have e1 := (hf y.name).2 (refV y) ((fOf_some hl).2 ⟨y, hy, rfl, rfl⟩) (.held (.bool true))
    have e2 := hat (.held (.bool true))
    rw [← hyn, e1] at e2
    unfold anyR at hR
    cases hR
    injection e2 with e3
    subst e3
    rw [hs] at hrun hen
    refine .inr ⟨y, w', cnt', hy, hyv, hrun, ⟨D, _, hgo, hf, fun x => ?_, ?_, fun z hz => ?_⟩, hlt, hgr, hsz, hen⟩
    · rw [Bool.and_eq_true, hl2 x]
      constructor
      · rintro ⟨⟨z, hz, hzn, hzv⟩, hne⟩
        refine ⟨z, hz, hzn, fun hm => ?_⟩
        rcases List.mem_append.1 hm with hm | hm
        · exact hzv hm
        · rw [List.mem_singleton.1 hm] at hzn
          rw [← hzn, ← hyn, sameKey_iff.2 rfl] at hne; cases hne
      · rintro ⟨z, hz, hzn, hzv⟩
        refine ⟨⟨z, hz, hzn, fun hm => hzv (List.mem_append_left _ hm)⟩, ?_⟩
        rw [Bool.not_eq_true']
        refine sameKey_ne fun e => ?_
        injection e with e
        have : z = y := rise_inj hl hz hy (by rw [hzn, hyn, e])
        rw [this] at hzv; exact hzv (by simp)
    · refine List.nodup_append.2 ⟨hnd, by simp, fun a ha c hc e => ?_⟩
      rw [List.mem_singleton.1 hc] at e
      rw [e] at ha; exact hyv ha
    · rcases List.mem_append.1 hz with hz | hz
      · exact hv z hz
      · rw [List.mem_singleton.1 hz]; exact hy
end Go.Proofs.YtfnepffccenebaaGreatDoor.Rf
