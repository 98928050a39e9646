/-
  The acts: how each is made, and how it is played on a map of files.
-/
import Derived.Test.YtccloieikkdcoaaGreatDoorSize
import Derived.Test.YtccloieikkdcoaaGreatDoorMayRename
import Derived.Test.YtccloieikkdcoaaGreatDoorMayWrite
import Derived.Maps.OwnSet
namespace Go.Proofs.YtccloieikkdcoaaGreatDoor
open Go Go.RowKit Go.Maps

theorem TabIn.of_put {w : World} {base m n : Nat} {t : Tb} {es : List (Lit × DataW Value)} {p b : By} {v : Value} (hb : base ≤ m) (hr : Rises t) (he : EntsOk (RowIn w base) es t) (hv : RowIn w base v b)
    (hown : w.ownsMap (H := Value) Tryz.prog 9 heldR m n ((DataW.map es).put (.string p) (.held v))) : TabIn w base m (tput p b t) := by
  have he' : EntsOk (RowIn w base) (DataW.insert (.string p, .held v) (es.filter fun x => !x.1.sameKey (.string p))) (tput p b t) := (he.filter p).insert hv
  refine ⟨hb, hr.tput, _, ?_, he'⟩
  rw [← he'.length]
  exact tight hown

theorem TabIn.of_del {w : World} {base m n : Nat} {t : Tb} {es : List (Lit × DataW Value)} {p : By} (hb : base ≤ m) (hr : Rises t) (he : EntsOk (RowIn w base) es t)
    (hown : w.ownsMap (H := Value) Tryz.prog 9 heldR m n ((DataW.map es).del (.string p))) : TabIn w base m (tdel p t) := by
  have he' : EntsOk (RowIn w base) (es.filter fun x => !x.1.sameKey (.string p)) (tdel p t) := he.filter p
  refine ⟨hb, hr.tdel, _, ?_, he'⟩
  rw [← he'.length]
  exact tight hown

/-- What an act that is played comes to. -/
def PlayPost (base m : Nat) (t : Tb) (w : World) (e : Ending) (w' : World) : Prop := e = .returned (.tuple #[]) ∧ TabIn w' base m t ∧ w.grownBy w' (some m)

/-- A map is written: all cells are as they were. -/
theorem K.turned {base m : Nat} {a w w' : World} (k : K base a w) (hg : w.grownBy w' (some m)) (hb : base ≤ w.heap.size) (hm : base ≤ m) (hmap : ∃ xs c, w.heap[m]? = some (.map xs c)) : K base a w' := by
  refine k.grown hg hb fun r hr => ?_
  cases hr
  refine ⟨hm, fun c e fz h => ?_⟩
  obtain ⟨xs, cl, h'⟩ := hmap
  rw [h'] at h; cases h

theorem keep_turned {base m : Nat} {w w' : World} (hg : w.grownBy w' (some m)) (hm : base ≤ m) (hmap : ∃ xs c, w.heap[m]? = some (.map xs c)) : K base w w' := by
  obtain ⟨xs, cl, h'⟩ := hmap
  exact (K.refl base w).turned hg (by have := lt_of_block h'; omega) hm ⟨xs, cl, h'⟩

set_option maxHeartbeats 1000000 in
set_option maxRecDepth 100000 in
theorem playWrite {w : World} {base m : Nat} {t : Tb} (h : TabIn w base m t) (hl : t.length < maxLen) {x y v : Value} {p b : By} (hp : p.length ≤ maxLen) (hx : BoxIn w base 31 x v) (hv : RowIn w base v b) (hy : BoxIn w base 9 y (S p)) :
    Calls Tryz.prog 70 #[.map (some m), x, y] w (PlayPost base m (tput p b t) w) := by
  obtain ⟨hb, hr, es, hown, he⟩ := h
  obtain ⟨gx, rfl, _, hgx⟩ := hx
  obtain ⟨gy, rfl, _, hgy⟩ := hy
  have hmap : ∃ xs c, w.heap[m]? = some (Obj.map xs c) := by obtain ⟨xs, c, h, _⟩ := hown; exact ⟨xs, c, h⟩
  obtain ⟨a, c, rfl⟩ := hv.shape
  have cx := cell_of_one hgx
  have cy := cell_of_one hgy
  unfold S at cy
  have hkey := keyOf_S hp
  unfold S at hkey
  go_enter Tryz.func70, Tryz.ntmps70
  go_wp2_with (at_mapUpdate; refine wpList_mapUpdate_own _ rfl _ _ _ 60 rfl 9 31 law9 Tryz.underlying60 heldR m t.length (.map es) rfl hown hl _ _ _ rfl rfl hkey (.held (.slice a b.length c)) [] rfl ?_; intro w1 hown1 hg1)
  go_end0
  have k := keep_turned hg1 hb hmap
  exact ⟨rfl, TabIn.of_put hb hr (he.mono fun _ _ h => h.keep k) (hv.keep k) hown1, hg1⟩

set_option maxHeartbeats 1000000 in
set_option maxRecDepth 100000 in
theorem playRename {w : World} {base m : Nat} {t : Tb} (h : TabIn w base m t) (hl : t.length < maxLen) {x y : Value} {p q : By} (hp : p.length ≤ maxLen) (hq : q.length ≤ maxLen) (hx : BoxIn w base 9 x (S p)) (hy : BoxIn w base 9 y (S q)) :
    Calls Tryz.prog 71 #[.map (some m), x, y] w (PlayPost base m ((Act.rename p q).play t) w) := by
  have hlook := h.look p hp
  have h0 := h
  obtain ⟨hb, hr, es, hown, he⟩ := h
  obtain ⟨gx, rfl, bx, hgx⟩ := hx
  obtain ⟨gy, rfl, bY, hgy⟩ := hy
  have hmap : ∃ xs c, w.heap[m]? = some (Obj.map xs c) := by obtain ⟨xs, c, h, _⟩ := hown; exact ⟨xs, c, h⟩
  have cx := cell_of_one hgx
  have cy := cell_of_one hgy
  have hkp := keyOf_S hp
  have hkq := keyOf_S hq
  unfold S at cx cy hkp hkq
  rcases hlook with ⟨h1, hlook⟩ | ⟨b, a, c, h1, h2, hlook⟩
  · have H1 : Hid ((Act.rename p q).play t = t) := by show (match tget p t with | none => t | some b => tput q b (tdel p t)) = t; rw [h1]
    clear h1
    have H0 := Lib.hid h0
    clear h0 hown he
    go_enter Tryz.func71, Tryz.ntmps71
    go_wp2
    go_end0
    exact ⟨rfl, by rw [H1.out]; exact H0.out, ⟨rfl, rfl, rfl, Nat.le_refl _, fun _ _ _ => rfl⟩⟩
  · have H1 : Hid ((Act.rename p q).play t = tput q b (tdel p t)) := by show (match tget p t with | none => t | some b => tput q b (tdel p t)) = _; rw [h1]
    clear h1
    go_enter Tryz.func71, Tryz.ntmps71
    go_wp2_with (first
      | (at_delete; refine wpList_delete_own _ rfl _ _ 60 9 rfl 31 law9 Tryz.underlying60 heldR m t.length (.map es) rfl hown _ _ rfl hkp ?_; intro w1 hown1 hturn1; have cy1 := hturn1.grown.cell cy (by intro e; cases e; obtain ⟨_, _, hm⟩ := hmap; rw [hm] at hgy; cases hgy))
      | (at_mapUpdate; refine wpList_mapUpdate_own _ rfl _ _ _ 60 rfl 9 31 law9 Tryz.underlying60 heldR m t.length ((DataW.map es).del (.string p)) rfl hown1 hl _ _ _ rfl rfl hkq (.held (.slice a b.length c)) [] rfl ?_; intro w2 hown2 hg2))
    go_end0
    have k1 := keep_turned hturn1.grown hb hmap
    have hmap1 : ∃ xs c, w1.heap[m]? = some (Obj.map xs c) := by obtain ⟨xs, c, h, _⟩ := hown1; exact ⟨xs, c, h⟩
    have k2 := k1.trans (keep_turned hg2 hb hmap1)
    refine ⟨rfl, ?_, grown_trans hturn1.grown hg2⟩
    rw [H1.out]
    exact TabIn.of_put (es := es.filter fun x => !x.1.sameKey (.string p)) hb hr.tdel ((he.filter p).mono fun _ _ h => h.keep k2) (h2.keep k2) hown2

set_option maxHeartbeats 1000000 in
set_option maxRecDepth 100000 in
theorem playRemove {w : World} {base m : Nat} {t : Tb} (h : TabIn w base m t) {x : Value} {p : By} (hp : p.length ≤ maxLen) (hx : BoxIn w base 9 x (S p)) :
    Calls Tryz.prog 72 #[.map (some m), x] w (PlayPost base m (tdel p t) w) := by
  obtain ⟨hb, hr, es, hown, he⟩ := h
  obtain ⟨gx, rfl, bx, hgx⟩ := hx
  have hmap : ∃ xs c, w.heap[m]? = some (Obj.map xs c) := by obtain ⟨xs, c, h, _⟩ := hown; exact ⟨xs, c, h⟩
  have cx := cell_of_one hgx
  have hkp := keyOf_S hp
  unfold S at cx hkp
  go_enter Tryz.func72, Tryz.ntmps72
  go_wp2_with (at_delete; refine wpList_delete_own _ rfl _ _ 60 9 rfl 31 law9 Tryz.underlying60 heldR m t.length (.map es) rfl hown _ _ rfl hkp ?_; intro w1 hown1 hturn1)
  go_end0
  have k1 := keep_turned hturn1.grown hb hmap
  exact ⟨rfl, TabIn.of_del hb hr (he.mono fun _ _ h => h.keep k1) hown1, hturn1.grown⟩

/-! ### how an act is made -/
def MadePost (base : Nat) (a : Act) (w : World) (e : Ending) (w' : World) : Prop := ∃ fn first cap, e = .returned (.func fn first cap) ∧ ActIn w' base (.func fn first cap) a ∧ Below w.heap.size w w'

theorem box_new {w : World} {base : Nat} {t : TypeId} (v : Value) (hb : base ≤ w.heap.size) : BoxIn (w.alloc (.cells #[v] t)) base t (.pointer (some ⟨w.heap.size, 0, none⟩)) v := ⟨_, rfl, hb, heap_alloc_new w _⟩

theorem box_new2 {w : World} {base : Nat} {t : TypeId} (o : Obj) (v : Value) (hb : base ≤ w.heap.size) : BoxIn ((w.alloc o).alloc (.cells #[v] t)) base t (.pointer (some ⟨w.heap.size + 1, 0, none⟩)) v := by
  have h := heap_alloc_new (w.alloc o) (.cells #[v] t)
  have e : (w.alloc o).heap.size = w.heap.size + 1 := by simp
  rw [e] at h
  exact ⟨_, rfl, by omega, h⟩

set_option maxHeartbeats 1000000 in
set_option maxRecDepth 100000 in
theorem write_any {w : World} {base : Nat} (hb : base ≤ w.heap.size) {p b : By} {v : Value} (hv : RowIn w base v b) : Calls Tryz.prog 47 #[S p, v] w (MadePost base (.write p b) w) := by
  have hmf : ∀ (fn : Fn) (first cap : Array Value) (w : World), (Instr.makeFunc fn first cap).run Tryz.prog w = .ok (.func fn first cap) w := fun _ _ _ _ => rfl
  obtain ⟨a, c, rfl⟩ := hv.shape
  go_enter Tryz.func47, Tryz.ntmps47
  go_wp2
  go_ret
  have k1 := K.of_new (below_alloc w (.cells #[S p] 9)) hb
  have hb1 : base ≤ (w.alloc (.cells #[S p] 9)).heap.size := by simp; omega
  have k2 := K.of_new (below_alloc (w.alloc (.cells #[S p] 9)) (.cells #[.slice a b.length c] 31)) hb1
  refine ⟨_, _, _, rfl, ⟨_, _, _, rfl, box_new2 _ (.slice a b.length c) hb, (hv.keep k1).keep k2, (box_new (S p) hb).keep k2 rfl⟩, below_two (below_alloc _ _) (below_alloc _ _)⟩

set_option maxHeartbeats 1000000 in
set_option maxRecDepth 100000 in
theorem rename_any {w : World} {base : Nat} (hb : base ≤ w.heap.size) {p q : By} : Calls Tryz.prog 52 #[S p, S q] w (MadePost base (.rename p q) w) := by
  have hmf : ∀ (fn : Fn) (first cap : Array Value) (w : World), (Instr.makeFunc fn first cap).run Tryz.prog w = .ok (.func fn first cap) w := fun _ _ _ _ => rfl
  go_enter Tryz.func52, Tryz.ntmps52
  go_wp2
  go_ret
  have hb1 : base ≤ (w.alloc (.cells #[S p] 9)).heap.size := by simp; omega
  have k2 := K.of_new (below_alloc (w.alloc (.cells #[S p] 9)) (.cells #[S q] 9)) hb1
  refine ⟨_, _, _, rfl, ⟨_, _, rfl, (box_new (S p) hb).keep k2 rfl, box_new2 _ (S q) hb⟩, below_two (below_alloc _ _) (below_alloc _ _)⟩

set_option maxHeartbeats 1000000 in
set_option maxRecDepth 100000 in
theorem remove_any {w : World} {base : Nat} (hb : base ≤ w.heap.size) {p : By} : Calls Tryz.prog 55 #[S p] w (MadePost base (.remove p) w) := by
  have hmf : ∀ (fn : Fn) (first cap : Array Value) (w : World), (Instr.makeFunc fn first cap).run Tryz.prog w = .ok (.func fn first cap) w := fun _ _ _ _ => rfl
  go_enter Tryz.func55, Tryz.ntmps55
  go_wp2
  go_ret
  exact ⟨_, _, _, rfl, ⟨_, rfl, box_new (S p) hb⟩, below_alloc _ _⟩
end Go.Proofs.YtccloieikkdcoaaGreatDoor
