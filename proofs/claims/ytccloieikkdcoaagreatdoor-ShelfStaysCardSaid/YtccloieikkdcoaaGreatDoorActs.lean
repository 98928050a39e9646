/-
  Write, Rename: the acts of a shelf.
-/
import Derived.Test.YtccloieikkdcoaaGreatDoorDo
namespace Go.Proofs.YtccloieikkdcoaaGreatDoor
open Go Go.RowKit Go.Maps

/-- The bounds under which a shelf is kept: k tells how many files and acts there may be. -/
structure Bd (st : St) (k : Nat) : Prop where
  files : st.files.length ≤ k
  both : st.synced.length + st.loose.length ≤ k
  small : ∀ q ∈ st.files, q.2.length ≤ 262144
  smallS : ∀ q ∈ st.synced, q.2.length ≤ 262144
  smallL : ∀ a ∈ st.loose, ∀ p b, a.2 = .write p b → b.length ≤ 262144
  fits : ∀ a ∈ st.loose, a.2.fits
  lim : k ≤ 1000000

theorem tsize_small : ∀ {t : Tb}, (∀ q ∈ t, q.2.length ≤ 262144) → tsize t ≤ t.length * 262144
  | [], _ => Nat.zero_le _
  | q :: r, h => by
    have ih := tsize_small (t := r) (fun x hx => h x (by simp [hx]))
    have := h q (by simp)
    simp only [tsize, List.map_cons, List.sum_cons, List.length_cons] at ih ⊢
    omega

theorem Bd.size {st : St} {k : Nat} (h : Bd st k) : tsize st.files ≤ 4611686018427387904 := by
  have h1 := tsize_small h.small
  have h2 := h.files
  have h3 := h.lim
  have : st.files.length * 262144 ≤ 1000000 * 262144 := Nat.mul_le_mul_right _ (by omega)
  omega
theorem Bd.len {st : St} {k : Nat} (h : Bd st k) : st.files.length < maxLen := by have h2 := h.files; have h3 := h.lim; unfold maxLen; omega
theorem Bd.lenS {st : St} {k : Nat} (h : Bd st k) : st.synced.length < maxLen := by have h2 := h.both; have h3 := h.lim; unfold maxLen; omega
theorem Bd.loose {st : St} {k : Nat} (h : Bd st k) : (st.loose.length + 1) * 24 ≤ 140737488355328 := by have h2 := h.both; have h3 := h.lim; omega

/-- What Write does. -/
def wrote (p b : By) (st : St) : St := { st with files := tput p b st.files, loose := st.loose ++ [(dirOf p, .write p b)] }
def renamed (p q : By) (st : St) : St := { st with files := (Act.rename p q).play st.files, loose := st.loose ++ [(dirOf p, .rename p q)] }
def removed (p : By) (st : St) : St := { st with files := tdel p st.files, loose := st.loose ++ [(dirOf p, .remove p)] }

theorem writeErr_ne {p : By} {n : Int} {st : St} : writeErr p n st ≠ 13 := by
  unfold writeErr; split
  · decide
  · split
    · decide
    · split <;> decide
theorem renameErr_ne {p q : By} {t : Tb} : renameErr p q t ≠ 13 := by
  unfold renameErr; split
  · decide
  · split
    · decide
    · split
      · decide
      · split <;> decide
theorem thereErr_ne {p : By} {t : Tb} : thereErr p t ≠ 13 := by
  unfold thereErr; split
  · decide
  · split <;> decide

theorem DoPost.from {base s f y : Nat} {n : Int} {st : St} {w w1 : World} (hB : Below w.heap.size w w1) (hb : base ≤ w.heap.size) {e : Ending} {w' : World} (h : DoPost base s f y n st w1 e w') : DoPost base s f y n st w e w' :=
  ⟨h.1, (K.of_new hB hb).trans h.2.1, h.2.2⟩

theorem BytesAt.below {w w' : World} {v : Value} {b : By} (h : BytesAt w v b) (hB : Below w.heap.size w w') : BytesAt w' v b := by
  rcases h with h | ⟨a, c, rfl, h2⟩
  · exact .inl h
  · refine .inr ⟨_, _, rfl, fun i hi => ?_⟩
    have e := h2 i hi
    rw [List.getElem?_eq_getElem hi] at e ⊢
    exact (hB.cell (World.block_lt_of_cell? w _ e)).trans e

theorem BytesAt.slice {w : World} {v : Value} {b : By} (h : BytesAt w v b) : ∃ a c, v = .slice a b.length c := by
  rcases h with ⟨rfl, rfl⟩ | ⟨a, c, rfl, _⟩
  · exact ⟨none, 0, rfl⟩
  · exact ⟨_, _, rfl⟩

theorem box_new3 {w : World} {base : Nat} {t : TypeId} (o1 o2 : Obj) (v : Value) (hb : base ≤ w.heap.size) : BoxIn (((w.alloc o1).alloc o2).alloc (.cells #[v] t)) base t (.pointer (some ⟨w.heap.size + 1 + 1, 0, none⟩)) v := by
  have h := heap_alloc_new ((w.alloc o1).alloc o2) (.cells #[v] t)
  have e : ((w.alloc o1).alloc o2).heap.size = w.heap.size + 1 + 1 := by simp
  rw [e] at h
  exact ⟨_, rfl, by omega, h⟩

set_option maxHeartbeats 4000000 in
set_option maxRecDepth 100000 in
theorem Write_any {w : World} {base s f y k : Nat} {lv : Value} {st : St} (h : Ok w base s f y lv st) (hbd : Bd st k) (het : Et w) (hg : 0 < base) {p b : By} {v : Value} (hp : p.length ≤ maxLen) (hb : b.length ≤ maxLen) (hv : BytesAt w v b) :
    Calls Tryz.prog 11 #[.pointer (some ⟨s, 0, none⟩), S p, v] w (DoPost base s f y (doN st (writeErr p b.length st)) (doSt st (writeErr p b.length st) (wrote p b st)) w) := by
  have hmf : ∀ (fn : Fn) (first cap : Array Value) (w : World), (Instr.makeFunc fn first cap).run Tryz.prog w = .ok (.func fn first cap) w := fun _ _ _ _ => rfl
  obtain ⟨a, c, rfl⟩ := hv.slice
  have hbs := h.base_le
  have B1 := below_alloc w (.cells #[.pointer (some ⟨s, 0, none⟩)] 27)
  have B2 := below_alloc (w.alloc (.cells #[.pointer (some ⟨s, 0, none⟩)] 27)) (.cells #[S p] 9)
  have B3 := below_alloc ((w.alloc (.cells #[.pointer (some ⟨s, 0, none⟩)] 27)).alloc (.cells #[S p] 9)) (.cells #[.slice a b.length c] 31)
  have B := below_two (below_two B1 B2) B3
  have kB : K base w _ := K.of_new B hbs
  have x1 := ((box_new (t := 27) (.pointer (some ⟨s, 0, none⟩)) hbs).keep (K.of_new (base := base) B2 (by simp; omega)) rfl).keep (K.of_new (base := base) B3 (by simp; omega)) rfl
  have x2 := (box_new2 (t := 9) (.cells #[.pointer (some ⟨s, 0, none⟩)] 27) (S p) hbs).keep (K.of_new (base := base) B3 (by simp; omega)) rfl
  have x3 := box_new3 (t := 31) (.cells #[.pointer (some ⟨s, 0, none⟩)] 27) (.cells #[S p] 9) (.slice a b.length c) hbs
  have ht := tryWrite (h.keep B) hp hb x1 x2 x3 (hv.below B) hbd.size hbd.len hbd.loose
  have hd := do_any (h.keep B) (het.keep kB hg) hg writeErr_ne (enters_of Tryz.func44 (by kernel_rfl) rfl) ht
  have Hd := Lib.hid hd; have HB := Lib.hid B
  clear hd ht x1 x2 x3 kB B B1 B2 B3 h het hv hbd
  unfold S at Hd HB ⊢
  go_enter Tryz.func11, Tryz.ntmps11
  go_wp2_with fail
  refine Hd.out.mono ?_
  rintro e w' hD
  have hD' := hD.from HB.out hbs
  obtain ⟨rfl, hD2⟩ := hD'
  have HD := Lib.hid hD2; clear hD2 hD
  go_wp2_with fail
  go_ret
  exact ⟨rfl, HD.out⟩

set_option maxHeartbeats 4000000 in
set_option maxRecDepth 100000 in
theorem Rename_any {w : World} {base s f y k : Nat} {lv : Value} {st : St} (h : Ok w base s f y lv st) (hbd : Bd st k) (het : Et w) (hg : 0 < base) {p q : By} (hp : p.length ≤ maxLen) (hq : q.length ≤ maxLen) :
    Calls Tryz.prog 13 #[.pointer (some ⟨s, 0, none⟩), S p, S q] w (DoPost base s f y (doN st (renameErr p q st.files)) (doSt st (renameErr p q st.files) (renamed p q st)) w) := by
  have hmf : ∀ (fn : Fn) (first cap : Array Value) (w : World), (Instr.makeFunc fn first cap).run Tryz.prog w = .ok (.func fn first cap) w := fun _ _ _ _ => rfl
  have hbs := h.base_le
  have B1 := below_alloc w (.cells #[.pointer (some ⟨s, 0, none⟩)] 27)
  have B2 := below_alloc (w.alloc (.cells #[.pointer (some ⟨s, 0, none⟩)] 27)) (.cells #[S p] 9)
  have B3 := below_alloc ((w.alloc (.cells #[.pointer (some ⟨s, 0, none⟩)] 27)).alloc (.cells #[S p] 9)) (.cells #[S q] 9)
  have B := below_two (below_two B1 B2) B3
  have kB : K base w _ := K.of_new B hbs
  have x1 := ((box_new (t := 27) (.pointer (some ⟨s, 0, none⟩)) hbs).keep (K.of_new (base := base) B2 (by simp; omega)) rfl).keep (K.of_new (base := base) B3 (by simp; omega)) rfl
  have x2 := (box_new2 (t := 9) (.cells #[.pointer (some ⟨s, 0, none⟩)] 27) (S p) hbs).keep (K.of_new (base := base) B3 (by simp; omega)) rfl
  have x3 := box_new3 (t := 9) (.cells #[.pointer (some ⟨s, 0, none⟩)] 27) (.cells #[S p] 9) (S q) hbs
  have ht := tryRename (h.keep B) hp hq x1 x2 x3 hbd.len hbd.loose
  have hd := do_any (h.keep B) (het.keep kB hg) hg renameErr_ne (enters_of Tryz.func50 (by kernel_rfl) rfl) ht
  have Hd := Lib.hid hd; have HB := Lib.hid B
  clear hd ht x1 x2 x3 kB B B1 B2 B3 h het hbd
  unfold S at Hd HB ⊢
  go_enter Tryz.func13, Tryz.ntmps13
  go_wp2_with fail
  refine Hd.out.mono ?_
  rintro e w' hD
  have hD' := hD.from HB.out hbs
  obtain ⟨rfl, hD2⟩ := hD'
  have HD := Lib.hid hD2; clear hD2 hD
  go_wp2_with fail
  go_ret
  exact ⟨rfl, HD.out⟩
end Go.Proofs.YtccloieikkdcoaaGreatDoor
