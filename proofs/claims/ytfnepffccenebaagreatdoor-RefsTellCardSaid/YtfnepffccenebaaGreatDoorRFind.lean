/-
  Find: the object of the first ref of a name.
-/
import Derived.Test.YtfnepffccenebaaGreatDoorRIdx
namespace Go.Proofs.YtfnepffccenebaaGreatDoor.Rf
open Go.Proofs.YtfnepffccenebaaGreatDoor
open Go Go.RowKit

theorem below_al (w : World) (o : Obj) : Below w.heap.size w (w.alloc o) := (Below.refl _ _).alloc (Nat.le_refl _) o
theorem cell_al {w : World} {p : Addr} {u : Value} (h : w.cell? p = some u) (o : Obj) : (w.alloc o).cell? p = some u := by
  have hlt := World.block_lt_of_cell? _ _ h
  exact ((below_al w o).cell (p := p) hlt).trans h
set_option maxHeartbeats 1000000 in
theorem Find1_p (x : Ref) (s : Bs) (sb : Nat) (W : World) (hs : W.cell? ⟨sb, 0, none⟩ = some (.string ⟨s.toArray⟩)) :
    Calls Tryz.prog 46 #[.agg #[.string ⟨x.name.toArray⟩, .string ⟨x.id.toArray⟩], .pointer (some ⟨sb, 0, none⟩)] W (BoolB (x.name == s) W) := by
  have h1 := cell_al hs (.cells #[.string ⟨x.name.toArray⟩, .string ⟨x.id.toArray⟩] 45)
  obtain ⟨xn, xi⟩ := x
  simp only at h1 ⊢
  clear hs
  go_enter Tryz.func46, Tryz.ntmps46
  go_wp2_with fail
  go_ret
  exact ⟨rfl, below_al W _⟩

theorem findL_first {l : List Ref} {s : Bs} {k : Nat} {x : Ref} (hx : l[k]? = some x) (h : x.name = s) (hn : ∀ j, j < k → (l[j]?.map (·.name) == some s) = false) : findL l s = x.id := by
  have hf : l.find? (fun r => r.name == s) = some x := by
    obtain ⟨hk, rfl⟩ := List.getElem?_eq_some_iff.1 hx
    refine List.find?_eq_some_iff_getElem.2 ⟨by simpa using h, k, hk, rfl, fun j hj => ?_⟩
    have := hn j hj
    rw [List.getElem?_eq_getElem (by omega)] at this
    simpa using this
  unfold findL
  rw [hf]
theorem findL_not {l : List Ref} {s : Bs} (hn : ∀ j, j < l.length → (l[j]?.map (·.name) == some s) = false) : findL l s = [] := by
  refine findL_none fun r hr e => ?_
  obtain ⟨j, hj, rfl⟩ := List.mem_iff_getElem.1 hr
  have := hn j hj
  rw [List.getElem?_eq_getElem hj] at this
  simp [e] at this
def TextB (s : Bs) (w : World) (e : Ending) (w' : World) : Prop := e = .returned (.string ⟨s.toArray⟩) ∧ Below w.heap.size w w'
set_option maxRecDepth 100000 in
set_option maxHeartbeats 1000000 in
theorem Find_p (l : List Ref) (v : Value) (s : Bs) (w : World) (hv : RefsR w v l) (hl : l.length ≤ 1000000) : Calls Tryz.prog 19 #[v, .string ⟨s.toArray⟩] w (TextB (findL l s) w) := by
  obtain ⟨A, c, rfl⟩ := hv.shape
  obtain ⟨N, hN⟩ : ∃ N, N = l.length := ⟨_, rfl⟩
  rw [← hN] at hl hv ⊢
  have hb1 := below_al w (.cells #[.string ⟨s.toArray⟩] 9)
  have hc1 : (w.alloc (.cells #[.string ⟨s.toArray⟩] 9)).cell? ⟨w.heap.size, 0, none⟩ = some (.string ⟨s.toArray⟩) := by simp
  have HI := Lib.hid (idxR (l := l) (A := A) (c := c) hN hl 46 (enters_of Tryz.func46 (by kernel_rfl) rfl) #[.pointer (some ⟨w.heap.size, 0, none⟩)] (fun k => l[k]?.map (·.name) == some s)
    (fun _ W => Below w.heap.size w W ∧ W.cell? ⟨w.heap.size, 0, none⟩ = some (.string ⟨s.toArray⟩)) (fun _ W => Below w.heap.size w W ∧ W.cell? ⟨w.heap.size, 0, none⟩ = some (.string ⟨s.toArray⟩)) _ ⟨hb1, hc1⟩
    (fun k W hW => RdK.below hv hW.1 (Nat.le_refl _))
    (fun k x W hx hW => (Find1_p x s w.heap.size W hW.2).mono fun e w' he => by
      have hb : (x.name == s) = (l[k]?.map (·.name) == some s) := by rw [hx]; rfl
      rw [← hb]
      have hn : Below w.heap.size w w' := hW.1.trans (he.2.mono hW.1.size)
      have hcell : w'.cell? ⟨w.heap.size, 0, none⟩ = some (.string ⟨s.toArray⟩) := (he.2.cell (p := ⟨w.heap.size, 0, none⟩) (World.block_lt_of_cell? _ _ hW.2)).trans hW.2
      exact ⟨he.1, fun _ => ⟨hn, hcell⟩, fun _ => ⟨hn, hcell⟩⟩))
  have HV := Lib.hid hv
  have HN := Lib.hid hN
  clear hv hN hb1 hc1
  go_enter Tryz.func19, Tryz.ntmps19
  go_wp2_with fail
  refine HI.out.mono ?_
  rintro e w2 (⟨k, hk, hp, hno, rfl, hE⟩ | ⟨hno, rfl, hJ⟩)
  · obtain ⟨x, hx⟩ : ∃ x, l[k]? = some x := ⟨_, List.getElem?_eq_getElem (by have := HN.out; omega)⟩
    have hp2 : (l[k]?.map (·.name) == some s) = true := hp
    rw [hx] at hp2
    have hs : x.name = s := by simpa using hp2
    have HR := Lib.hid (findL_first hx hs hno)
    obtain ⟨g, o, c', e, _, hg⟩ := HV.out.pos (by have := HN.out; omega)
    obtain rfl : A = some ⟨g, o, none⟩ := by rw [← HN.out] at e; cases e; rfl
    clear e
    obtain ⟨_, c1⟩ := RefsR.cells (RdK.below HV.out hE.1 (Nat.le_refl _)) hx
    have hk0 : ¬ (k : Int) < 0 := by omega
    have HE := Lib.hid hE
    unfold SV at c1
    clear hE hp hp2 hs hx hno hg HI
    go_wp2_with fail
    go_ret
    exact ⟨(ret_SV HR.out).symm, HE.out.1⟩
  · have HR := Lib.hid (findL_not (by rw [← HN.out]; exact hno))
    have HE := Lib.hid hJ
    clear hJ hno HI
    go_wp2_with fail
    go_ret
    exact ⟨(ret_SV HR.out).symm, HE.out.1⟩
end Go.Proofs.YtfnepffccenebaaGreatDoor.Rf
