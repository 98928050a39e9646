/-
  bytes.Clone, maps.Clone.
-/
import Derived.Test.YtccloieikkdcoaaGreatDoorWorld
import Derived.OwnWalk
import Derived.WalkSpells
import Derived.Laws.OwnMore
import Derived.Shelf.SlMaps.Clone
import Derived.Lib.Hide
namespace Go.Proofs.YtccloieikkdcoaaGreatDoor
open Go Go.RowKit Go.Maps

/-- The slice value v holds the bytes b, wherever. -/
def BytesAt (w : World) (v : Value) (b : By) : Prop :=
  (v = .slice none 0 0 ∧ b = []) ∨ ∃ a c, v = .slice (some a) b.length c ∧ ∀ i, i < b.length → w.cell? (a.add i) = (b[i]?).map bv

theorem RowIn.bytes {w : World} {base : Nat} {v : Value} {b : By} (h : RowIn w base v b) : BytesAt w v b := by
  have hc := h
  rcases h.2 with ⟨h1, h2⟩ | ⟨g, cap, cur, rfl, hb, hg, r1, r2, r3, r4⟩
  · exact .inl ⟨h1, List.length_eq_zero_iff.1 h2⟩
  · refine .inr ⟨⟨g, 0, none⟩, cap, rfl, fun i hi => ?_⟩
    have := World.ownsRow.cells hc (g := g) rfl i (bv b[i]) (by simp [hi])
    rw [this, List.getElem?_eq_getElem hi]; rfl

theorem infoByte : (Tryz.prog.info? 5).map (fun i => (i.zero, i.size, i.bytes)) = some (some (.int .u8 0), 1, 1) := by kernel_rfl

def ClonePost (w : World) (b : By) (e : Ending) (w' : World) : Prop := ∃ v', e = .returned v' ∧ RowIn w' w.heap.size v' b ∧ Below w.heap.size w w'

set_option maxHeartbeats 1000000 in
set_option maxRecDepth 100000 in
theorem clone_any {w : World} {v : Value} {b : By} (h : BytesAt w v b) (hb : b.length ≤ 140737488355328) : Calls Tryz.prog 37 #[v] w (ClonePost w b) := by
  have q22 : ∀ (w : World) (a : Option Addr) (n c n' c' : Nat), (binOp .eql 31 (.slice a n c) (.slice none n' c')).run Tryz.prog w = .ok (.bool a.isNone) w := fun w a n c n' c' => Lib.run_eql_slice_nil w _ _ a n c n' c' Tryz.underlying31
  rcases h with ⟨rfl, rfl⟩ | ⟨a, c, rfl, hc⟩
  · go_enter Tryz.func37, Tryz.ntmps37
    go_wp2
    go_ret
    exact ⟨_, rfl, World.ownsRow_nil _ _ _ _, Below.refl _ _⟩
  · obtain ⟨i0, hi, hz0, hz1, hz2⟩ := info_parts infoByte
    have Hc := Lib.hid hc; clear hc
    go_enter Tryz.func37, Tryz.ntmps37
    go_wp2_with (at_builtin; refine wpList_append_own _ rfl _ _ 31 rfl w.heap.size 5 i0 (.int .u8 0) 1 1 Tryz.underlying31 hi hz0 hz1 hz2 rfl (by decide) _ _ _ rfl (World.ownsRow_made w #[] 0 (Nat.le_refl _) (Nat.zero_le _) rfl) a b.length c (b.map bv) rfl ?qc1 ?qc2 ?qc3 ?qc4 ?qc5 ?qc6 ?_)
    case qc1 => simp
    case qc2 =>
      intro j u hj
      have hjn : j < b.length := by
        have := (List.getElem?_eq_some_iff.1 hj).1
        simpa using this
      have e := Hc.out j hjn
      rw [List.getElem?_map] at hj
      rw [hj] at e
      rw [World.cell?_alloc_lt _ _ _ (World.block_lt_of_cell? w _ e)]
      exact e
    case qc3 => intro u hu; obtain ⟨x, _, rfl⟩ := List.mem_map.1 hu; rfl
    case qc4 => unfold maxLen; omega
    case qc5 => omega
    case qc6 => simp
    intro v' w1 hown hgrow hnil
    go_wp2
    go_ret
    refine ⟨v', rfl, by simpa [RowIn] using hown, ?_⟩
    exact ((Below.refl _ w).alloc (Nat.le_refl _) _).grown hgrow (by simp) (by intro k hk; simp [Value.ownBlock] at hk; omega)

/-! ### maps.Clone -/
def MapClonePost (w : World) (base : Nat) (t : Tb) (e : Ending) (w' : World) : Prop :=
  e = .returned (.map (some w.heap.size)) ∧ TabIn w' base w.heap.size t ∧ Below w.heap.size w w'

set_option maxHeartbeats 2000000 in
set_option maxRecDepth 100000 in
theorem mapClone_any {w : World} {base m : Nat} {t : Tb} (h : TabIn w base m t) : Calls Tryz.prog 38 #[.map (some m)] w (MapClonePost w base t) := by
  have hb := h.1
  have hlt := h.lt
  obtain ⟨_, hr, es, ⟨xs, clock, hm, F, hs, hD⟩, he⟩ := h
  have hq := fun w => run_eql_map_nil_sl (P := Tryz.prog) w 60 _ _ (some m) Tryz.underlying60
  have hx := @run_callFunc_extern Tryz.prog 66 _ Extern.MapsClone.clone Tryz.func66 (by kernel_rfl) (by kernel_rfl) (by kernel_rfl) (by kernel_rfl)
  have hcl := run_maps_clone_sl (P := Tryz.prog) w 60 hm
  have hta := fun w v => run_typeAssert_map_sl (P := Tryz.prog) w 60 20 _ _ v Tryz.underlying60
  go_enter Tryz.func38, Tryz.ntmps38
  go_wp2
  go_ret
  have hB := below_alloc w (.map xs clock)
  have k : K base w (w.alloc (.map xs clock)) := K.of_new hB (by omega)
  exact ⟨rfl, ⟨by omega, hr, es, ⟨xs, clock, (MapKept.heap_alloc w _).1, F, hs, hD⟩, he.mono fun _ _ h => h.keep k⟩, hB⟩
end Go.Proofs.YtccloieikkdcoaaGreatDoor
