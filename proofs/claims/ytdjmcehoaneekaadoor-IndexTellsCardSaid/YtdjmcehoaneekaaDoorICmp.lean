/-
  The index: bytes held against bytes; two sums, two rows compared; numbers of two bytes.
-/
import Derived.Test.YtdjmcehoaneekaaDoorIName
import Derived.Test.YtdjmcehoaneekaaDoorDRSum
import Derived.Lib.BytesEntry
import Derived.Lib.Bytealg
import Derived.Sort.Grow
namespace Go.Proofs.YtdjmcehoaneekaaDoor.Ix
open Go.Proofs.YtdjmcehoaneekaaDoor
open Go Go.RowKit Go.Sort

theorem cmp_lt : ∀ a b : Bs, Lib.compareBytes a b < 0 ↔ a < b
  | [], [] => by simp [Lib.compareBytes]
  | [], b :: m => by simp [Lib.compareBytes]
  | a :: l, [] => by simp [Lib.compareBytes]
  | a :: l, b :: m => by
    unfold Lib.compareBytes
    rw [List.cons_lt_cons_iff]
    by_cases h : a < b
    · rw [if_pos h]; simp [h]
    · rw [if_neg h]
      by_cases h2 : b < a
      · rw [if_pos h2]
        have : ¬ a = b := fun e => by rw [e] at h2; exact absurd h2 (by simp)
        simp [h, this]
      · rw [if_neg h2, cmp_lt l m]
        have : a = b := by
          have h1 : ¬ a.toNat < b.toNat := h
          have h3 : ¬ b.toNat < a.toNat := h2
          exact UInt8.toNat_inj.1 (by omega)
        simp [this]

/-- What the entry reads of a slice. -/
theorem bytesOf_rb {w : World} {v : Value} {l : Bs} (h : Rb w v l) : (Extern.Bytes.bytesOf v).run Tryd.prog w = .ok ⟨l.toArray⟩ w := by
  rcases h with ⟨⟨A, rfl⟩, rfl⟩ | ⟨g, o, c, rfl, _, _, hc⟩
  · cases A with
    | none => rfl
    | some a => rfl
  · have := Lib.run_loadBytesX (P := Tryd.prog) w (l.map fun x => (x.toNat : Int)) ⟨g, o, none⟩ .empty (fun j x hj => by
      rw [List.getElem?_map] at hj
      by_cases hl : j < l.length
      · rw [List.getElem?_eq_getElem hl] at hj
        rw [Go.Proofs.YtdjmcehoaneekaaDoor.add_none, hc j hl, List.getD_eq_getElem?_getD, List.getElem?_eq_getElem hl]
        exact congrArg (fun q => some (Value.int .u8 q)) (Option.some.inj hj)
      · rw [List.getElem?_eq_none (by omega)] at hj; cases hj)
    rw [List.length_map] at this
    have e : Lib.bytesOf (l.map fun x => (x.toNat : Int)) = l := by
      unfold Lib.bytesOf
      rw [List.map_map]
      conv => rhs; rw [← List.map_id l]
      exact List.map_congr_left fun x _ => by simp
    rw [e] at this
    simp only [Extern.Bytes.bytesOf]
    rw [this]
    congr 1
    apply ByteArray.ext
    simp
set_option maxHeartbeats 400000 in
theorem Compare_any {w : World} {u v : Value} {l m : Bs} (h1 : Rb w u l) (h2 : Rb w v m) : Calls Tryd.prog 51 #[u, v] w fun e w' => e = .returned (.int .i64 (Lib.compareBytes l m)) ∧ w' = w := by
  have hr : (Extern.BytealgCompare.compare #[u, v]).run Tryd.prog w = .ok (.int .i64 (Lib.compareBytes l m)) w := by
    change Sem.run Tryd.prog (do pure (goInt (Extern.BytealgCompare.cmp (← Extern.Bytes.bytesOf u) (← Extern.Bytes.bytesOf v)))) w = _
    simp only [Sem.run_bind, bytesOf_rb h1, bytesOf_rb h2, Sem.run_pure, Result.andThen]
    rw [Lib.cmp_eq]
    rfl
  obtain ⟨A, c, rfl⟩ := h1.shape
  obtain ⟨B, d, rfl⟩ := h2.shape
  clear h1 h2
  go_enter Tryd.func51, Tryd.ntmps51
  go_wp2
  rw [run_callFunc_extern Tryd.func71 (by kernel_rfl) (by kernel_rfl) (by kernel_rfl) (e := Extern.BytealgCompare.compare) (by kernel_rfl), hr]
  simp only [Result.andThen]
  rw [Oper.upon_value]
  go_wp2
  go_ret
  exact ⟨rfl, rfl⟩
theorem rb_blk {w : World} {g : Nat} {t : TypeId} {s : Bs} (h : Blk w g t (sumA s)) (hs : s.length = 32) : Rb w (.slice (some ⟨g, 0, none⟩) 32 32) s :=
  .inr ⟨g, 0, 32, by rw [hs], by omega, h.lt, fun j hj => by rw [Nat.zero_add, h.cell, sumA_get s j (by omega)]; rfl⟩
/-- A list of bytes with its length made 32. -/
def nrm (s : Bs) : Bs := (List.range 32).map (gd s)
theorem nrm_len (s : Bs) : (nrm s).length = 32 := by simp [nrm]
theorem nrm_gd (s : Bs) (i : Nat) (h : i < 32) : gd (nrm s) i = gd s i := by
  unfold nrm gd
  rw [List.getD_eq_getElem?_getD, List.getElem?_map, List.getElem?_range h]; rfl
theorem sumA_nrm (s : Bs) : sumA (nrm s) = sumA s := u8s_congr fun i h => nrm_gd s i h
theorem nrm_eq {s : Bs} (h : s.length = 32) : nrm s = s := ext_getD (by rw [nrm_len, h]) fun i hi => nrm_gd s i (by rw [nrm_len] at hi; exact hi)
set_option maxRecDepth 100000 in
set_option maxHeartbeats 1000000 in
theorem compare_any (s t : Bs) (w : World) : Calls Tryd.prog 41 #[.agg (sumA s), .agg (sumA t)] w fun e w' => e = .returned (.int .i64 (Lib.compareBytes (nrm s) (nrm t))) ∧ ∃ q os', w' = grow (w.drewN q) os' := by
  obtain ⟨F, hF⟩ : ∃ F, F = sumA s := ⟨_, rfl⟩
  obtain ⟨G, hG⟩ : ∃ G, G = sumA t := ⟨_, rfl⟩
  rw [← hF, ← hG]
  obtain ⟨r, hr⟩ : ∃ r, r = Lib.compareBytes (nrm s) (nrm t) := ⟨_, rfl⟩
  have hc : ∀ W : World, Blk W w.heap.size 45 F → Blk W (w.heap.size + 1) 45 G → Calls Tryd.prog 51 #[.slice (some ⟨w.heap.size, 0, none⟩) 32 32, .slice (some ⟨w.heap.size + 1, 0, none⟩) 32 32] W fun e w' => e = .returned (.int .i64 r) ∧ w' = W := fun W b1 b2 => by
    rw [hF, ← sumA_nrm] at b1
    rw [hG, ← sumA_nrm] at b2
    rw [hr]; exact Compare_any (rb_blk b1 (nrm_len s)) (rb_blk b2 (nrm_len t))
  rw [← hr]
  have HC := Lib.hid hc
  clear hF hG hr hc
  go_enter Tryd.func41, Tryd.ntmps41
  go_upto_region 1 with fail
  have bF : Blk ((w.alloc (Obj.cells F 45)).alloc (Obj.cells G 45)) w.heap.size 45 F := (Blk.new w _ _).alloc _
  have bG : Blk ((w.alloc (Obj.cells F 45)).alloc (Obj.cells G 45)) (w.heap.size + 1) 45 G := by
    have := Blk.new (w.alloc (Obj.cells F 45)) 45 G
    simpa using this
  have l0 : Below w.heap.size w ((w.alloc (Obj.cells F 45)).alloc (Obj.cells G 45)) := (below_new w _).alloc (by simp) _
  have hg : (w.alloc (Obj.cells F 45)).alloc (Obj.cells G 45) = grow w #[Obj.cells F 45, Obj.cells G 45] := by rw [alloc_eq_grow, alloc_eq_grow, grow_grow]; rfl
  obtain ⟨w2, hw2⟩ : ∃ w2, w2 = (w.alloc (Obj.cells F 45)).alloc (Obj.cells G 45) := ⟨_, rfl⟩
  rw [← hw2] at l0 bF bG hg ⊢
  have BF := Lib.hid bF; have BG := Lib.hid bG; have HG := Lib.hid hg; have L0 := Lib.hid l0
  clear hw2 bF bG hg l0
  go_quiet ((go_at_call 51; exact Calls.quiet_of_same (HC.out _ (BF.out.drewN _) (BG.out.drewN _))))
  go_wp2
  go_ret
  refine ⟨rfl, ?_⟩
  rw [HG.out]
  exact ⟨_, _, rfl⟩
end Go.Proofs.YtdjmcehoaneekaaDoor.Ix
