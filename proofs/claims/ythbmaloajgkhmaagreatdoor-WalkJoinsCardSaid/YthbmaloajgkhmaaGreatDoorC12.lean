/-
  name, Id: an object's name, if it is right.
-/
import Derived.Laws.IdiomStrings
import Derived.Test.YthbmaloajgkhmaaGreatDoorC09
import Derived.Test.YthbmaloajgkhmaaGreatDoorC11

namespace Go.Proofs.YthbmaloajgkhmaaGreatDoor
open Go Go.RowKit Go.Shelf
/-- Of which bytes an object's name is. -/
def headL (k : Int) (d : List UInt8) : List UInt8 := kindW k ++ (32 :: (textL d.length ++ (10 :: d)))
theorem kind_short (k : Int) : (kindW k).length ≤ 6 := by
  by_cases h : 1 ≤ k ∧ k ≤ 4
  · rcases kind_cases h.1 h.2 with rfl | rfl | rfl | rfl <;> decide
  · rw [word_ne_nil.2 h]; simp
theorem conv_bytes (W : World) (l : List UInt8) : ∃ A c W', (convert 9 57 (.string ⟨l.toArray⟩)).run Tryz.prog W = .ok (.slice A l.length c) W' ∧ Rb W' (.slice A l.length c) l ∧ Below W.heap.size W W' := by
  have hge := grownCap_ge W (⟨l.toArray⟩ : ByteArray).size 0 5
  have hsz : (⟨l.toArray⟩ : ByteArray).size = l.length := rfl
  refine ⟨_, _, _, run_bytes_of_string W _ _ 5 _ Tryz.underlying9 Tryz.underlying57 Tryz.underlying5, ?_, ?_⟩
  · refine .inr ⟨W.heap.size, 0, _, rfl, by rw [← hsz]; exact hge, by simp, fun j hj => ?_⟩
    rw [Nat.zero_add]
    have h1 := bytesRow_at ⟨l.toArray⟩ (grownCap W (⟨l.toArray⟩ : ByteArray).size 0 5) j (by simpa using hj)
    have h2 := cell_of_row (W.drew.alloc (.cells (bytesRow ⟨l.toArray⟩ (grownCap W (⟨l.toArray⟩ : ByteArray).size 0 5)) 5 ((bytesRow ⟨l.toArray⟩ (grownCap W (⟨l.toArray⟩ : ByteArray).size 0 5)).size, (bytesRow ⟨l.toArray⟩ (grownCap W (⟨l.toArray⟩ : ByteArray).size 0 5)).size + 1))) W.heap.size j _ _ _ (heap_alloc_new W.drew _)
    rw [h2, h1, List.getD_eq_getElem?_getD, List.getElem?_eq_getElem hj]
    simp
  · exact (Below.refl _ _).drew.alloc (Nat.le_refl _) _
set_option maxRecDepth 100000 in
set_option maxHeartbeats 4000000 in
theorem name_yes (k : Int) (d : List UInt8) (hs : d.length ≤ 80000) (w : World) (he : Eb w) (ht : Tb w) (hp : Pr w) (l : List (List UInt8 × Int)) (h : wantsO k d = some l) :
    Calls Tryz.prog 35 #[ObjV k d] w (RetBelow (.tuple #[SV (nameL (headL k d)), .nilIface]) w) := by
  have B0 := below_new w (.cells #[.int .i64 k, .string ⟨d.toArray⟩] 26)
  have hw := (wants_any k d (by omega) _ (he.below B0) (ht.below B0))
  have hw2 : Calls Tryz.prog 55 #[ObjV k d] (w.alloc (.cells #[.int .i64 k, .string ⟨d.toArray⟩] 26)) fun e w' => (∃ A n c, e = .returned (.tuple #[.slice A n c, .nilIface])) ∧ Below w.heap.size w w' ∧ w'.heap[w.heap.size]? = some (.cells #[.int .i64 k, .string ⟨d.toArray⟩] 26 (0, 0)) := by
    refine hw.mono ?_
    intro e w' hh
    refine ⟨?_, B0.trans (hh.2.mono B0.size), (hh.2.block _ (by simp)).trans (heap_alloc_new _ _)⟩
    rcases hh.ret with ⟨A, n, c, rfl, _⟩ | ⟨_, _, _, _, _, ho⟩
    · exact ⟨A, n, c, rfl⟩
    · rw [h] at ho; cases ho
  have HW := Lib.hid hw2
  obtain ⟨kw, hkw⟩ : ∃ kw, kw = kindW k := ⟨_, rfl⟩
  obtain ⟨tx, htx⟩ : ∃ tx, tx = textL (d.length : Int) := ⟨_, rfl⟩
  have hk6 : kw.length ≤ 6 := by rw [hkw]; exact kind_short k
  have ht20 : tx.length ≤ 20 := by rw [htx]; exact textL_len (by omega)
  have hall : ((kw ++ [32]) ++ tx ++ [10]) ++ d = headL k d := by rw [hkw, htx]; unfold headL; simp
  have HWd : Hid (∀ W : World, Calls Tryz.prog 57 #[.int .i64 k] W fun e w' => e = .returned (.string ⟨kw.toArray⟩) ∧ W = w') := Lib.hid fun W => by rw [hkw]; exact word_any k W
  have HTx : Hid (∀ W : World, Below w.heap.size w W → Calls Tryz.prog 58 #[.int .i64 (d.length : Int)] W fun e w' => e = .returned (.string ⟨tx.toArray⟩) ∧ Below W.heap.size W w') := Lib.hid fun W hW => by rw [htx]; exact Text_any _ (by omega) (by omega) W (ht.below hW)
  have HNm : Hid (∀ (W : World) (v : Value), Below w.heap.size w W → Rb W v (headL k d) → Calls Tryz.prog 56 #[v] W fun e w' => e = .returned (SV (nameL (headL k d))) ∧ Below W.heap.size W w') := Lib.hid fun W v hW hr => Name_any W v _ (hp.below hW hp.lt) (by rw [← hall]; simp; omega) hr
  have HAll := Lib.hid hall
  obtain ⟨p1, h1⟩ : ∃ p1, p1 = kw ++ [32] := ⟨_, rfl⟩
  obtain ⟨p2, h2⟩ : ∃ p2, p2 = p1 ++ tx := ⟨_, rfl⟩
  obtain ⟨p3, h3⟩ : ∃ p3, p3 = p2 ++ [10] := ⟨_, rfl⟩
  obtain ⟨p4, h4⟩ : ∃ p4, p4 = headL k d := ⟨_, rfl⟩
  have z1 : p1.length ≤ 7 := by rw [h1]; simp; omega
  have z2 : p2.length ≤ 27 := by rw [h2]; simp; omega
  have z3 : p3.length ≤ 28 := by rw [h3]; simp; omega
  have c1 := cat_run kw [32] ⟨p1.toArray⟩ (by rw [h1]) (by omega) (by simp)
  have c2 := cat_run p1 tx ⟨p2.toArray⟩ (by rw [h2]) (by omega) (by omega)
  have c3 := cat_run p2 [10] ⟨p3.toArray⟩ (by rw [h3]) (by omega) (by simp)
  have c4 := cat_run p3 d ⟨p4.toArray⟩ (by rw [h4, h3, h2, h1, hall]) (by omega) (by omega)
  rw [← h4] at HNm ⊢
  have C1 := Lib.hid c1; have C2 := Lib.hid c2; have C3 := Lib.hid c3; have C4 := Lib.hid c4
  unfold ObjV at HW ⊢
  clear he ht hp hw hw2 B0 h hkw htx hall c1 c2 c3 c4 h1 h2 h3 h4 z1 z2 z3 HAll
  go_enter Tryz.func35, Tryz.ntmps35
  go_wp2_with fail
  refine HW.out.mono ?_
  rintro e w1 ⟨⟨A, n, c, rfl⟩, hb, hbk⟩
  have q0 : ∀ W, Below w1.drew.heap.size w1.drew W → W.cell? ⟨w.heap.size, 0, none⟩ = some (.int .i64 k) := fun W hW => (hW.cell (p := ⟨w.heap.size, 0, none⟩) (lt_heap hbk)).trans (cell_of_blk' hbk rfl)
  have q1 : ∀ W, Below w1.drew.heap.size w1.drew W → W.cell? ⟨w.heap.size, 1, none⟩ = some (.string ⟨d.toArray⟩) := fun W hW => (hW.cell (p := ⟨w.heap.size, 1, none⟩) (lt_heap hbk)).trans (cell_of_blk' hbk rfl)
  have Q0 := Lib.hid q0; have Q1 := Lib.hid q1; have HB := Lib.hid hb.drew
  clear q0 q1 hbk hb
  go_wp2_with fail
  refine AnyB.start (by kernel_rfl) ?_
  refine AnyB.take 0 (.pointer (some ⟨w.heap.size, 0, none⟩)) rfl (by kernel_rfl) (by kernel_rfl) (by kernel_rfl) (fun _ _ _ h => h) (by kernel_rfl) (fun W hW => by kernel_rfl) ?_
  refine AnyB.take 1 (.int .i64 k) rfl (by kernel_rfl) (by kernel_rfl) (by kernel_rfl) (fun _ _ _ h => h) (by kernel_rfl) (fun W hW => y_load (sv := .pointer (some ⟨w.heap.size, 0, none⟩)) rfl (by kernel_rfl) (by have hW2 := Q0.out W hW; simp [go_sem, hW2])) ?_
  refine AnyB.take 4 (.pointer (some ⟨w.heap.size, 1, none⟩)) rfl (by kernel_rfl) (by kernel_rfl) (by kernel_rfl) (fun _ _ _ h => h) (by kernel_rfl) (fun W hW => by kernel_rfl) ?_
  refine AnyB.take 5 (.string ⟨d.toArray⟩) rfl (by kernel_rfl) (by kernel_rfl) (by kernel_rfl) (fun _ _ _ h => h) (by kernel_rfl) (fun W hW => y_load (sv := .pointer (some ⟨w.heap.size, 1, none⟩)) rfl (by kernel_rfl) (by have hW2 := Q1.out W hW; simp [go_sem, hW2])) ?_
  refine AnyB.take 6 (.int .i64 (d.length : Int)) rfl (by kernel_rfl) (by kernel_rfl) (by kernel_rfl) (fun _ _ _ h => h) (by kernel_rfl) (fun W hW => by kernel_rfl) ?_
  refine AnyB.take 10 (.pointer (some ⟨w.heap.size, 1, none⟩)) rfl (by kernel_rfl) (by kernel_rfl) (by kernel_rfl) (fun _ _ _ h => h) (by kernel_rfl) (fun W hW => by kernel_rfl) ?_
  refine AnyB.take 11 (.string ⟨d.toArray⟩) rfl (by kernel_rfl) (by kernel_rfl) (by kernel_rfl) (fun _ _ _ h => h) (by kernel_rfl) (fun W hW => y_load (sv := .pointer (some ⟨w.heap.size, 1, none⟩)) rfl (by kernel_rfl) (by have hW2 := Q1.out W hW; simp [go_sem, hW2])) ?_
  refine AnyB.call 2 57 #[.int .i64 k] (by kernel_rfl) rfl (by kernel_rfl) (by kernel_rfl) ((HWd.out _).mono ?_)
  rintro e w2 ⟨rfl, rfl⟩
  refine ⟨_, rfl, Below.refl _ _, ?_⟩
  refine AnyB.take 3 (.string ⟨p1.toArray⟩) rfl (by kernel_rfl) (by kernel_rfl) (by kernel_rfl) (fun _ _ _ h => h) (by kernel_rfl) (fun W hW => y_bin (x := .string ⟨kw.toArray⟩) (y := .string ⟨#[32]⟩) rfl (by kernel_rfl) (by kernel_rfl) rfl (by have := C1.out W; simp [go_sem, this])) ?_
  refine AnyB.call 7 58 #[.int .i64 (d.length : Int)] (by kernel_rfl) rfl (by kernel_rfl) (by kernel_rfl) ((HTx.out _ HB.out).mono ?_)
  rintro e w2 ⟨rfl, l2⟩
  refine ⟨_, rfl, l2, ?_⟩
  have L2 := Lib.hid (HB.out.trans (l2.mono HB.out.size))
  refine AnyB.take 8 (.string ⟨p2.toArray⟩) rfl (by kernel_rfl) (by kernel_rfl) (by kernel_rfl) (fun _ _ _ h => h) (by kernel_rfl) (fun W hW => y_bin (x := .string ⟨p1.toArray⟩) (y := .string ⟨tx.toArray⟩) rfl (by kernel_rfl) (by kernel_rfl) rfl (by have := C2.out W; simp only [binOp]; simp [go_sem, this])) ?_
  refine AnyB.take 9 (.string ⟨p3.toArray⟩) rfl (by kernel_rfl) (by kernel_rfl) (by kernel_rfl) (fun _ _ _ h => h) (by kernel_rfl) (fun W hW => y_bin (x := .string ⟨p2.toArray⟩) (y := .string ⟨#[10]⟩) rfl (by kernel_rfl) (by kernel_rfl) rfl (by have := C3.out W; simp [go_sem, this])) ?_
  refine AnyB.take 12 (.string ⟨p4.toArray⟩) rfl (by kernel_rfl) (by kernel_rfl) (by kernel_rfl) (fun _ _ _ h => h) (by kernel_rfl) (fun W hW => y_bin (x := .string ⟨p3.toArray⟩) (y := .string ⟨d.toArray⟩) rfl (by kernel_rfl) (by kernel_rfl) rfl (by have := C4.out W; simp [go_sem, this])) ?_
  obtain ⟨A3, c3, w3, hrun, hr3, l3⟩ := conv_bytes w2 (p4)
  refine AnyB.op 13 (.slice A3 (p4).length c3) w3 (by kernel_rfl) rfl (by kernel_rfl) (y_conv' (x := .string ⟨p4.toArray⟩) rfl (by kernel_rfl) hrun) l3 ?_
  have L3 := Lib.hid (L2.out.trans (l3.mono L2.out.size))
  refine AnyB.call 14 56 #[.slice A3 (p4).length c3] (by kernel_rfl) rfl (by kernel_rfl) (by kernel_rfl) ((HNm.out _ _ L3.out hr3).mono ?_)
  rintro e w4 ⟨rfl, l4⟩
  refine ⟨_, rfl, l4, ?_⟩
  have L4 := Lib.hid (L3.out.trans (l4.mono L3.out.size))
  clear hrun hr3 l3 l4 l2
  unfold SV
  refine AnyB.take 15 (.string ⟨(nameL p4).toArray⟩) rfl (by kernel_rfl) (by kernel_rfl) (by kernel_rfl) (fun _ _ _ h => h) (by kernel_rfl) (fun W hW => by kernel_rfl) ?_
  refine AnyB.take 16 .nilIface rfl (by kernel_rfl) (by kernel_rfl) (by kernel_rfl) (fun _ _ _ h => h) (by kernel_rfl) (fun W hW => by kernel_rfl) ?_
  refine AnyB.done _ (by kernel_rfl) ?_
  go_simp
  go_wp2_with fail
  go_ret2
  exact ⟨rfl, L4.out⟩
/-- There is an error. -/
def NmNo (w : World) (e : Ending) (w' : World) : Prop := (∃ p, e = .returned (.tuple #[.string ⟨#[]⟩, .iface 105 (.pointer (some p))])) ∧ Below w.heap.size w w'
set_option maxRecDepth 100000 in
set_option maxHeartbeats 4000000 in
theorem name_no (k : Int) (d : List UInt8) (hs : d.length ≤ 80000) (w : World) (he : Eb w) (ht : Tb w) (h : wantsO k d = none) :
    Calls Tryz.prog 35 #[ObjV k d] w (NmNo w) := by
  have B0 := below_new w (.cells #[.int .i64 k, .string ⟨d.toArray⟩] 26)
  have hw := (wants_any k d (by omega) _ (he.below B0) (ht.below B0))
  have hw2 : Calls Tryz.prog 55 #[ObjV k d] (w.alloc (.cells #[.int .i64 k, .string ⟨d.toArray⟩] 26)) fun e w' => (∃ A n c p, e = .returned (.tuple #[.slice A n c, .iface 105 (.pointer (some p))])) ∧ Below w.heap.size w w' := by
    refine hw.mono ?_
    intro e w' hh
    refine ⟨?_, B0.trans (hh.2.mono B0.size)⟩
    rcases hh.ret with ⟨A, n, c, rfl, l, ho, _⟩ | ⟨A, n, c, p, rfl, _⟩
    · rw [h] at ho; cases ho
    · exact ⟨A, n, c, p, rfl⟩
  have HW := Lib.hid hw2
  unfold ObjV at HW ⊢
  clear he ht hw hw2 B0 h
  go_enter Tryz.func35, Tryz.ntmps35
  go_wp2_with fail
  refine HW.out.mono ?_
  rintro e w1 ⟨⟨A, n, c, p, rfl⟩, hb⟩
  have HB := Lib.hid hb
  clear hb
  go_wp2_with fail
  go_ret2
  exact ⟨⟨p, rfl⟩, HB.out⟩
/-- An object's name; nothing, if it is not right. -/
def idL (k : Int) (d : List UInt8) : List UInt8 := if (wantsO k d).isSome then nameL (headL k d) else []
set_option maxRecDepth 100000 in
set_option maxHeartbeats 4000000 in
theorem Id_any (k : Int) (d : List UInt8) (hs : d.length ≤ 80000) (w : World) (he : Eb w) (ht : Tb w) (hp : Pr w) :
    Calls Tryz.prog 19 #[ObjV k d] w (RetBelow (SV (idL k d)) w) := by
  have B0 := below_new w (.cells #[.int .i64 k, .string ⟨d.toArray⟩] 26)
  have HB := Lib.hid B0
  cases h : wantsO k d with
  | none =>
    have HN := Lib.hid (name_no k d hs _ (he.below B0) (ht.below B0) h)
    have e0 : idL k d = [] := by unfold idL; rw [h]; rfl
    rw [e0]
    have HE := Lib.hid he
    unfold ObjV at HN ⊢
    unfold SV
    clear he ht hp h e0 B0
    go_enter Tryz.func19, Tryz.ntmps19
    go_wp2_with fail
    refine HN.out.mono ?_
    rintro e w1 ⟨⟨p, rfl⟩, l1⟩
    have L1 := Lib.hid (HB.out.trans (l1.mono HB.out.size))
    have HT := Lib.hid (toldS_fault (.string ⟨#[]⟩) (.iface 105 (.pointer (some p))) w1 ⟨p, rfl⟩ (HE.out.below L1.out).er.et)
    clear l1
    go_wp2_with fail
    refine HT.out.mono ?_
    rintro e w2 ⟨rfl, l2⟩
    go_wp2_with fail
    go_ret
    exact ⟨rfl, L1.out.trans (l2.mono L1.out.size)⟩
  | some l =>
    have HN := Lib.hid (name_yes k d hs _ (he.below B0) (ht.below B0) (hp.below B0 hp.lt) l h)
    have e0 : idL k d = nameL (headL k d) := by unfold idL; rw [h]; rfl
    rw [← e0] at HN
    obtain ⟨nm, hnm⟩ : ∃ nm, nm = idL k d := ⟨_, rfl⟩
    rw [← hnm] at HN ⊢
    unfold ObjV at HN ⊢
    unfold SV at HN ⊢
    clear he ht hp h e0 hnm B0
    go_enter Tryz.func19, Tryz.ntmps19
    go_wp2_with fail
    refine HN.out.mono ?_
    rintro e w1 ⟨rfl, l1⟩
    have L1 := Lib.hid (HB.out.trans (l1.mono HB.out.size))
    have HT := Lib.hid (toldS_nil (.string ⟨nm.toArray⟩) w1)
    clear l1
    go_wp2_with fail
    refine HT.out.mono ?_
    rintro e w2 ⟨rfl, l2⟩
    go_wp2_with fail
    go_ret
    exact ⟨rfl, L1.out.trans (l2.mono L1.out.size)⟩
end Go.Proofs.YthbmaloajgkhmaaGreatDoor
