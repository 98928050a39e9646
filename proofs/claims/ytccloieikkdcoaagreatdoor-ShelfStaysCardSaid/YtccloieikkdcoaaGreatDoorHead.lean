/-
  head: a live question, whose answer is fixed.
-/
import Derived.Test.YtccloieikkdcoaaGreatDoorFiles
import Derived.Lib.SlBytesConst
import Derived.Deep.OwnRows
namespace Go.Proofs.YtccloieikkdcoaaGreatDoor
open Go Go.RowKit Go.Maps Go.Shelf

def zeros (n : Nat) : By := List.replicate n 0
theorem zeros_len (n : Nat) : (zeros n).length = n := List.length_replicate

def hs1 : St := { files := [([97, 47, 120], [49, 50])], synced := [], loose := [([97], .write [97, 47, 120] [49, 50])], room := 10, acts := 1, fuse := -1, down := false }
def hs2 : St := { files := [([97, 47, 120], [49, 50]), ([98, 47, 121], [51])], synced := [], loose := [([97], .write [97, 47, 120] [49, 50]), ([98], .write [98, 47, 121] [51])], room := 10, acts := 2, fuse := -1, down := false }
def hs3 : St := { files := [([97, 47, 120], [49, 50]), ([98, 47, 121], [51])], synced := [([97, 47, 120], [49, 50])], loose := [([98], .write [98, 47, 121] [51])], room := 10, acts := 3, fuse := -1, down := false }
def hs4 : St := { files := [([97, 47, 120], [49, 50])], synced := [([97, 47, 120], [49, 50])], loose := [], room := 10, acts := 3, fuse := -1, down := false }
theorem hs1_eq : doSt (newSt 10 []) (writeErr [97, 47, 120] (([49, 50] : By).length) (newSt 10 [])) (wrote [97, 47, 120] [49, 50] (newSt 10 [])) = hs1 := by kernel_rfl
theorem hn1_eq : doN (newSt 10 []) (writeErr [97, 47, 120] (([49, 50] : By).length) (newSt 10 [])) = 0 := by kernel_rfl
theorem hs2_eq : doSt hs1 (writeErr [98, 47, 121] (([51] : By).length) hs1) (wrote [98, 47, 121] [51] hs1) = hs2 := by kernel_rfl
theorem hn2_eq : doN hs1 (writeErr [98, 47, 121] (([51] : By).length) hs1) = 0 := by kernel_rfl
theorem hs3_eq : doSt hs2 (syncErr [97]) (syncedSt [97] hs2) = hs3 := by kernel_rfl
theorem hn3_eq : doN hs2 (syncErr [97]) = 0 := by kernel_rfl
theorem hs3w_eq (b : By) : doSt hs3 (writeErr [97, 47, 122] ((zeros 9).length) hs3) (wrote [97, 47, 122] b hs3) = hs3 := by kernel_rfl
theorem hn3w_eq : doN hs3 (writeErr [97, 47, 122] ((zeros 9).length) hs3) = 11 := by kernel_rfl
theorem hs3r_eq : doSt hs3 (renameErr [98, 47, 113] [98, 47, 114] hs3.files) (renamed [98, 47, 113] [98, 47, 114] hs3) = hs3 := by kernel_rfl
theorem hn3r_eq : doN hs3 (renameErr [98, 47, 113] [98, 47, 114] hs3.files) = 12 := by kernel_rfl
theorem hs4_eq : crashSt [] hs3 = hs4 := by kernel_rfl
theorem hb0 : Bd (newSt 10 []) 10 := ⟨by decide, by decide, by simp [newSt], by simp [newSt], by simp [newSt], by simp [newSt], by decide⟩
theorem hb1 : Bd hs1 10 := ⟨by decide, by decide, by simp [hs1], by simp [hs1], by simp [hs1], by simp [hs1, Act.fits, maxLen], by decide⟩
theorem hb2 : Bd hs2 10 := ⟨by decide, by decide, by simp [hs2], by simp [hs2], by simp [hs2], by simp [hs2, Act.fits, maxLen], by decide⟩
theorem hb3 : Bd hs3 10 := ⟨by decide, by decide, by simp [hs3], by simp [hs3], by simp [hs3], by simp [hs3, Act.fits, maxLen], by decide⟩
theorem hb4 : Bd hs4 10 := ⟨by decide, by decide, by simp [hs4], by simp [hs4], by simp [hs4], by simp [hs4], by decide⟩

theorem DoPost.cast {base s f y : Nat} {n n' : Int} {st st' : St} {w : World} {g : Nat} {args : Array Value} (hn : n = n') (hs : st = st') (h : Calls Tryz.prog g args w (DoPost base s f y n st w)) : Calls Tryz.prog g args w (DoPost base s f y n' st' w) := by subst hn; subst hs; exact h

theorem bytes_laid (w : World) (b : By) (cs : Array Value) (fr : Nat × Nat) (c : Nat) (hc : cs = (b.map bv).toArray) : BytesAt (w.alloc (.cells cs 5 fr)) (.slice (some ⟨w.heap.size, 0, none⟩) b.length c) b := by
  subst hc
  refine .inr ⟨_, _, rfl, fun i hi => ?_⟩
  have h : (w.alloc (.cells (b.map bv).toArray 5 fr)).heap[w.heap.size]? = some (.cells (b.map bv).toArray 5 fr) := heap_alloc_new w _
  rw [show (⟨w.heap.size, 0, none⟩ : Addr).add i = ⟨w.heap.size, i, none⟩ by unfold Addr.add; split <;> simp_all]
  unfold World.cell?
  simp only [h]
  simp

theorem made_zeros (n : Nat) : madeCells #[.int .u8 0] n = ((zeros n).map bv).toArray := by
  apply Array.ext
  · simp [madeCells, zeros]
  · intro i h1 h2
    simp [madeCells, zeros, Nat.mod_one]
    rfl

theorem run_make_bytes (n : Nat) (hn : n ≤ 281474976710656) (w : World) : (Instr.makeSlice 31 (.int .i64 n) (.int .i64 n)).run Tryz.prog w = .ok (.slice (some ⟨w.heap.size, 0, none⟩) n n) (w.alloc (.cells (madeCells #[.int .u8 0] n) 5)) :=
  run_make_row' 31 5 (.int .u8 0) 1 Tryz.underlying31 infoByte rfl .i64 .i64 n (by omega) (by omega) w

theorem one_file {w : World} {B : Nat} {v : Value} (h : FilesIn w B v hs4.files) : ∃ g cap pv, v = .slice (some ⟨g, 0, none⟩) 1 cap ∧ w.cell? ⟨g, 0, none⟩ = some (.string ⟨#[97, 47, 120]⟩) ∧ w.cell? ⟨g, 1, none⟩ = some pv := by
  obtain ⟨vs, hrow, hfs⟩ := h
  have hrow' := hrow
  rcases hrow.2 with ⟨_, h0⟩ | ⟨g, cap, cur, rfl, _⟩
  · cases h0
  · obtain ⟨pv, e0, e1, _⟩ := hfs.at 0 _ (show hs4.files[0]? = some ([97, 47, 120], [49, 50]) from rfl)
    have c0 := World.ownsRow.cells hrow' (g := g) rfl _ _ e0
    have c1 := World.ownsRow.cells hrow' (g := g) rfl _ _ e1
    exact ⟨g, cap, pv, rfl, c0, c1⟩

def HeadPost (w : World) (e : Ending) (w' : World) : Prop := e = .returned (.bool true) ∧ Below w.heap.size w w'

set_option maxHeartbeats 8000000 in
set_option maxRecDepth 100000 in
theorem head_any (w : World) (het : Et w) (hg : 0 < w.heap.size) : Calls Tryz.prog 6 #[] w (HeadPost w) := by
  have Ho := Lib.hid (New_any 10 w (Nat.le_refl _))
  have kc := fun (w : World) (C : Array Value) (n c : Nat) => Lib.run_convert_bytes_const (P := Tryz.prog) w 31 5 C n c Tryz.underlying31 Tryz.underlying5
  go_enter Tryz.func6, Tryz.ntmps6
  go_wp2_with fail
  refine Ho.out.mono ?_
  rintro e w2 ⟨s, f, y, rfl, hk, hB2⟩
  have Hk := Lib.hid hk; have HB := Lib.hid hB2; clear hk hB2
  go_wp2_with fail
  have k13 : K w.heap.size w (w2.alloc (.cells #[.int .u8 49, .int .u8 50] 5 (2, 3))) := (K.of_new (base := w.heap.size) HB.out (Nat.le_refl _)).trans (K.of_new (base := w.heap.size) (below_alloc w2 _) HB.out.size)
  have hk1 := Hk.out.keep (below_alloc w2 (.cells #[.int .u8 49, .int .u8 50] 5 (2, 3)))
  have h1 := DoPost.cast hn1_eq hs1_eq (Write_any hk1 hb0 (het.keep k13 hg) hg (p := [97, 47, 120]) (b := [49, 50]) (by decide) (by decide) (bytes_laid w2 [49, 50] _ _ 2 (by kernel_rfl)))
  have H1 := Lib.hid h1
  clear h1 hk1
  refine H1.out.mono ?_
  rintro e w3 ⟨rfl, k3, lv3, hok3⟩
  have k3w := k13.trans k3
  have B4 := below_alloc w3 (.cells #[.int .u8 51] 5 (1, 2))
  have k34 := k3w.trans (K.of_new B4 hok3.base_le)
  have h2 := DoPost.cast hn2_eq hs2_eq (Write_any (hok3.keep B4) hb1 (het.keep k34 hg) hg (p := [98, 47, 121]) (b := [51]) (by decide) (by decide) (bytes_laid w3 [51] _ _ 1 (by kernel_rfl)))
  have H2 := Lib.hid h2; have K34 := Lib.hid k34
  clear h2 k34 k3w k13 k3 hok3 B4
  go_wp2_with fail
  refine H2.out.mono ?_
  rintro e w4 ⟨rfl, k4, lv4, hok4⟩
  have k4w := K34.out.trans k4
  have h3 := DoPost.cast hn3_eq hs3_eq (Sync_any hok4 hb2 (het.keep k4w hg) hg (d := [97]) (by decide))
  have H3 := Lib.hid h3; have K4 := Lib.hid k4w
  clear h3 k4w k4 hok4
  go_wp2_with fail
  refine H3.out.mono ?_
  rintro e w5 ⟨rfl, k5, lv5, hok5⟩
  have K5 := Lib.hid (K4.out.trans k5); have Hk5 := Lib.hid hok5
  have B6 := below_alloc w5 (.cells (madeCells #[.int .u8 0] 9) 5)
  have k6 := K5.out.trans (K.of_new B6 Hk5.out.base_le)
  have h4 := DoPost.cast hn3w_eq (hs3w_eq _) (Write_any (Hk5.out.keep B6) hb3 (het.keep k6 hg) hg (p := [97, 47, 122]) (b := zeros 9) (by decide) (by decide) (bytes_laid w5 (zeros 9) _ _ 9 (made_zeros 9)))
  have H4 := Lib.hid h4; have K6 := Lib.hid k6
  have hmk : ∀ w : World, (Instr.makeSlice 31 (.int .i64 9) (.int .i64 9)).run Tryz.prog w = .ok (.slice (some ⟨w.heap.size, 0, none⟩) 9 9) (w.alloc (.cells (madeCells #[.int .u8 0] 9) 5)) := run_make_bytes 9 (by omega)
  clear k5 hok5 h4 k6 B6
  go_wp2_with fail
  refine H4.out.mono ?_
  rintro e w7 ⟨rfl, k7, lv7, hok7⟩
  have k7w := K6.out.trans k7
  have h5 := DoPost.cast hn3r_eq hs3r_eq (Rename_any hok7 hb3 (het.keep k7w hg) hg (p := [98, 47, 113]) (q := [98, 47, 114]) (by decide) (by decide))
  have H5 := Lib.hid h5; have K7 := Lib.hid k7w
  clear h5 k7w k7 hok7
  go_wp2_with fail
  refine H5.out.mono ?_
  rintro e w8 ⟨rfl, k8, lv8, hok8⟩
  have k8w := K7.out.trans k8
  have h6 := Crash_any hok8 hb3 (kv := .slice none 0 0) (ks := []) (.inl ⟨rfl, rfl⟩) (by decide)
  rw [hs4_eq] at h6
  have H6 := Lib.hid h6; have K8 := Lib.hid k8w
  clear h6 k8w k8 hok8
  go_wp2_with fail
  refine H6.out.mono ?_
  rintro e w9 ⟨rfl, k9, f9, hok9⟩
  have k9w := K8.out.trans k9
  have h7 := Files_any hok9 hb4
  have H7 := Lib.hid h7; have K9 := Lib.hid k9w; have Hk9 := Lib.hid hok9
  clear h7 k9w k9 hok9
  go_wp2_with fail
  refine H7.out.mono ?_
  rintro e w10 ⟨v, rfl, hfl, hB10⟩
  have hk10 := Hk9.out.keep hB10
  have k10 := K9.out.trans (K.of_new hB10 Hk9.out.base_le)
  have h8 := Acts_any hk10
  have h9 := Loose_any hk10
  have h10 := Used_any hk10 hb4.size
  obtain ⟨g1, cap1, v1, rfl, x0, x1⟩ := one_file hfl
  have K10 := Lib.hid k10; have H8 := Lib.hid h8; have H9 := Lib.hid h9; have H10 := Lib.hid h10
  clear hB10 hk10 k10 h8 h9 h10 hfl
  go_wp2_with fail
  refine H8.out.mono ?_
  rintro e w10' ⟨rfl, rfl⟩
  go_wp2_with fail
  refine H9.out.mono ?_
  rintro e w10' ⟨rfl, rfl⟩
  go_wp2_with fail
  refine H10.out.mono ?_
  rintro e w11 ⟨rfl, hB11⟩
  have HB11 := Lib.hid hB11; clear hB11
  go_wp2_with fail
  go_ret
  exact ⟨rfl, (K10.out.trans (K.of_new HB11.out K10.out.size)).below⟩
end Go.Proofs.YtccloieikkdcoaaGreatDoor
