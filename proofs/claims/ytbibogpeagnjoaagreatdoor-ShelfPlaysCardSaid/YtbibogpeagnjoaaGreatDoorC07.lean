/-
  head: a live question, whose answer is fixed.
  What comes in: slices of bytes, of files, as they read.
  What comes in: slices of bools, of calls, as they read.
  Great, GreatFiles: is it too much?
-/
import Derived.Lib.SlBytesConst
import Derived.Deep.OwnRows
import Derived.Test.YtbibogpeagnjoaaGreatDoorC06
import Derived.Deep.Slices
import Derived.ChangeArms
import Derived.DataShut
import Derived.SizedLaws
import Derived.Deep.QuietTactic
import Derived.BigQuiet

namespace Go.Proofs.YtbibogpeagnjoaaGreatDoor
open Go Go.RowKit Go.Maps Go.Shelf

def zeros (n : Nat) : By := List.replicate n 0
theorem zeros_len (n : Nat) : (zeros n).length = n := List.length_replicate

def hs1 : St := { files := [([97, 47, 120], [49, 50])], synced := [], loose := [([97], .write [97, 47, 120] [49, 50])], room := 10, acts := 1, fuse := -1, down := false }
def hs2 : St := { files := [([97, 47, 120], [49, 50]), ([98, 47, 121], [51])], synced := [], loose := [([97], .write [97, 47, 120] [49, 50]), ([98], .write [98, 47, 121] [51])], room := 10, acts := 2, fuse := -1, down := false }
def hs3 : St := { files := [([97, 47, 120], [49, 50]), ([98, 47, 121], [51])], synced := [([97, 47, 120], [49, 50])], loose := [([98], .write [98, 47, 121] [51])], room := 10, acts := 3, fuse := -1, down := false }
def hs4 : St := { files := [([97, 47, 120], [49, 50])], synced := [([97, 47, 120], [49, 50])], loose := [], room := 10, acts := 3, fuse := -1, down := false }
theorem hs1_eq : doSt (newSt 10 []) (writeErr [97, 47, 120] (([49, 50] : By).length) (newSt 10 [])) (wrote [97, 47, 120] [49, 50] (newSt 10 [])) = hs1 := by kernel_rfl
theorem hn1_eq : doN (newSt 10 []) (writeErr [97, 47, 120] (([49, 50] : By).length) (newSt 10 [])) = 0 := by kernel_rfl
theorem hs2_eq : doSt hs1 (writeErr [98, 47, 121] (([51] : By).length) hs1) (wrote [98, 47, 121] [51] hs1) = hs2 := by kernel_rfl
theorem hn2_eq : doN hs1 (writeErr [98, 47, 121] (([51] : By).length) hs1) = 0 := by kernel_rfl
theorem hs3_eq : doSt hs2 (syncErr [97]) (syncedSt [97] hs2) = hs3 := by kernel_rfl
theorem hn3_eq : doN hs2 (syncErr [97]) = 0 := by kernel_rfl
theorem hs3w_eq (b : By) : doSt hs3 (writeErr [97, 47, 122] ((zeros 9).length) hs3) (wrote [97, 47, 122] b hs3) = hs3 := by kernel_rfl
theorem hn3w_eq : doN hs3 (writeErr [97, 47, 122] ((zeros 9).length) hs3) = 11 := by kernel_rfl
theorem hs3r_eq : doSt hs3 (renameErr [98, 47, 113] [98, 47, 114] hs3.files) (renamed [98, 47, 113] [98, 47, 114] hs3) = hs3 := by kernel_rfl
theorem hn3r_eq : doN hs3 (renameErr [98, 47, 113] [98, 47, 114] hs3.files) = 12 := by kernel_rfl
theorem hs4_eq : crashSt [] hs3 = hs4 := by kernel_rfl
theorem hb0 : Bd (newSt 10 []) 10 := ⟨by decide, by decide, by simp [newSt], by simp [newSt], by simp [newSt], by simp [newSt], by decide⟩
theorem hb1 : Bd hs1 10 := ⟨by decide, by decide, by simp [hs1], by simp [hs1], by simp [hs1], by simp [hs1, Act.fits, maxLen], by decide⟩
theorem hb2 : Bd hs2 10 := ⟨by decide, by decide, by simp [hs2], by simp [hs2], by simp [hs2], by simp [hs2, Act.fits, maxLen], by decide⟩
theorem hb3 : Bd hs3 10 := ⟨by decide, by decide, by simp [hs3], by simp [hs3], by simp [hs3], by simp [hs3, Act.fits, maxLen], by decide⟩
theorem hb4 : Bd hs4 10 := ⟨by decide, by decide, by simp [hs4], by simp [hs4], by simp [hs4], by simp [hs4], by decide⟩

theorem DoPost.cast {base s f y : Nat} {n n' : Int} {st st' : St} {w : World} {g : Nat} {args : Array Value} (hn : n = n') (hs : st = st') (h : Calls Tryz.prog g args w (DoPost base s f y n st w)) : Calls Tryz.prog g args w (DoPost base s f y n' st' w) := by subst hn; subst hs; exact h

theorem bytes_laid (w : World) (b : By) (cs : Array Value) (fr : Nat × Nat) (c : Nat) (hc : cs = (b.map bv).toArray) : BytesAt (w.alloc (.cells cs 5 fr)) (.slice (some ⟨w.heap.size, 0, none⟩) b.length c) b := by
  subst hc
  refine .inr ⟨_, _, rfl, fun i hi => ?_⟩
  have h : (w.alloc (.cells (b.map bv).toArray 5 fr)).heap[w.heap.size]? = some (.cells (b.map bv).toArray 5 fr) := heap_alloc_new w _
  rw [show (⟨w.heap.size, 0, none⟩ : Addr).add i = ⟨w.heap.size, i, none⟩ by unfold Addr.add; split <;> simp_all]
  unfold World.cell?
  simp only [h]
  simp

theorem made_zeros (n : Nat) : madeCells #[.int .u8 0] n = ((zeros n).map bv).toArray := by
  apply Array.ext
  · simp [madeCells, zeros]
  · intro i h1 h2
    simp [madeCells, zeros, Nat.mod_one]
    rfl

theorem run_make_bytes (n : Nat) (hn : n ≤ 281474976710656) (w : World) : (Instr.makeSlice 31 (.int .i64 n) (.int .i64 n)).run Tryz.prog w = .ok (.slice (some ⟨w.heap.size, 0, none⟩) n n) (w.alloc (.cells (madeCells #[.int .u8 0] n) 5)) :=
  run_make_row' 31 5 (.int .u8 0) 1 Tryz.underlying31 infoByte rfl .i64 .i64 n (by omega) (by omega) w

theorem one_file {w : World} {B : Nat} {v : Value} (h : FilesIn w B v hs4.files) : ∃ g cap pv, v = .slice (some ⟨g, 0, none⟩) 1 cap ∧ w.cell? ⟨g, 0, none⟩ = some (.string ⟨#[97, 47, 120]⟩) ∧ w.cell? ⟨g, 1, none⟩ = some pv := by
  obtain ⟨vs, hrow, hfs⟩ := h
  have hrow' := hrow
  rcases hrow.2 with ⟨_, h0⟩ | ⟨g, cap, cur, rfl, _⟩
  · cases h0
  · obtain ⟨pv, e0, e1, _⟩ := hfs.at 0 _ (show hs4.files[0]? = some ([97, 47, 120], [49, 50]) from rfl)
    have c0 := World.ownsRow.cells hrow' (g := g) rfl _ _ e0
    have c1 := World.ownsRow.cells hrow' (g := g) rfl _ _ e1
    exact ⟨g, cap, pv, rfl, c0, c1⟩

def HeadPost (w : World) (e : Ending) (w' : World) : Prop := e = .returned (.bool true) ∧ Below w.heap.size w w'

set_option maxHeartbeats 8000000 in
set_option maxRecDepth 100000 in
theorem head_any (w : World) (het : Et w) (hg : 0 < w.heap.size) : Calls Tryz.prog 4 #[] w (HeadPost w) := by
  have Ho := Lib.hid (New_any 10 w (Nat.le_refl _))
  have kc := fun (w : World) (C : Array Value) (n c : Nat) => Lib.run_convert_bytes_const (P := Tryz.prog) w 31 5 C n c Tryz.underlying31 Tryz.underlying5
  go_enter Tryz.func4, Tryz.ntmps4
  go_wp2_with fail
  refine Ho.out.mono ?_
  rintro e w2 ⟨s, f, y, rfl, hk, hB2⟩
  have Hk := Lib.hid hk; have HB := Lib.hid hB2; clear hk hB2
  go_wp2_with fail
  have k13 : K w.heap.size w (w2.alloc (.cells #[.int .u8 49, .int .u8 50] 5 (2, 3))) := (K.of_new (base := w.heap.size) HB.out (Nat.le_refl _)).trans (K.of_new (base := w.heap.size) (below_alloc w2 _) HB.out.size)
  have hk1 := Hk.out.keep (below_alloc w2 (.cells #[.int .u8 49, .int .u8 50] 5 (2, 3)))
  have h1 := DoPost.cast hn1_eq hs1_eq (Write_any hk1 hb0 (het.keep k13 hg) hg (p := [97, 47, 120]) (b := [49, 50]) (by decide) (by decide) (bytes_laid w2 [49, 50] _ _ 2 (by kernel_rfl)))
  have H1 := Lib.hid h1
  clear h1 hk1
  refine H1.out.mono ?_
  rintro e w3 ⟨rfl, k3, lv3, hok3⟩
  have k3w := k13.trans k3
  have B4 := below_alloc w3 (.cells #[.int .u8 51] 5 (1, 2))
  have k34 := k3w.trans (K.of_new B4 hok3.base_le)
  have h2 := DoPost.cast hn2_eq hs2_eq (Write_any (hok3.keep B4) hb1 (het.keep k34 hg) hg (p := [98, 47, 121]) (b := [51]) (by decide) (by decide) (bytes_laid w3 [51] _ _ 1 (by kernel_rfl)))
  have H2 := Lib.hid h2; have K34 := Lib.hid k34
  clear h2 k34 k3w k13 k3 hok3 B4
  go_wp2_with fail
  refine H2.out.mono ?_
  rintro e w4 ⟨rfl, k4, lv4, hok4⟩
  have k4w := K34.out.trans k4
  have h3 := DoPost.cast hn3_eq hs3_eq (Sync_any hok4 hb2 (het.keep k4w hg) hg (d := [97]) (by decide))
  have H3 := Lib.hid h3; have K4 := Lib.hid k4w
  clear h3 k4w k4 hok4
  go_wp2_with fail
  refine H3.out.mono ?_
  rintro e w5 ⟨rfl, k5, lv5, hok5⟩
  have K5 := Lib.hid (K4.out.trans k5); have Hk5 := Lib.hid hok5
  have B6 := below_alloc w5 (.cells (madeCells #[.int .u8 0] 9) 5)
  have k6 := K5.out.trans (K.of_new B6 Hk5.out.base_le)
  have h4 := DoPost.cast hn3w_eq (hs3w_eq _) (Write_any (Hk5.out.keep B6) hb3 (het.keep k6 hg) hg (p := [97, 47, 122]) (b := zeros 9) (by decide) (by decide) (bytes_laid w5 (zeros 9) _ _ 9 (made_zeros 9)))
  have H4 := Lib.hid h4; have K6 := Lib.hid k6
  have hmk : ∀ w : World, (Instr.makeSlice 31 (.int .i64 9) (.int .i64 9)).run Tryz.prog w = .ok (.slice (some ⟨w.heap.size, 0, none⟩) 9 9) (w.alloc (.cells (madeCells #[.int .u8 0] 9) 5)) := run_make_bytes 9 (by omega)
  clear k5 hok5 h4 k6 B6
  go_wp2_with fail
  refine H4.out.mono ?_
  rintro e w7 ⟨rfl, k7, lv7, hok7⟩
  have k7w := K6.out.trans k7
  have h5 := DoPost.cast hn3r_eq hs3r_eq (Rename_any hok7 hb3 (het.keep k7w hg) hg (p := [98, 47, 113]) (q := [98, 47, 114]) (by decide) (by decide))
  have H5 := Lib.hid h5; have K7 := Lib.hid k7w
  clear h5 k7w k7 hok7
  go_wp2_with fail
  refine H5.out.mono ?_
  rintro e w8 ⟨rfl, k8, lv8, hok8⟩
  have k8w := K7.out.trans k8
  have h6 := Crash_any hok8 hb3 (kv := .slice none 0 0) (ks := []) (.inl ⟨rfl, rfl⟩) (by decide)
  rw [hs4_eq] at h6
  have H6 := Lib.hid h6; have K8 := Lib.hid k8w
  clear h6 k8w k8 hok8
  go_wp2_with fail
  refine H6.out.mono ?_
  rintro e w9 ⟨rfl, k9, f9, hok9⟩
  have k9w := K8.out.trans k9
  have h7 := Files_any hok9 hb4
  have H7 := Lib.hid h7; have K9 := Lib.hid k9w; have Hk9 := Lib.hid hok9
  clear h7 k9w k9 hok9
  go_wp2_with fail
  refine H7.out.mono ?_
  rintro e w10 ⟨v, rfl, hfl, hB10⟩
  have hk10 := Hk9.out.keep hB10
  have k10 := K9.out.trans (K.of_new hB10 Hk9.out.base_le)
  have h8 := Acts_any hk10
  have h9 := Loose_any hk10
  have h10 := Used_any hk10 hb4.size
  obtain ⟨g1, cap1, v1, rfl, x0, x1⟩ := one_file hfl
  have K10 := Lib.hid k10; have H8 := Lib.hid h8; have H9 := Lib.hid h9; have H10 := Lib.hid h10
  clear hB10 hk10 k10 h8 h9 h10 hfl
  go_wp2_with fail
  refine H8.out.mono ?_
  rintro e w10' ⟨rfl, rfl⟩
  go_wp2_with fail
  refine H9.out.mono ?_
  rintro e w10' ⟨rfl, rfl⟩
  go_wp2_with fail
  refine H10.out.mono ?_
  rintro e w11 ⟨rfl, hB11⟩
  have HB11 := Lib.hid hB11; clear hB11
  go_wp2_with fail
  go_ret
  exact ⟨rfl, (K10.out.trans (K.of_new HB11.out K10.out.size)).below⟩
end Go.Proofs.YtbibogpeagnjoaaGreatDoor


namespace Go.Proofs.YtbibogpeagnjoaaGreatDoor
open Go Go.RowKit Go.Maps Go.Shelf Go.Deep

/-- A slice value that reads as l, an element by R at its address. -/
def SliceAt {α : Type} (R : Addr → α → Prop) (size : Nat) (v : Value) (l : List α) : Prop :=
  ∃ x c, v = .slice x l.length c ∧ ∀ i o, l[i]? = some o → ∃ b off, x = some ⟨b, off, none⟩ ∧ R ⟨b, off + i * size, none⟩ o

theorem SliceAt.imp {α : Type} {R R' : Addr → α → Prop} {size : Nat} {v : Value} {l : List α} (h : SliceAt R size v l) (hr : ∀ a o, R a o → R' a o) : SliceAt R' size v l := by
  obtain ⟨x, c, rfl, hl⟩ := h
  refine ⟨x, c, rfl, fun i o ho => ?_⟩
  obtain ⟨b, off, e, hR⟩ := hl i o ho
  exact ⟨b, off, e, hr _ _ hR⟩

/-- How long what comes in may be. -/
def lim : Nat := 140737488355328
theorem lim_le : lim ≤ maxLen := by decide

theorem add_at (b off k : Nat) : (⟨b, off, none⟩ : Addr).add k = ⟨b, off + k, none⟩ := by
  unfold Addr.add; split <;> simp_all

section
variable {H : Type} {enc : TypeId × Value → H} {W : World} {base : Nat} {held : Bool}

/-- What came in is no greater than a reach. -/
def Fits (t : TypeId) (d : DataW H) : Prop := ∀ n ∈ d.weights Tryz.prog t, n ≤ reachBytes
theorem Fits.slice {t e : TypeId} {el sp : List (DataW H)} (h : Fits t (.slice el sp)) (hu : Tryz.prog.underlying t = some (.slice e)) : (el.length + sp.length) * Tryz.prog.bytesOf e ≤ reachBytes := h _ (by simp [DataW.weights, hu])
theorem mem_all {P : Program} {e : TypeId} {n : Nat} {d : DataW H} : ∀ {l : List (DataW H)}, d ∈ l → n ∈ d.weights P e → n ∈ DataW.weightsAll P e l
  | x :: l, hd, hn => by
    rw [DataW.weightsAll, List.mem_append]
    rcases List.mem_cons.1 hd with rfl | hd
    · exact .inl hn
    · exact .inr (mem_all hd hn)
theorem Fits.elem {t e : TypeId} {el sp : List (DataW H)} {d : DataW H} (h : Fits t (.slice el sp)) (hu : Tryz.prog.underlying t = some (.slice e)) (hd : d ∈ el) : Fits e d := fun n hn =>
  h _ (by simp only [DataW.weights, hu]; exact List.mem_cons_of_mem _ (List.mem_append_left _ (mem_all hd hn)))
theorem Fits.field {t : TypeId} {fs : Array Field} {xs : List (DataW H × List MemPlace)} {y : DataW H × List MemPlace} {i : Nat} {f : Field} (h : Fits t (.agg (xs.map (·.1)))) (hu : Tryz.prog.underlying t = some (.struct fs)) (hf : fs[i]? = some f) (hy : xs[i]? = some y) : Fits f.type y.1 := fun n hn =>
  h _ (by simp only [DataW.weights, hu]; exact DataW.weights_mem_each (j := i) (t := f.type) (d := y.1) (by simp [hf]) (by simp [hy]) n hn)

theorem open_bytes {fuel : Nat} {v : Value} {x : DataW H × List MemPlace} (h : DataW.trod enc Tryz.prog W base (fun _ => true) held fuel 31 [v] = some x) (hF : Fits 31 x.1) : ∃ b : By, b.length ≤ lim ∧ BytesAt W v b := by
  rcases open_slice1 Tryz.underlying31 (by kernel_rfl) h with ⟨h0, _⟩ | ⟨a, len, cap, m, n, V, D, Pl, h0, hb, hl, hm, hmm, rfl, hx⟩
  · cases h0
    exact ⟨[], by simp, .inl ⟨rfl, rfl⟩⟩
  · cases h0
    have hlm : len ≤ m := by rw [hmm]; split <;> omega
    have each : ∀ i, i < len → ∃ u : UInt8, V i = bv u := fun i hi => by
      obtain ⟨k, h1, _, h3⟩ := DataW.trod_int Tryz.underlying5 (hx i (by omega)).2
      have hk := (Lit.wf_int_iff .u8 k).1 h3
      have h0 : IntKind.u8.min = 0 := rfl
      have h255 : IntKind.u8.max = 255 := rfl
      obtain ⟨j, rfl⟩ := Int.eq_ofNat_of_zero_le (show 0 ≤ k by omega)
      refine ⟨UInt8.ofNat j, ?_⟩
      rw [show V i = .int .u8 (j : Nat) by simpa using h1]
      unfold bv
      rw [UInt8.toNat_ofNat_of_lt' (show j < UInt8.size by show j < 256; omega)]
    obtain ⟨f, hf⟩ := choose_lt each
    have hlen : ((List.range len).map f).length = len := by simp
    have hw := hF.slice Tryz.underlying31
    rw [show Tryz.prog.bytesOf 5 = 1 by kernel_rfl] at hw
    refine ⟨(List.range len).map f, by rw [hlen]; simp [reachBytes] at hw; unfold lim; omega, .inr ⟨a, cap, by rw [hlen], fun i hi => ?_⟩⟩
    rw [hlen] at hi
    rw [(hx i (by omega)).1, hf i hi]
    simp [hi]

/-- A slice of structs, opened. -/
theorem open_structs {α : Type} [Inhabited α] {t e : TypeId} {size fuel : Nat} {v : Value} {x : DataW H × List MemPlace} (R : Addr → α → Prop) (ht : Tryz.prog.underlying t = some (.slice e)) (hs : Tryz.prog.cellsOf e = size)
    (h : DataW.trod enc Tryz.prog W base (fun _ => true) held fuel t [v] = some x) (h0 : 0 < size) (hF : Fits t x.1) (hby : 0 < Tryz.prog.bytesOf e)
    (hel : ∀ b off n cs y, W.cells? base ⟨b, off, none⟩ size = some cs → DataW.trod enc Tryz.prog W base (fun _ => true) held n e cs = some y → Fits e y.1 → ∃ o, R ⟨b, off, none⟩ o) : ∃ l : List α, l.length ≤ lim ∧ SliceAt R size v l := by
  rcases open_slice ht h with ⟨h0, _⟩ | ⟨a, len, cap, m, n, D, Pl, h0', hb, hl, hm, hmm, rfl, hx⟩
  · cases h0
    exact ⟨[], by simp, none, 0, rfl, fun i o ho => by simp at ho⟩
  · cases h0'
    have hlm : len ≤ m := by rw [hmm]; split <;> omega
    rw [hs] at hx
    have hsp : 0 < len → a.spot = none := fun hi => by
      obtain ⟨cs, h1, _⟩ := hx 0 (by omega)
      obtain ⟨_, h3, h4⟩ := World.cells?_some h1
      have hc0 := h4 0 h0
      rw [List.getElem?_eq_getElem (by omega)] at hc0
      have hsp := World.cell?_spot hc0
      simpa [Addr.add] using hsp
    have each : ∀ i, i < len → ∃ o, a.spot = none ∧ R ⟨a.block, a.off + i * size, none⟩ o := fun i hi => by
      obtain ⟨cs, h1, h2⟩ := hx i (by omega)
      have hsp2 := hsp (by omega)
      have ea : a.add (i * size) = ⟨a.block, a.off + i * size, none⟩ := by
        obtain ⟨b, off, sp⟩ := a
        cases hsp2
        unfold Addr.add; split <;> simp_all
      rw [ea] at h1
      obtain ⟨o, ho⟩ := hel _ _ _ _ _ h1 h2 (hF.elem ht (List.mem_map.2 ⟨i, List.mem_range.2 hi, rfl⟩))
      exact ⟨o, hsp2, ho⟩
    obtain ⟨f, hf⟩ := choose_lt each
    have hlen : ((List.range len).map f).length = len := by simp
    have hw := hF.slice ht
    have hw2 : len ≤ reachBytes := by
      refine Nat.le_trans ?_ hw
      simp only [List.length_map, List.length_range]
      exact Nat.le_trans (Nat.le_add_right _ _) (Nat.le_mul_of_pos_right _ hby)
    refine ⟨(List.range len).map f, by rw [hlen]; simp [reachBytes] at hw2; unfold lim; omega, some a, cap, by rw [hlen], fun i o ho => ?_⟩
    have hi : i < len := by rw [← hlen]; exact (List.getElem?_eq_some_iff.1 ho).1
    obtain ⟨hsp, hr⟩ := hf i hi
    have eo : f i = o := by simpa [hi] using ho
    subst eo
    refine ⟨a.block, a.off, ?_, hr⟩
    obtain ⟨b, off, sp⟩ := a
    cases hsp; rfl
end

/-- A file that came in: at address a its two cells. -/
def FileAt (w : World) (a : Addr) (q : By × By) : Prop := ∃ v, w.cell? a = some (S q.1) ∧ w.cell? (a.add 1) = some v ∧ BytesAt w v q.2 ∧ q.1.length ≤ lim ∧ q.2.length ≤ lim
def FilesAt (w : World) (v : Value) (l : Tb) : Prop := SliceAt (FileAt w) 2 v l

theorem cell_below' {w w' : World} (hB : Below w.heap.size w w') {a : Addr} {v : Value} (h : w.cell? a = some v) : w'.cell? a = some v := (hB.cell (World.block_lt_of_cell? w _ h)).trans h

theorem FilesAt.below {w w' : World} {v : Value} {l : Tb} (h : FilesAt w v l) (hB : Below w.heap.size w w') : FilesAt w' v l :=
  h.imp fun _ _ ⟨v, h1, h2, h3, h4⟩ => ⟨v, cell_below' hB h1, cell_below' hB h2, h3.below hB, h4⟩


section
variable {H : Type} {enc : TypeId × Value → H} {W : World} {base : Nat} {held : Bool}

theorem cell1S : Tryz.prog.cellsOf 9 = 1 := by kernel_rfl
theorem cell1B : Tryz.prog.cellsOf 31 = 1 := by kernel_rfl

theorem fld {n off k : Nat} {t : TypeId} {cs : List Value} {y : Option (DataW H × List MemPlace)} (hc : Tryz.prog.cellsOf t = k) (h : DataW.trod enc Tryz.prog W base (fun _ => true) held n t ((cs.drop off).take (Tryz.prog.cellsOf t)) = y) : DataW.trod enc Tryz.prog W base (fun _ => true) held n t ((cs.drop off).take k) = y := hc ▸ h

set_option maxRecDepth 100000 in
theorem open_S {fuel : Nat} {v : Value} {x : DataW H × List MemPlace} (h : DataW.trod enc Tryz.prog W base (fun _ => true) held fuel 9 [v] = some x) (hF : Fits 9 x.1) : ∃ p : By, p.length ≤ lim ∧ v = S p := by
  obtain ⟨s, h1, rfl, h3⟩ := DataW.trod_string Tryz.underlying9 h
  cases h1
  have hw := hF s.data.toList.length (by simp [DataW.weights])
  exact ⟨s.data.toList, by simp [reachBytes] at hw; rw [Array.length_toList]; unfold lim; show s.size ≤ _; omega, rfl⟩

set_option maxRecDepth 100000 in
theorem open_file (b off n : Nat) (cs : List Value) (y : DataW H × List MemPlace) (h1 : W.cells? base ⟨b, off, none⟩ 2 = some cs) (h2 : DataW.trod enc Tryz.prog W base (fun _ => true) held n 52 cs = some y) (hF : Fits 52 y.1) : ∃ o, FileAt W ⟨b, off, none⟩ o := by
  obtain ⟨_, h3, h4⟩ := World.cells?_some h1
  obtain ⟨xs, n', _, rfl, _, hlen, hf⟩ := DataW.trod_struct Tryz.underlying52 h2
  match cs, h3 with
  | [v0, v1], _ =>
    match xs, hlen with
    | [y0, y1], _ =>
      have f0 := fld (cs := [v0, v1]) (off := 0) cell1S (hf 0 _ rfl)
      have f1 := fld (cs := [v0, v1]) (off := 1) cell1B (hf 1 _ rfl)
      obtain ⟨p, hp, rfl⟩ := open_S (v := v0) f0 (hF.field Tryz.underlying52 (i := 0) rfl rfl)
      obtain ⟨d, hd, hb⟩ := open_bytes (v := v1) f1 (hF.field Tryz.underlying52 (i := 1) rfl rfl)
      have c0 := h4 0 (by omega)
      have c1 := h4 1 (by omega)
      exact ⟨(p, d), v1, by simpa [Addr.add] using c0, c1, hb, hp, hd⟩

theorem open_files {fuel : Nat} {v : Value} {x : DataW H × List MemPlace} (h : DataW.trod enc Tryz.prog W base (fun _ => true) held fuel 22 [v] = some x) (hF : Fits 22 x.1) : ∃ l : Tb, l.length ≤ lim ∧ FilesAt W v l :=
  open_structs (FileAt W) Tryz.underlying22 (by kernel_rfl) h (by omega) hF (of_decide_eq_true (by kernel_rfl)) open_file
end
end Go.Proofs.YtbibogpeagnjoaaGreatDoor


namespace Go.Proofs.YtbibogpeagnjoaaGreatDoor
open Go Go.RowKit Go.Maps Go.Shelf Go.Deep

/-- A call. -/
structure OpR where
  what : Int
  path : By
  to : By
  b : By
  n : Int
  keep : List Bool
deriving Inhabited

def OpAt (w : World) (base : Nat) (a : Addr) (o : OpR) : Prop := ∃ v kv, w.cell? a = some (.int .i64 o.what) ∧ w.cell? (a.add 1) = some (S o.path) ∧ w.cell? (a.add 2) = some (S o.to) ∧ w.cell? (a.add 3) = some v ∧ w.cell? (a.add 4) = some (.int .i64 o.n) ∧ w.cell? (a.add 5) = some kv ∧
  BytesAt w v o.b ∧ BoolsAt w base kv o.keep ∧ (Lit.int .i64 o.what).wf = true ∧ (Lit.int .i64 o.n).wf = true ∧ o.path.length ≤ lim ∧ o.to.length ≤ lim ∧ o.b.length ≤ lim ∧ o.keep.length ≤ lim
def OpsAt (w : World) (base : Nat) (v : Value) (l : List OpR) : Prop := SliceAt (OpAt w base) 6 v l

theorem OpsAt.below {w w' : World} {v : Value} {l : List OpR} (h : OpsAt w w.heap.size v l) (hB : Below w.heap.size w w') : OpsAt w' w.heap.size v l :=
  h.imp fun _ _ ⟨v, kv, h1, h2, h3, h4, h5, h6, h7, h8, h9⟩ => ⟨v, kv, cell_below' hB h1, cell_below' hB h2, cell_below' hB h3, cell_below' hB h4, cell_below' hB h5, cell_below' hB h6, h7.below hB, h8.keep (K.of_new hB (Nat.le_refl _)), h9⟩

section
variable {H : Type} {enc : TypeId × Value → H} {W : World} {base : Nat} {held : Bool}

theorem cell1K : Tryz.prog.cellsOf 32 = 1 := by kernel_rfl
theorem cell1I : Tryz.prog.cellsOf 3 = 1 := by kernel_rfl

theorem open_bools {fuel : Nat} {v : Value} {x : DataW H × List MemPlace} (h : DataW.trod enc Tryz.prog W base (fun _ => true) held fuel 32 [v] = some x) (hF : Fits 32 x.1) : ∃ ks : List Bool, ks.length ≤ lim ∧ BoolsAt W W.heap.size v ks := by
  rcases open_slice1 Tryz.underlying32 (by kernel_rfl) h with ⟨h0, _⟩ | ⟨a, len, cap, m, n, V, D, Pl, h0, hb, hl, hm, hmm, rfl, hx⟩
  · cases h0
    exact ⟨[], by simp, .inl ⟨rfl, rfl⟩⟩
  · cases h0
    have hlm : len ≤ m := by rw [hmm]; split <;> omega
    have each : ∀ i, i < len → ∃ u : Bool, V i = .bool u := fun i hi => by
      obtain ⟨k, h1, _⟩ := DataW.trod_bool Tryz.underlying4 (hx i (by omega)).2
      exact ⟨k, by simpa using h1⟩
    obtain ⟨f, hf⟩ := choose_lt each
    have hlen : ((List.range len).map f).length = len := by simp
    have hw := hF.slice Tryz.underlying32
    rw [show Tryz.prog.bytesOf 4 = 1 by kernel_rfl] at hw
    refine ⟨(List.range len).map f, by rw [hlen]; simp [reachBytes] at hw; unfold lim; omega, .inr ⟨a, cap, by rw [hlen], fun i hi => ?_⟩⟩
    rw [hlen] at hi
    have hc := (hx i (by omega)).1
    refine ⟨.inl ?_, ?_⟩
    · have := World.block_lt_of_cell? W _ hc
      rwa [add_block] at this
    · rw [hc, hf i hi]; simp [hi]

set_option maxRecDepth 100000 in
theorem open_op (b off n : Nat) (cs : List Value) (y : DataW H × List MemPlace) (h1 : W.cells? base ⟨b, off, none⟩ 6 = some cs) (h2 : DataW.trod enc Tryz.prog W base (fun _ => true) held n 34 cs = some y) (hF : Fits 34 y.1) : ∃ o, OpAt W W.heap.size ⟨b, off, none⟩ o := by
  obtain ⟨_, h3, h4⟩ := World.cells?_some h1
  obtain ⟨xs, n', _, rfl, _, hlen, hf⟩ := DataW.trod_struct Tryz.underlying34 h2
  match cs, h3 with
  | [v0, v1, v2, v3, v4, v5], _ =>
    match xs, hlen with
    | [y0, y1, y2, y3, y4, y5], _ =>
      have f0 := fld (cs := [v0, v1, v2, v3, v4, v5]) (off := 0) cell1I (hf 0 _ rfl)
      have f1 := fld (cs := [v0, v1, v2, v3, v4, v5]) (off := 1) cell1S (hf 1 _ rfl)
      have f2 := fld (cs := [v0, v1, v2, v3, v4, v5]) (off := 2) cell1S (hf 2 _ rfl)
      have f3 := fld (cs := [v0, v1, v2, v3, v4, v5]) (off := 3) cell1B (hf 3 _ rfl)
      have f4 := fld (cs := [v0, v1, v2, v3, v4, v5]) (off := 4) cell1I (hf 4 _ rfl)
      have f5 := fld (cs := [v0, v1, v2, v3, v4, v5]) (off := 5) cell1K (hf 5 _ rfl)
      obtain ⟨i, e0, _, w0⟩ := DataW.trod_int (cs := [v0]) Tryz.underlying3 f0
      obtain ⟨p, hp, rfl⟩ := open_S (v := v1) f1 (hF.field Tryz.underlying34 (i := 1) rfl rfl)
      obtain ⟨q, hq, rfl⟩ := open_S (v := v2) f2 (hF.field Tryz.underlying34 (i := 2) rfl rfl)
      obtain ⟨d, hd, hb⟩ := open_bytes (v := v3) f3 (hF.field Tryz.underlying34 (i := 3) rfl rfl)
      obtain ⟨m, e4, _, w4⟩ := DataW.trod_int (cs := [v4]) Tryz.underlying3 f4
      obtain ⟨ks, hk, hkv⟩ := open_bools (v := v5) f5 (hF.field Tryz.underlying34 (i := 5) rfl rfl)
      cases e0
      cases e4
      have c0 := h4 0 (by omega)
      have c1 := h4 1 (by omega)
      have c2 := h4 2 (by omega)
      have c3 := h4 3 (by omega)
      have c4 := h4 4 (by omega)
      have c5 := h4 5 (by omega)
      exact ⟨⟨i, p, q, d, m, ks⟩, v3, v5, by simpa [Addr.add] using c0, c1, c2, c3, c4, c5, hb, hkv, w0, w4, hp, hq, hd, hk⟩

theorem open_ops {fuel : Nat} {v : Value} {x : DataW H × List MemPlace} (h : DataW.trod enc Tryz.prog W base (fun _ => true) held fuel 23 [v] = some x) (hF : Fits 23 x.1) : ∃ l : List OpR, l.length ≤ lim ∧ OpsAt W W.heap.size v l :=
  open_structs (OpAt W W.heap.size) Tryz.underlying23 (by kernel_rfl) h (by omega) hF (of_decide_eq_true (by kernel_rfl)) open_op
end
end Go.Proofs.YtbibogpeagnjoaaGreatDoor


namespace Go.Proofs.YtbibogpeagnjoaaGreatDoor
open Go Go.RowKit Go.Maps Go.Shelf Go.Deep

/-- Not too much. -/
def SmallOps (l : List OpR) : Prop := l.length ≤ 300 ∧ ∀ o ∈ l, o.path.length < 20000 ∧ o.to.length < 20000 ∧ o.b.length < 20000 ∧ o.keep.length < 20000
def GreatPost (l : List OpR) (w : World) (e : Ending) (w' : World) : Prop := ∃ g, e = .returned (.bool g) ∧ Below w.heap.size w w' ∧ (g = false → SmallOps l)

theorem BoolsAt.slice {w : World} {base : Nat} {v : Value} {ks : List Bool} (h : BoolsAt w base v ks) : ∃ a c, v = .slice a ks.length c := by
  rcases h with ⟨rfl, rfl⟩ | ⟨a, c, rfl, _⟩
  · exact ⟨none, 0, rfl⟩
  · exact ⟨_, _, rfl⟩
theorem wrap64_in {n : Int} (h : -9223372036854775808 ≤ n ∧ n ≤ 9223372036854775807) : wrap64 n = n := by
  unfold wrap64; omega
def OpR.cost (o : OpR) : Nat := min o.path.length 20000 + min o.to.length 20000 + min o.b.length 20000 + o.keep.length
def costs (l : List OpR) : Nat := (l.map OpR.cost).sum
theorem costs_snoc {l : List OpR} {k : Nat} {o : OpR} (h : l[k]? = some o) : costs (l.take (k + 1)) = costs (l.take k) + o.cost := by
  rw [take_snoc h]; simp [costs]
theorem cost_le {l : List OpR} {o : OpR} (h : o ∈ l) : o.cost ≤ costs l := by
  unfold costs
  induction l with
  | nil => cases h
  | cons x r ih =>
    simp only [List.map_cons, List.sum_cons]
    rcases List.mem_cons.1 h with rfl | h
    · omega
    · have := ih h; omega

set_option maxHeartbeats 8000000 in
set_option maxRecDepth 100000 in
theorem Great_any {w : World} {base : Nat} {v : Value} {l : List OpR} (h : OpsAt w base v l) (hl : l.length ≤ lim) : Calls Tryz.prog 5 #[v] w (GreatPost l w) := by
  obtain ⟨x, c, rfl, hx⟩ := h
  have Hx := Lib.hid hx; clear hx
  go_enter Tryz.func5, Tryz.ntmps5
  go_wp2_with fail
  go_loopw [3, 4] (fun n i wr => Below w.heap.size w wr ∧ ∃ k : Nat, k ≤ l.length ∧ i = .int .i64 k ∧ n = .int .i64 ((l.length + costs (l.take k) : Nat) : Int) ∧ l.length + costs (l.take k) ≤ 1000000000000000) (fun _ i _ => l.length - (intOf i).toNat)
  case atStart => exact ⟨Below.refl _ _, 0, Nat.zero_le _, rfl, by simp [costs], by simp [costs]; unfold lim at hl; omega⟩
  case round =>
    obtain ⟨hB, k, hk, rfl, rfl, hN⟩ := hrel
    by_cases hlt : k < l.length
    · by_cases hn : l.length + costs (l.take k) < 20000
      · obtain ⟨o, ho⟩ : ∃ o, l[k]? = some o := ⟨_, List.getElem?_eq_getElem hlt⟩
        obtain ⟨b, off, rfl, v, kv, h0, h1, h2, h3, h4, h5, h6, h7, _, _, l1, l2, l3, l4⟩ := Hx.out k o ho
        have hc := costs_snoc ho
        obtain ⟨va, vc, rfl⟩ := h6.slice
        obtain ⟨ka, kc, rfl⟩ := h7.slice
        replace h1 := cell_below' hB h1
        replace h2 := cell_below' hB h2
        replace h3 := cell_below' hB h3
        replace h5 := cell_below' hB h5
        rw [add_at] at h1 h2 h3 h5
        unfold S at h1 h2
        have hrel' : l.length + costs (l.take (k + 1)) ≤ 1000000000000000 := by rw [hc]; unfold OpR.cost; unfold lim at l4; omega
        have m1 : wrap64 ((l.length : Int) + costs (l.take k) + min (o.path.length : Int) 20000 + min (o.to.length : Int) 20000 + min (o.b.length : Int) 20000 + o.keep.length) = ((l.length + costs (l.take (k + 1)) : Nat) : Int) := by
          rw [hc]; unfold OpR.cost
          rw [wrap64_in (by unfold lim at l4; omega)]
          omega
        have Hc := Lib.hid hc; have Hr := Lib.hid hrel'; have M1 := Lib.hid m1; have HB := Lib.hid hB
        clear hc hrel' m1 h6 h7 hB h4 h0
        go_wp2_with fail
        go_quiet (fail)
        go_wp2_with fail
        refine ⟨⟨below_two HB.out (below_drewN wr nq), k + 1, hlt, by go_num, by rw [M1.out], Hr.out⟩, ?_⟩
        simp [intOf]; omega
      · have hnI : ¬ ((l.length : Int) + costs (l.take k) < 20000) := by omega
        have hgI : (20000 : Int) ≤ (l.length : Int) + costs (l.take k) := by omega
        have HB := Lib.hid hB; clear hB
        go_wp2_with fail
        go_ret
        exact ⟨true, by simp, HB.out, fun h => by cases h⟩
    · obtain rfl : k = l.length := by omega
      rw [List.take_length] at hN
      have HB := Lib.hid hB; clear hB
      by_cases hn : l.length + costs l < 20000
      · have hnI : ¬ ((20000 : Int) ≤ (l.length : Int) + costs l) := by omega
        have hs : (l.length : Int) ≤ 300 → SmallOps l := fun h3 => ⟨by omega, fun o ho => by
          have := cost_le ho
          unfold OpR.cost at this
          omega⟩
        have Hs := Lib.hid hs; clear hs
        rw [List.take_length]
        by_cases h3 : (l.length : Int) ≤ 300
        · go_wp2_with fail
          go_ret
          exact ⟨_, rfl, HB.out, fun _ => Hs.out h3⟩
        · go_wp2_with fail
          go_ret
          exact ⟨true, by simp, HB.out, fun h => by cases h⟩
      · have hnI : (20000 : Int) ≤ (l.length : Int) + costs l := by omega
        rw [List.take_length]
        go_wp2_with fail
        go_ret
        exact ⟨true, by simp, HB.out, fun h => by cases h⟩

def SmallFiles (l : Tb) : Prop := l.length < 200000 ∧ ∀ q ∈ l, q.1.length < 200000 ∧ q.2.length < 200000
def GreatFPost (l : Tb) (w : World) (e : Ending) (w' : World) : Prop := ∃ g, e = .returned (.bool g) ∧ Below w.heap.size w w' ∧ (g = false → SmallFiles l)
def fcost (q : By × By) : Nat := min q.1.length 200000 + min q.2.length 200000
def fcosts (l : Tb) : Nat := (l.map fcost).sum
theorem fcosts_snoc {l : Tb} {k : Nat} {o : By × By} (h : l[k]? = some o) : fcosts (l.take (k + 1)) = fcosts (l.take k) + fcost o := by
  rw [take_snoc h]; simp [fcosts]
theorem fcost_le {l : Tb} {o : By × By} (h : o ∈ l) : fcost o ≤ fcosts l := by
  unfold fcosts
  induction l with
  | nil => cases h
  | cons x r ih =>
    simp only [List.map_cons, List.sum_cons]
    rcases List.mem_cons.1 h with rfl | h
    · omega
    · have := ih h; omega

set_option maxHeartbeats 8000000 in
set_option maxRecDepth 100000 in
theorem GreatFiles_any {w : World} {v : Value} {l : Tb} (h : FilesAt w v l) (hl : l.length ≤ lim) : Calls Tryz.prog 6 #[v] w (GreatFPost l w) := by
  obtain ⟨x, c, rfl, hx⟩ := h
  have Hx := Lib.hid hx; clear hx
  go_enter Tryz.func6, Tryz.ntmps6
  go_wp2_with fail
  go_loopw [3, 4] (fun n i wr => Below w.heap.size w wr ∧ ∃ k : Nat, k ≤ l.length ∧ i = .int .i64 k ∧ n = .int .i64 ((l.length + fcosts (l.take k) : Nat) : Int) ∧ l.length + fcosts (l.take k) ≤ 1000000000000000) (fun _ i _ => l.length - (intOf i).toNat)
  case atStart => exact ⟨Below.refl _ _, 0, Nat.zero_le _, rfl, by simp [fcosts], by simp [fcosts]; unfold lim at hl; omega⟩
  case round =>
    obtain ⟨hB, k, hk, rfl, rfl, hN⟩ := hrel
    by_cases hlt : k < l.length
    · by_cases hn : l.length + fcosts (l.take k) < 200000
      · obtain ⟨o, ho⟩ : ∃ o, l[k]? = some o := ⟨_, List.getElem?_eq_getElem hlt⟩
        obtain ⟨b, off, rfl, v, h0, h1, h6, l1, l2⟩ := Hx.out k o ho
        have hc := fcosts_snoc ho
        obtain ⟨va, vc, rfl⟩ := h6.slice
        replace h0 := cell_below' hB h0
        replace h1 := cell_below' hB h1
        rw [add_at] at h1
        unfold S at h0
        have hrel' : l.length + fcosts (l.take (k + 1)) ≤ 1000000000000000 := by rw [hc]; unfold fcost; omega
        have m1 : (l.length : Int) + fcosts (l.take k) + min (o.1.length : Int) 200000 + min (o.2.length : Int) 200000 = ((l.length + fcosts (l.take (k + 1)) : Nat) : Int) := by
          rw [hc]; unfold fcost
          omega
        have hnI : (l.length : Int) + fcosts (l.take k) < 200000 := by omega
        have Hr := Lib.hid hrel'; have M1 := Lib.hid m1; have HB := Lib.hid hB
        clear hc hrel' m1 h6 hB hn l1 l2 hN
        go_wp2_with fail
        go_quiet (fail)
        go_wp2_with fail
        refine ⟨⟨below_two HB.out (below_drewN wr nq), k + 1, hlt, by go_num, by rw [M1.out], Hr.out⟩, ?_⟩
        simp [intOf]; omega
      · have hnI : ¬ ((l.length : Int) + fcosts (l.take k) < 200000) := by omega
        have hgI : (200000 : Int) ≤ (l.length : Int) + fcosts (l.take k) := by omega
        have HB := Lib.hid hB; clear hB hn hN
        go_wp2_with fail
        go_ret
        exact ⟨true, by simp, HB.out, fun h => by cases h⟩
    · obtain rfl : k = l.length := by omega
      rw [List.take_length] at hN
      have HB := Lib.hid hB; clear hB
      rw [List.take_length]
      by_cases hn : l.length + fcosts l < 200000
      · have hnI : ¬ ((200000 : Int) ≤ (l.length : Int) + fcosts l) := by omega
        have hs : SmallFiles l := ⟨by omega, fun o ho => by
          have := fcost_le ho
          unfold fcost at this
          omega⟩
        have Hs := Lib.hid hs; clear hs
        go_wp2_with fail
        go_ret
        exact ⟨false, by simp, HB.out, fun _ => Hs.out⟩
      · have hnI : (200000 : Int) ≤ (l.length : Int) + fcosts l := by omega
        go_wp2_with fail
        go_ret
        exact ⟨true, by simp, HB.out, fun h => by cases h⟩
end Go.Proofs.YtbibogpeagnjoaaGreatDoor
