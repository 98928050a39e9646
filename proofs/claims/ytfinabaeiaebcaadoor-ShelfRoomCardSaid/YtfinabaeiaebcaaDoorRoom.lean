/-
  ShelfRoom: its walk.
-/
import Derived.Test.YtfinabaeiaebcaaDoorHead
namespace Go.Proofs.YtfinabaeiaebcaaDoor
open Go Go.RowKit Go.Maps Go.Shelf

theorem w_i64 {n : Nat} (h : n < 65536) : IntKind.i64.wrap (n : Int) = n := IntWalk.i64_in _ (by omega)

theorem room_err {r n : Nat} {st : St} {p : By} {m : Nat} (hp : pathB p = true) (hn : n < 65536) (hl : st.files.length < 400) (hr : st.room = r) (hs : (tsize st.files : Int) - tlen p st.files = m) : writeErr p ((zeros n).length) st = if m + n ≤ r then 0 else 11 := by
  rw [zeros_len]
  by_cases h : m + n ≤ r
  · rw [if_pos h, writeErr_0 hp (by omega) (by omega)]
  · rw [if_neg h, writeErr_11 hp (by omega) (by omega)]

theorem bytes_zeros (w : World) (n : Nat) : BytesAt (w.alloc (.cells (madeCells #[.int .u8 0] n) 5)) (.slice (some ⟨w.heap.size, 0, none⟩) n n) (zeros n) := by
  have h := bytes_laid w (zeros n) _ (0, 0) n (made_zeros n)
  rw [zeros_len] at h
  exact h

theorem newSt_bd (r : Nat) : Bd (newSt r []) 10 := ⟨by simp [newSt], by simp [newSt], by simp [newSt], by simp [newSt], by simp [newSt], by simp [newSt], by decide⟩

theorem room_n0 {r n : Nat} {p : By} (hp : pathB p = true) (hn : n < 65536) : doN (newSt r []) (writeErr p ((zeros n).length) (newSt r [])) = if n ≤ r then 0 else 11 := by
  rw [room_err (r := r) (m := 0) hp hn (by simp [newSt]) rfl (by rfl), Nat.zero_add]; rfl

set_option maxHeartbeats 8000000 in
set_option maxRecDepth 100000 in
theorem Room_full (w : World) (het : Et w) (hg : 0 < w.heap.size) (r a b : Nat) (hr : r < 65536) (ha : a < 65536) (hlt : ¬ a ≤ r) : Calls Tryd.prog 3 #[.int .u16 r, .int .u16 a, .int .u16 b] w (HeadPost w) := by
  have Hh := Lib.hid (head_any w het hg)
  have er := w_i64 hr; have ea := w_i64 ha
  have hmk := run_make_bytes a (by omega)
  have hlI : ¬ (a : Int) ≤ (r : Int) := by omega
  go_enter Tryd.func3, Tryd.ntmps3
  go_wp2_with fail
  refine Hh.out.mono ?_
  rintro e w1 ⟨rfl, hB1⟩
  go_wp2_with fail
  refine (New_any (base := w.heap.size) r w1 hB1.size).mono ?_
  rintro e w2 ⟨s, f, y, rfl, hk, hB2⟩
  have B3 := below_alloc w2 (.cells (madeCells #[.int .u8 0] a) 5)
  have k3 : K w.heap.size w (w2.alloc (.cells (madeCells #[.int .u8 0] a) 5)) := ((K.of_new (base := w.heap.size) hB1 (Nat.le_refl _)).trans (K.of_new hB2 hB1.size)).trans (K.of_new B3 hk.base_le)
  have hn : doN (newSt r []) (writeErr [100, 47, 97] ((zeros a).length) (newSt r [])) = 11 := by rw [room_n0 (by kernel_rfl) ha, if_neg hlt]
  have hs : doSt (newSt r []) (writeErr [100, 47, 97] ((zeros a).length) (newSt r [])) (wrote [100, 47, 97] (zeros a) (newSt r [])) = newSt r [] := by
    rw [show doN (newSt r []) (writeErr [100, 47, 97] ((zeros a).length) (newSt r [])) = writeErr [100, 47, 97] ((zeros a).length) (newSt r []) from rfl] at hn
    rw [hn]; rfl
  have h1 := DoPost.cast hn hs (Write_any (hk.keep B3) (newSt_bd r) (het.keep k3 hg) hg (p := [100, 47, 97]) (b := zeros a) (by decide) (by rw [zeros_len]; unfold maxLen; omega) (bytes_zeros w2 a))
  have H1 := Lib.hid h1; have K3 := Lib.hid k3
  clear h1 k3 B3 hk hB1 hB2 hn hs
  go_wp2_with fail
  refine H1.out.mono ?_
  rintro e w4 ⟨rfl, k4, lv4, hok4⟩
  have H2 := Lib.hid (Used_any hok4 (newSt_bd r).size)
  have K4 := Lib.hid (K3.out.trans k4)
  clear k4 hok4
  go_wp2_with fail
  refine H2.out.mono ?_
  rintro e w5 ⟨rfl, hB5⟩
  go_wp2_with fail
  go_ret
  exact ⟨rfl, (K4.out.trans (K.of_new hB5 K4.out.size)).below⟩

def ls1 (a : Nat) : List (By × Act) := [([100], .write [100, 47, 97] (zeros a))]
def ls2 (b : Nat) : List (By × Act) := [([100], .write [100, 47, 98] (zeros b))]
def ls3 : List (By × Act) := [([100], .rename [100, 47, 97] [100, 47, 98])]
def ls4 (b : Nat) : List (By × Act) := [([100], .write [100, 47, 99] (zeros b))]
def rs (r : Nat) (t : Tb) (l : List (By × Act)) (n : Int) : St := { files := t, synced := [], loose := l, room := r, acts := n, fuse := -1, down := false }
abbrev f1 (a : Nat) : Tb := [([100, 47, 97], zeros a)]
abbrev f2 (a b : Nat) : Tb := [([100, 47, 97], zeros a), ([100, 47, 98], zeros b)]
abbrev f3' (a : Nat) : Tb := [([100, 47, 98], zeros a)]
abbrev f4' (a b : Nat) : Tb := [([100, 47, 98], zeros a), ([100, 47, 99], zeros b)]

theorem rs_bd {r : Nat} {t : Tb} {l : List (By × Act)} {n : Int} (h1 : t.length ≤ 10) (h2 : l.length ≤ 10) (h3 : ∀ q ∈ t, ∃ n, n < 65536 ∧ q.2 = zeros n) (h4 : ∀ x ∈ l, ∃ n, n < 65536 ∧ x ∈ ls1 n ++ ls2 n ++ ls3 ++ ls4 n) : Bd (rs r t l n) 10 := by
  refine ⟨h1, by simpa [rs] using h2, fun q hq => ?_, by simp [rs], fun x hx p b e => ?_, fun x hx => ?_, by decide⟩
  · obtain ⟨m, hm, e⟩ := h3 q hq
    rw [e, zeros_len]; omega
  · obtain ⟨m, hm, hy⟩ := h4 x hx
    simp [ls1, ls2, ls3, ls4] at hy
    rcases hy with rfl | rfl | rfl | rfl <;> cases e <;> (rw [zeros_len]; omega)
  · obtain ⟨m, hm, hy⟩ := h4 x hx
    simp [ls1, ls2, ls3, ls4] at hy
    rcases hy with rfl | rfl | rfl | rfl <;> simp [Act.fits, maxLen]

theorem bd_1 {r a : Nat} {n : Int} (ha : a < 65536) : Bd (rs r (f1 a) (ls1 a) n) 10 :=
  rs_bd (by simp) (by simp [ls1]) (fun q hq => by simp at hq; subst hq; exact ⟨a, ha, rfl⟩) (fun x hx => ⟨a, ha, by simp [hx]⟩)
theorem bd_2 {r a b : Nat} {n : Int} (ha : a < 65536) (hb : b < 65536) : Bd (rs r (f2 a b) (ls1 a ++ ls2 b) n) 10 :=
  rs_bd (by simp) (by simp [ls1, ls2]) (fun q hq => by simp at hq; rcases hq with rfl | rfl <;> first | exact ⟨a, ha, rfl⟩ | exact ⟨b, hb, rfl⟩) (fun x hx => by
    rcases List.mem_append.1 hx with h | h
    · exact ⟨a, ha, by simp [h]⟩
    · exact ⟨b, hb, by simp [h]⟩)
theorem bd_3 {r a b : Nat} {n : Int} (ha : a < 65536) (hb : b < 65536) : Bd (rs r (f3' a) (ls1 a ++ ls2 b ++ ls3) n) 10 :=
  rs_bd (by simp) (by simp [ls1, ls2, ls3]) (fun q hq => by simp at hq; subst hq; exact ⟨a, ha, rfl⟩) (fun x hx => by
    rcases List.mem_append.1 hx with h | h
    · rcases List.mem_append.1 h with h | h
      · exact ⟨a, ha, by simp [h]⟩
      · exact ⟨b, hb, by simp [h]⟩
    · exact ⟨b, hb, by simp [h]⟩)
theorem bd_4 {r a b : Nat} {n : Int} (ha : a < 65536) (hb : b < 65536) : Bd (rs r (f4' a b) (ls1 a ++ ls2 b ++ ls3 ++ ls4 b) n) 10 :=
  rs_bd (by simp) (by simp [ls1, ls2, ls3, ls4]) (fun q hq => by simp at hq; rcases hq with rfl | rfl <;> first | exact ⟨a, ha, rfl⟩ | exact ⟨b, hb, rfl⟩) (fun x hx => by
    rcases List.mem_append.1 hx with h | h
    · rcases List.mem_append.1 h with h | h
      · rcases List.mem_append.1 h with h | h
        · exact ⟨a, ha, by simp [h]⟩
        · exact ⟨b, hb, by simp [h]⟩
      · exact ⟨b, hb, by simp [h]⟩
    · exact ⟨b, hb, by simp [h]⟩)
theorem bd_3n {r a : Nat} {n : Int} (ha : a < 65536) : Bd (rs r (f3' a) (ls1 a ++ ls3) n) 10 :=
  rs_bd (by simp) (by simp [ls1, ls3]) (fun q hq => by simp at hq; subst hq; exact ⟨a, ha, rfl⟩) (fun x hx => by
    rcases List.mem_append.1 hx with h | h
    · exact ⟨a, ha, by simp [h]⟩
    · exact ⟨a, ha, by simp [h]⟩)

/-- Write, on a shelf of so many bytes. -/
theorem rs_write {w : World} {base s f y r m n : Nat} {lv : Value} {t : Tb} {l : List (By × Act)} {k : Int} {p : By} (hk : Ok w base s f y lv (rs r t l k)) (hbd : Bd (rs r t l k) 10) (hb : base ≤ w.heap.size) (het : Et w) (hg : 0 < base)
    (hp : pathB p = true) (hpl : p.length ≤ 10) (hn : n < 65536) (hs : (tsize t : Int) - tlen p t = m) :
    Calls Tryd.prog 6 #[.pointer (some ⟨s, 0, none⟩), S p, .slice (some ⟨w.heap.size, 0, none⟩) n n] (w.alloc (.cells (madeCells #[.int .u8 0] n) 5))
      (DoPost base s f y (if m + n ≤ r then 0 else 11) (if m + n ≤ r then bump (wrote p (zeros n) (rs r t l k)) else rs r t l k) (w.alloc (.cells (madeCells #[.int .u8 0] n) 5))) := by
  have B3 := below_alloc w (.cells (madeCells #[.int .u8 0] n) 5)
  have e : writeErr p ((zeros n).length) (rs r t l k) = if m + n ≤ r then 0 else 11 := room_err hp hn (by have := hbd.files; have := hbd.lim; omega) rfl hs
  refine DoPost.cast ?_ ?_ (Write_any (hk.keep B3) hbd (het.keep (K.of_new B3 hb) hg) hg (p := p) (b := zeros n) (by unfold maxLen; omega) (by rw [zeros_len]; unfold maxLen; omega) (bytes_zeros w n))
  · rw [e]; rfl
  · rw [e]; by_cases h : m + n ≤ r
    · rw [if_pos h, if_pos h]; rfl
    · rw [if_neg h, if_neg h]; rfl

theorem rs_rename {w : World} {base s f y r : Nat} {lv : Value} {t : Tb} {l : List (By × Act)} {k : Int} {p q : By} (hk : Ok w base s f y lv (rs r t l k)) (hbd : Bd (rs r t l k) 10) (het : Et w) (hg : 0 < base)
    (hpl : p.length ≤ 10) (hql : q.length ≤ 10) (he : renameErr p q t = 0) :
    Calls Tryd.prog 8 #[.pointer (some ⟨s, 0, none⟩), S p, S q] w (DoPost base s f y 0 (bump (renamed p q (rs r t l k))) w) := by
  have e : renameErr p q (rs r t l k).files = 0 := he
  refine DoPost.cast ?_ ?_ (Rename_any hk hbd het hg (by unfold maxLen; omega) (by unfold maxLen; omega))
  · rw [e]; rfl
  · rw [e]; rfl

theorem sz0 (p : By) : (tsize [] : Int) - tlen p [] = (0 : Nat) := rfl
theorem sz1 (a : Nat) : (tsize (f1 a) : Int) - tlen [100, 47, 98] (f1 a) = (a : Nat) := by
  rw [show tlen [100, 47, 98] (f1 a) = 0 by kernel_rfl]; simp [tsize, zeros_len]
theorem sz3 (a : Nat) : (tsize (f3' a) : Int) - tlen [100, 47, 99] (f3' a) = (a : Nat) := by
  rw [show tlen [100, 47, 99] (f3' a) = 0 by kernel_rfl]; simp [tsize, zeros_len]
theorem st1_eq (r a : Nat) : bump (wrote [100, 47, 97] (zeros a) (rs r [] [] 0)) = rs r (f1 a) (ls1 a) 1 := by kernel_rfl
theorem st2_eq (r a b : Nat) : bump (wrote [100, 47, 98] (zeros b) (rs r (f1 a) (ls1 a) 1)) = rs r (f2 a b) (ls1 a ++ ls2 b) 2 := by kernel_rfl
theorem st3_eq (r a b : Nat) : bump (renamed [100, 47, 97] [100, 47, 98] (rs r (f2 a b) (ls1 a ++ ls2 b) 2)) = rs r (f3' a) (ls1 a ++ ls2 b ++ ls3) 3 := by kernel_rfl
theorem st3n_eq (r a : Nat) : bump (renamed [100, 47, 97] [100, 47, 98] (rs r (f1 a) (ls1 a) 1)) = rs r (f3' a) (ls1 a ++ ls3) 2 := by kernel_rfl
theorem st4_eq (r a b : Nat) : bump (wrote [100, 47, 99] (zeros b) (rs r (f3' a) (ls1 a ++ ls2 b ++ ls3) 3)) = rs r (f4' a b) (ls1 a ++ ls2 b ++ ls3 ++ ls4 b) 4 := by kernel_rfl
theorem re2 (a b : Nat) : renameErr [100, 47, 97] [100, 47, 98] (f2 a b) = 0 := by kernel_rfl
theorem re1 (a : Nat) : renameErr [100, 47, 97] [100, 47, 98] (f1 a) = 0 := by kernel_rfl

set_option maxHeartbeats 8000000 in
set_option maxRecDepth 100000 in
theorem Room_fits (w : World) (het : Et w) (hg : 0 < w.heap.size) (r a b : Nat) (hr : r < 65536) (ha : a < 65536) (hb : b < 65536) (hle : a ≤ r) (hfit : a + b ≤ r) : Calls Tryd.prog 3 #[.int .u16 r, .int .u16 a, .int .u16 b] w (HeadPost w) := by
  have Hh := Lib.hid (head_any w het hg)
  have er := w_i64 hr; have ea := w_i64 ha; have eb := w_i64 hb
  have hmk := run_make_bytes a (by omega)
  have hmkb := run_make_bytes b (by omega)
  have hlI : (a : Int) ≤ (r : Int) := by omega
  have eab : IntKind.i64.wrap ((a : Int) + (b : Int)) = (a : Int) + b := IntWalk.i64_in _ (by omega)
  have hfI : (a : Int) + (b : Int) ≤ (r : Int) := by omega
  have Het := Lib.hid het; clear het
  go_enter Tryd.func3, Tryd.ntmps3
  go_wp2_with fail
  refine Hh.out.mono ?_
  rintro e w1 ⟨rfl, hB1⟩
  go_wp2_with fail
  refine (New_any (base := w.heap.size) r w1 hB1.size).mono ?_
  rintro e w2 ⟨s, f, y, rfl, hk, hB2⟩
  have k2 : K w.heap.size w w2 := (K.of_new (base := w.heap.size) hB1 (Nat.le_refl _)).trans (K.of_new hB2 hB1.size)
  have h1 := DoPost.cast (if_pos (by omega)) ((if_pos (by omega)).trans (st1_eq r a)) (rs_write (n := a) (p := [100, 47, 97]) hk (newSt_bd r) k2.size (Het.out.keep k2 hg) hg (by kernel_rfl) (by decide) ha (sz0 _))
  have H1 := Lib.hid h1; have K2 := Lib.hid (k2.trans (K.of_new (below_alloc w2 (.cells (madeCells #[.int .u8 0] a) 5)) k2.size))
  clear h1 k2 hk hB1 hB2
  go_wp2_with fail
  refine H1.out.mono ?_
  rintro e w3 ⟨rfl, k3, lv3, hk3⟩
  have k3w := K2.out.trans k3
  have h2 := DoPost.cast (if_pos (by omega)) ((if_pos (by omega)).trans (st2_eq r a b)) (rs_write (n := b) (p := [100, 47, 98]) hk3 (bd_1 ha) k3w.size (Het.out.keep k3w hg) hg (by kernel_rfl) (by decide) hb (sz1 a))
  have H2 := Lib.hid h2; have K3 := Lib.hid (k3w.trans (K.of_new (below_alloc w3 (.cells (madeCells #[.int .u8 0] b) 5)) k3w.size))
  clear h2 k3w k3 hk3
  go_wp2_with fail
  refine H2.out.mono ?_
  rintro e w4 ⟨rfl, k4, lv4, hk4⟩
  have k4w := K3.out.trans k4
  have h3 := DoPost.cast rfl (st3_eq r a b) (rs_rename hk4 (bd_2 ha hb) (Het.out.keep k4w hg) hg (by decide) (by decide) (re2 a b))
  have H3 := Lib.hid h3; have K4 := Lib.hid k4w
  clear h3 k4w k4 hk4
  go_wp2_with fail
  refine H3.out.mono ?_
  rintro e w5 ⟨rfl, k5, lv5, hk5⟩
  have k5w := K4.out.trans k5
  have h4 := DoPost.cast (if_pos (by omega)) ((if_pos (by omega)).trans (st4_eq r a b)) (rs_write (n := b) (p := [100, 47, 99]) hk5 (bd_3 ha hb) k5w.size (Het.out.keep k5w hg) hg (by kernel_rfl) (by decide) hb (sz3 a))
  have H4 := Lib.hid h4; have K5 := Lib.hid (k5w.trans (K.of_new (below_alloc w5 (.cells (madeCells #[.int .u8 0] b) 5)) k5w.size))
  clear h4 k5w k5 hk5
  go_wp2_with fail
  refine H4.out.mono ?_
  rintro e w6 ⟨rfl, k6, lv6, hk6⟩
  have h5 := Files_any hk6 (bd_4 ha hb)
  have H5 := Lib.hid h5; have K6 := Lib.hid (K5.out.trans k6)
  clear h5 k6 hk6
  go_wp2_with fail
  refine H5.out.mono ?_
  rintro e w7 ⟨v, rfl, hfl, hB7⟩
  obtain ⟨av, cv, rfl⟩ := hfl.slice
  have K7 := Lib.hid (K6.out.trans (K.of_new hB7 K6.out.size))
  clear hfl hB7
  go_wp2_with fail
  go_ret
  exact ⟨rfl, K7.out.below⟩

set_option maxHeartbeats 8000000 in
set_option maxRecDepth 100000 in
theorem Room_not (w : World) (het : Et w) (hg : 0 < w.heap.size) (r a b : Nat) (hr : r < 65536) (ha : a < 65536) (hb : b < 65536) (hle : a ≤ r) (hnot : ¬ a + b ≤ r) : Calls Tryd.prog 3 #[.int .u16 r, .int .u16 a, .int .u16 b] w (HeadPost w) := by
  have Hh := Lib.hid (head_any w het hg)
  have er := w_i64 hr; have ea := w_i64 ha; have eb := w_i64 hb
  have hmk := run_make_bytes a (by omega)
  have hmkb := run_make_bytes b (by omega)
  have hlI : (a : Int) ≤ (r : Int) := by omega
  have eab : IntKind.i64.wrap ((a : Int) + (b : Int)) = (a : Int) + b := IntWalk.i64_in _ (by omega)
  have hfI : ¬ (a : Int) + (b : Int) ≤ (r : Int) := by omega
  have Het := Lib.hid het; clear het
  go_enter Tryd.func3, Tryd.ntmps3
  go_wp2_with fail
  refine Hh.out.mono ?_
  rintro e w1 ⟨rfl, hB1⟩
  go_wp2_with fail
  refine (New_any (base := w.heap.size) r w1 hB1.size).mono ?_
  rintro e w2 ⟨s, f, y, rfl, hk, hB2⟩
  have k2 : K w.heap.size w w2 := (K.of_new (base := w.heap.size) hB1 (Nat.le_refl _)).trans (K.of_new hB2 hB1.size)
  have h1 := DoPost.cast (if_pos (by omega)) ((if_pos (by omega)).trans (st1_eq r a)) (rs_write (n := a) (p := [100, 47, 97]) hk (newSt_bd r) k2.size (Het.out.keep k2 hg) hg (by kernel_rfl) (by decide) ha (sz0 _))
  have H1 := Lib.hid h1; have K2 := Lib.hid (k2.trans (K.of_new (below_alloc w2 (.cells (madeCells #[.int .u8 0] a) 5)) k2.size))
  clear h1 k2 hk hB1 hB2
  go_wp2_with fail
  refine H1.out.mono ?_
  rintro e w3 ⟨rfl, k3, lv3, hk3⟩
  have k3w := K2.out.trans k3
  have h2 := DoPost.cast (if_neg (by omega)) (if_neg (by omega)) (rs_write (n := b) (p := [100, 47, 98]) hk3 (bd_1 ha) k3w.size (Het.out.keep k3w hg) hg (by kernel_rfl) (by decide) hb (sz1 a))
  have H2 := Lib.hid h2; have K3 := Lib.hid (k3w.trans (K.of_new (below_alloc w3 (.cells (madeCells #[.int .u8 0] b) 5)) k3w.size))
  clear h2 k3w k3 hk3
  go_wp2_with fail
  refine H2.out.mono ?_
  rintro e w4 ⟨rfl, k4, lv4, hk4⟩
  have k4w := K3.out.trans k4
  have h3 := DoPost.cast rfl (st3n_eq r a) (rs_rename hk4 (bd_1 ha) (Het.out.keep k4w hg) hg (by decide) (by decide) (re1 a))
  have H3 := Lib.hid h3; have K4 := Lib.hid k4w
  clear h3 k4w k4 hk4
  go_wp2_with fail
  refine H3.out.mono ?_
  rintro e w5 ⟨rfl, k5, lv5, hk5⟩
  have k5w := K4.out.trans k5
  have h4 := DoPost.cast (if_neg (by omega)) (if_neg (by omega)) (rs_write (n := b) (p := [100, 47, 99]) hk5 (bd_3n ha) k5w.size (Het.out.keep k5w hg) hg (by kernel_rfl) (by decide) hb (sz3 a))
  have H4 := Lib.hid h4; have K5 := Lib.hid (k5w.trans (K.of_new (below_alloc w5 (.cells (madeCells #[.int .u8 0] b) 5)) k5w.size))
  clear h4 k5w k5 hk5
  go_wp2_with fail
  refine H4.out.mono ?_
  rintro e w6 ⟨rfl, k6, lv6, hk6⟩
  have h5 := Files_any hk6 (bd_3n ha)
  have H5 := Lib.hid h5; have K6 := Lib.hid (K5.out.trans k6)
  clear h5 k6 hk6
  go_wp2_with fail
  refine H5.out.mono ?_
  rintro e w7 ⟨v, rfl, hfl, hB7⟩
  obtain ⟨av, cv, rfl⟩ := hfl.slice
  have K7 := Lib.hid (K6.out.trans (K.of_new hB7 K6.out.size))
  clear hfl hB7
  go_wp2_with fail
  go_ret
  refine ⟨congrArg (fun b => Ending.returned (Value.bool b)) (show (!decide ((a : Int) + b ≤ r) && decide ((1 : Int) ≤ ((rs r (f3' a) (ls1 a ++ ls3) 2).files.length : Nat))) = true from ?_), K7.out.below⟩
  rw [decide_eq_false (show ¬ ((a : Int) + b ≤ r) by omega)]; rfl

theorem Room_any (w : World) (het : Et w) (hg : 0 < w.heap.size) (r a b : Nat) (hr : r < 65536) (ha : a < 65536) (hb : b < 65536) : Calls Tryd.prog 3 #[.int .u16 r, .int .u16 a, .int .u16 b] w (HeadPost w) := by
  by_cases hle : a ≤ r
  · by_cases hf : a + b ≤ r
    · exact Room_fits w het hg r a b hr ha hb hle hf
    · exact Room_not w het hg r a b hr ha hb hle hf
  · exact Room_full w het hg r a b hr ha hle
end Go.Proofs.YtfinabaeiaebcaaDoor
