/-
  NumApart, walked.
-/
import Derived.Test.YtfafndehkhgmjaaDoorHead
namespace Go.Proofs.YtfafndehkhgmjaaDoor
open Go Go.RowKit

theorem dd_inj {a b : Nat} (h : Lib.decDigits a = Lib.decDigits b) : a = b := by
  have h1 := dec_dd a
  rw [h, dec_dd b] at h1
  exact (Option.some.inj h1).symm

/-- A slice's first bytes as a string. -/
theorem Rb.take {w : World} {g o c n : Nat} {l : List UInt8} (h : ∀ j, j < n → w.cell? ⟨g, o + j, none⟩ = some (.int .u8 ((l.getD j 0).toNat : Int))) (m : Nat) (hm : m ≤ n) (hl : n ≤ l.length) :
    (convert 22 9 (.slice (some ⟨g, o, none⟩) m c)).run Tryd.prog w = .ok (.string ⟨(l.take m).toArray⟩) w := by
  have hlen : (l.take m).length = m := by rw [List.length_take]; omega
  have := run_convert_bytes_back (P := Tryd.prog) w 22 9 5 ⟨g, o, none⟩ c (l.take m) Tryd.underlying22 Tryd.underlying5 Tryd.underlying9 fun j hj => by
    rw [add_none, h j (by omega), List.getD_eq_getElem?_getD]
    have hjm : j < m := by omega
    rw [show l[j]? = (l.take m)[j]? by rw [List.getElem?_take, if_pos hjm], List.getElem?_eq_getElem hj]; rfl
  rw [hlen] at this
  exact this

/-- What Put gives of a number that may be put: it has bytes. -/
theorem Put_cells (n : Nat) (hn : n ≤ 1099511627776) (w : World) : Calls Tryd.prog 13 #[.int .i64 (n : Int)] w fun e w' =>
    ∃ g o c, e = .returned (.slice (some ⟨g, o, none⟩) (putL n).length c) ∧ (putL n).length ≤ c ∧ g < w'.heap.size ∧ (∀ j, j < (putL n).length → w'.cell? ⟨g, o + j, none⟩ = some (.int .u8 (((putL n).getD j 0).toNat : Int))) ∧ Below w.heap.size w w' := by
  refine (Put_fits n hn w).mono ?_
  rintro e w' ⟨A, c, rfl, hr, hb⟩
  have hpos := putL_pos n
  rcases hr with ⟨_, h⟩ | ⟨g, o, cc, hv, hc, hg, hcell⟩
  · rw [h] at hpos; simp at hpos
  simp only [Value.slice.injEq] at hv
  obtain ⟨rfl, _, rfl⟩ := hv
  exact ⟨g, o, c, rfl, hc, hg, hcell, hb⟩

set_option maxRecDepth 100000 in
set_option maxHeartbeats 2000000 in
theorem Apart_law (w : World) (hp : Pr w) (a : Nat) (ha : a < 4294967296) (b : Nat) (hb : b < 4294967296) :
    Calls Tryd.prog 5 #[.int .u32 (a : Int), .int .u32 (b : Int)] w fun e w' => e = .returned (.bool true) ∧ Below w.heap.size w w' := by
  have HH := Lib.hid (head_any w hp)
  have Hp := Lib.hid hp
  clear hp
  have HA := Lib.hid (Put_cells a (by omega))
  have HB := Lib.hid (Put_cells b (by omega))
  obtain ⟨la, hla⟩ : ∃ n, n = (putL a).length := ⟨_, rfl⟩
  obtain ⟨lb, hlb⟩ : ∃ n, n = (putL b).length := ⟨_, rfl⟩
  have pa : 1 ≤ la := by rw [hla]; exact putL_pos a
  have pb : 1 ≤ lb := by rw [hlb]; exact putL_pos b
  have qa : la ≤ 6 := by rw [hla]; exact putL_len6 (by omega)
  have qb : lb ≤ 6 := by rw [hlb]; exact putL_len6 (by omega)
  rw [← hla] at HA
  rw [← hlb] at HB
  obtain ⟨m, hm⟩ : ∃ m, m = min la lb := ⟨_, rfl⟩
  have hmi : min (la : Int) (lb : Int) = (m : Int) := by omega
  have hma : m ≤ la := by omega
  have hmb : m ≤ lb := by omega
  have hm1 : 0 < m := by omega
  have Hap := Lib.hid (apart (a := a) (b := b) (by omega) (by omega) m (by rw [hm, hla, hlb]))
  have Hmono : Hid (a ≤ b → la ≤ lb) := Lib.hid fun h => by rw [hla, hlb]; exact putL_mono a b h
  have Hla := Lib.hid hla; have Hlb := Lib.hid hlb
  clear hm hla hlb
  go_enter Tryd.func5, Tryd.ntmps5
  go_wp2_with fail
  refine HH.out.mono ?_
  rintro e w1 ⟨rfl, l1⟩
  have L1 := Lib.hid l1
  clear HH l1
  go_wp2_with fail
  refine (HA.out _).mono ?_
  rintro e w2 ⟨ga, oa, ca, rfl, hca, hga, hcell, l2⟩
  have L2 := Lib.hid l2; have CA := Lib.hid hcell
  clear HA l2 hcell
  go_wp2_with fail
  refine (HB.out _).mono ?_
  rintro e w3 ⟨gb, ob, cb, rfl, hcb, hgb, hcell, l3⟩
  have CB := Lib.hid hcell
  have CA3 : Hid (∀ j, j < la → w3.cell? ⟨ga, oa + j, none⟩ = some (.int .u8 (((putL a).getD j 0).toNat : Int))) := Lib.hid fun j hj => (l3.cell (p := ⟨ga, oa + j, none⟩) hga).trans (CA.out j hj)
  have L3 := Lib.hid (L1.out.trans ((L2.out.trans (l3.mono L2.out.size)).mono L1.out.size))
  clear HB l3 hcell CA L1 L2 hga hgb
  obtain ⟨sa, hsa⟩ : ∃ s, s = (putL a).take m := ⟨_, rfl⟩
  obtain ⟨sb, hsb⟩ : ∃ s, s = (putL b).take m := ⟨_, rfl⟩
  have va : (convert 22 9 (.slice (some ⟨ga, oa, none⟩) m ca)).run Tryd.prog w3.drew = .ok (.string ⟨sa.toArray⟩) w3.drew := by rw [hsa]; exact Rb.take (w := w3.drew) CA3.out m hma (by rw [← Hla.out]; exact Nat.le_refl _)
  have vb : (convert 22 9 (.slice (some ⟨gb, ob, none⟩) m cb)).run Tryd.prog w3.drew = .ok (.string ⟨sb.toArray⟩) w3.drew := by rw [hsb]; exact Rb.take (w := w3.drew) CB.out m hmb (by rw [← Hlb.out]; exact Nat.le_refl _)
  have Heq : Hid (sa = sb ↔ a = b) := Lib.hid (by rw [hsa, hsb]; exact Hap.out)
  clear hsa hsb
  have ua : 0 ≤ (m : Int) := by omega
  have ub : (m : Int) ≤ (ca : Int) := by omega
  have uc : (m : Int) ≤ (cb : Int) := by omega
  have HT : Hid (∀ (n : Nat) (W : World), n < 4294967296 → Pr W → Calls Tryd.prog 15 #[.int .i64 (n : Int)] W fun e w' => e = .returned (.string ⟨(Lib.decDigits n).toArray⟩) ∧ Below W.heap.size W w') := Lib.hid fun n W hn hW => by
    have h := Text_any (n : Int) (by omega) (by omega) W hW
    rw [textL_nat] at h
    exact h
  have L4 : Hid (Below w.heap.size w w3.drew) := Lib.hid L3.out.drew
  clear CB CA3 L3 Hap
  obtain ⟨ta, hta⟩ : ∃ t, t = Lib.decDigits a := ⟨_, rfl⟩
  obtain ⟨tb, htb⟩ : ∃ t, t = Lib.decDigits b := ⟨_, rfl⟩
  have HTa : Hid (∀ W : World, Pr W → Calls Tryd.prog 15 #[.int .i64 (a : Int)] W fun e w' => e = .returned (.string ⟨ta.toArray⟩) ∧ Below W.heap.size W w') := Lib.hid fun W hW => by rw [hta]; exact HT.out a W ha hW
  have HTb : Hid (∀ W : World, Pr W → Calls Tryd.prog 15 #[.int .i64 (b : Int)] W fun e w' => e = .returned (.string ⟨tb.toArray⟩) ∧ Below W.heap.size W w') := Lib.hid fun W hW => by rw [htb]; exact HT.out b W hb hW
  have Hteq : Hid (ta = tb ↔ a = b) := Lib.hid (by rw [hta, htb]; exact ⟨dd_inj, fun h => by rw [h]⟩)
  clear hta htb HT
  by_cases hab : a = b
  · have e1 : (sa == sb) = true := by rw [beq_iff_eq]; exact Heq.out.2 hab
    have e2 : ((a : Int) == (b : Int)) = true := by rw [beq_iff_eq]; omega
    have e3 : (ta == tb) = true := by rw [beq_iff_eq]; exact Hteq.out.2 hab
    have e4 : decide (b < a) = false := by simp; omega
    have e5 : la ≤ lb := Hmono.out (by omega)
    clear hab Heq Hteq Hmono
    go_wp2
    go_region
    clear va vb ua ub uc
    go_wp2_with (first
      | ((with_reducible refine (HTa.out _ (Hp.out.below L4.out)).mono ?_); rintro e w5 ⟨rfl, l5⟩; have L5 := Lib.hid (L4.out.trans (l5.mono L4.out.size)))
      | ((with_reducible refine (HTb.out _ (Hp.out.below L5.out)).mono ?_); rintro e w6 ⟨rfl, l6⟩; have L6 := Lib.hid (L5.out.trans (l6.mono L5.out.size))))
    go_ret
    exact ⟨rfl, L6.out⟩
  · have e1 : (sa == sb) = false := by rw [beq_eq_false_iff_ne]; exact fun h => hab (Heq.out.1 h)
    have e2 : ((a : Int) == (b : Int)) = false := by rw [beq_eq_false_iff_ne]; omega
    have e3 : (ta == tb) = false := by rw [beq_eq_false_iff_ne]; exact fun h => hab (Hteq.out.1 h)
    by_cases hlt : b < a
    · have e4 : decide (b < a) = true := by simp; omega
      clear hab Heq Hteq Hmono hlt
      go_wp2
      go_region
      clear va vb ua ub uc
      go_wp2_with (first
        | ((with_reducible refine (HTa.out _ (Hp.out.below L4.out)).mono ?_); rintro e w5 ⟨rfl, l5⟩; have L5 := Lib.hid (L4.out.trans (l5.mono L4.out.size)))
        | ((with_reducible refine (HTb.out _ (Hp.out.below L5.out)).mono ?_); rintro e w6 ⟨rfl, l6⟩; have L6 := Lib.hid (L5.out.trans (l6.mono L5.out.size))))
      go_ret
      exact ⟨rfl, L6.out⟩
    · have e4 : decide (b < a) = false := by simp; omega
      have e5 : la ≤ lb := Hmono.out (by omega)
      clear hab Heq Hteq Hmono hlt
      go_wp2
      go_region
      clear va vb ua ub uc
      go_wp2_with (first
        | ((with_reducible refine (HTa.out _ (Hp.out.below L4.out)).mono ?_); rintro e w5 ⟨rfl, l5⟩; have L5 := Lib.hid (L4.out.trans (l5.mono L4.out.size)))
        | ((with_reducible refine (HTb.out _ (Hp.out.below L5.out)).mono ?_); rintro e w6 ⟨rfl, l6⟩; have L6 := Lib.hid (L5.out.trans (l6.mono L5.out.size))))
      go_ret
      exact ⟨rfl, L6.out⟩
end Go.Proofs.YtfafndehkhgmjaaDoor
