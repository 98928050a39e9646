/-
  RefD
-/
import Derived.Test.YtgjddkeogboojaaGreatDoorY26
import Derived.Test.YtgjddkeogboojaaGreatDoorY21
set_option maxHeartbeats 16000000
set_option maxRecDepth 100000
namespace Go.Proofs.YtgjddkeogboojaaGreatDoor
open Go Go.RowKit Go.Shelf
theorem cut_two (W : World) (s t : zB) (lo hi : Nat) (h1 : lo ≤ hi) (h2 : hi ≤ s.length) (ht : (⟨s.toArray⟩ : ByteArray).extract lo hi = ⟨t.toArray⟩) : (Instr.sliceAt 9 (.string ⟨s.toArray⟩) (some (.int .i64 (lo : Int))) (some (.int .i64 (hi : Int))) none).run Tryz.prog W = .ok (.string ⟨t.toArray⟩) W := by
 rw [run_sliceAt_string W _ _ _ _ _ Tryz.underlying9, run_slice_string W _ _ _ _ _ _ Tryz.underlying9 (by omega) (by omega) (by show (hi : Int) ≤ (s.length : Int); omega), Int.toNat_natCast, Int.toNat_natCast, ht]
theorem cut_from (W : World) (s t : zB) (lo : Nat) (h1 : lo ≤ s.length) (ht : (⟨s.toArray⟩ : ByteArray).extract lo s.length = ⟨t.toArray⟩) : (Instr.sliceAt 9 (.string ⟨s.toArray⟩) (some (.int .i64 (lo : Int))) none none).run Tryz.prog W = .ok (.string ⟨t.toArray⟩) W := by
 rw [run_sliceAt_string W _ _ _ _ _ Tryz.underlying9, run_slice_string_from_if W _ _ _ _ Tryz.underlying9, if_pos ⟨by omega, by show (lo : Int) ≤ (s.length : Int); omega⟩, Int.toNat_natCast, show (⟨s.toArray⟩ : ByteArray).size = s.length from rfl, ht]
theorem zae {c d : UInt8} (h : ¬ c = d) : ¬ (c.toNat : Int) = (d.toNat : Int) := fun e => h (UInt8.toNat_inj.1 (by omega))
def z43 : Option (zB × zB) → Value
 | some (a, r) => .tuple #[.string ⟨a.toArray⟩, .string ⟨r.toArray⟩, .bool true]
 | none => .tuple #[.string ⟨#[]⟩, .string ⟨#[]⟩, .bool false]
theorem zoe {word s : zB} (h : s.take word.length ≠ word) : z0e (word ++ [32]) s = none := by
 cases hl : z0e (word ++ [32]) s with
 | none => rfl
 | some p =>
   obtain ⟨a, r⟩ := p;have e := (z0y hl).1;exact absurd (by rw [e, List.append_assoc, List.take_left]) h
theorem zg0 {word s : zB} (hl : word.length < s.length) (h : s[word.length] ≠ 32) : z0e (word ++ [32]) s = none := by
 cases hq : z0e (word ++ [32]) s with
 | none => rfl
 | some p =>
   obtain ⟨a, r⟩ := p;have e := (z0y hq).1;refine absurd ?_ h;have e2 : s[word.length]? = some 32 := by rw [e]; simp
   exact Option.some.inj ((zj hl).symm.trans e2)
theorem zg1 {word s : zB} (hl : word.length < s.length) (h1 : s.take word.length = word) (h2 : s[word.length] = 32) : s = (word ++ [32]) ++ s.drop (word.length + 1) := by
 have e := (List.take_append_drop (word.length + 1) s).symm;rw [List.take_succ_eq_append_getElem hl, h1, h2] at e;exact e
theorem lineP_at {word s : zB} {i : Nat} (hl : word.length < s.length) (h1 : s.take word.length = word) (h2 : s[word.length] = 32) (hi : i < s.length) (hwi : word.length < i) (h10 : s[i] = 10)
 (hno : (10 : UInt8) ∉ (s.take i).drop (word.length + 1)) : z0e (word ++ [32]) s = some ((s.take i).drop (word.length + 1), s.drop (i + 1)) := by
 have e : s = (word ++ [32]) ++ ((s.take i).drop (word.length + 1) ++ 10 :: s.drop (i + 1)) := by
  have e1 := zg1 hl h1 h2
  have e2 : s.drop (word.length + 1) = (s.take i).drop (word.length + 1) ++ 10 :: s.drop (i + 1) := by
   have e3 : s = s.take i ++ (10 :: s.drop (i + 1)) := by
    have := (List.take_append_drop (i + 1) s).symm;rw [List.take_succ_eq_append_getElem hi, h10, List.append_assoc] at this;exact this
   have e4 : s.drop (word.length + 1) = (s.take i ++ (10 :: s.drop (i + 1))).drop (word.length + 1) := by rw [← e3]
   rw [e4, List.drop_append_of_le_length (by rw [List.length_take]; omega)]
  rw [← e2]; exact e1
 have h := z38 (pre := word ++ [32]) (r := s.drop (i + 1)) hno;rw [← e] at h; exact h
theorem zg2 {word s : zB} (hno : (10 : UInt8) ∉ s.drop (word.length + 1)) : z0e (word ++ [32]) s = none := by
 cases hq : z0e (word ++ [32]) s with
 | none => rfl
 | some p =>
   obtain ⟨a, r⟩ := p;have e := (z0y hq).1;refine absurd ?_ hno
   have e2 : s.drop (word.length + 1) = a ++ 10 :: r := by
    rw [e, show word.length + 1 = (word ++ [32]).length by simp, List.drop_left]
   rw [e2]; simp
theorem zof {s : zB} {i n : Nat} (hi : i < s.length) (hn : n ≤ i) (h : (10 : UInt8) ∉ (s.take i).drop n) (h10 : s[i] ≠ 10) : (10 : UInt8) ∉ (s.take (i + 1)).drop n := by
 rw [List.take_succ_eq_append_getElem hi, List.drop_append_of_le_length (by rw [List.length_take]; omega)];simp only [List.mem_append, List.mem_singleton, not_or];exact ⟨h, fun e => h10 e.symm⟩
theorem z45 (s word : zB) (hs : s.length ≤ 1000000) (hwd : word.length ≤ 100) (w : World) :
 Calls Tryz.prog 64 #[.string ⟨s.toArray⟩, .string ⟨word.toArray⟩] w (z06 (z43 (z0e (word ++ [32]) s)) w) := by
 by_cases h1 : s.length < word.length + 1
 · have HL : Hid (z0e (word ++ [32]) s = none) := zh (zfw (by rw [List.length_append]; exact h1));rw [HL.out]
   go_enter Tryz.func64, Tryz.ntmps64
   go_wp2_with fail
   go_ret3
   exact ⟨rfl, Below.refl _ _⟩
 have hlt : word.length < s.length := by omega
 have x0 : (⟨s.toArray⟩ : ByteArray).extract 0 word.length = ⟨(s.take word.length).toArray⟩ := by rw [extract_S]; rfl
 by_cases h2 : s.take word.length = word
 case neg =>
  have HL : Hid (z0e (word ++ [32]) s = none) := zh (zoe h2);rw [HL.out];obtain ⟨tk, htk⟩ := zx (s.take word.length);rw [← htk] at x0 h2;have b1 : (tk == word) = false := by simpa using h2
  have b2 : (tk != word) = true := by simpa using h2
  clear h2 htk HL
  go_enter Tryz.func64, Tryz.ntmps64
  go_wp2_with fail
  go_ret3
  exact ⟨rfl, Below.refl _ _⟩
 obtain ⟨c, hc⟩ := zx (s[word.length]);have gc : ∀ h, ((⟨s.toArray⟩ : ByteArray)[word.length]'h) = c := fun h => hc.symm;rw [h2] at x0;by_cases h3 : c = 32
 case neg =>
  have HL : Hid (z0e (word ++ [32]) s = none) := zh (zg0 hlt (by rw [← hc]; exact h3));rw [HL.out];have b3 : ¬ (c.toNat : Int) = 32 := zae (d := 32) h3;have b4 : ((c.toNat : Int) != 32) = true := by simpa using b3
  clear h2 hc h3 HL
  go_enter Tryz.func64, Tryz.ntmps64
  go_wp2_with fail
  go_ret3
  exact ⟨rfl, Below.refl _ _⟩
 have H2 := zh h2;have Hc : Hid (s[word.length] = 32) := zh (by rw [← hc]; exact h3);subst h3;clear h2 hc
 go_enter Tryz.func64, Tryz.ntmps64
 go_wp2_with fail
 clear gc x0
 go_loop [7] (fun vi => ∃ k : Nat, word.length + 1 ≤ k ∧ k ≤ s.length ∧ vi = .int .i64 k ∧ Hid ((10 : UInt8) ∉ (s.take k).drop (word.length + 1))) (fun vi => s.length - (intOf vi).toNat)
 case atStart => exact ⟨word.length + 1, Nat.le_refl _, by omega, by go_num, zh (by rw [List.drop_eq_nil_of_le (by rw [List.length_take]; omega)]; simp)⟩
 case round =>
  obtain ⟨k, hk1, hk, rfl, hno⟩ := hrel;by_cases hkl : k < s.length
  · obtain ⟨c, hc⟩ := zx (s[k]);have gc : ∀ h, ((⟨s.toArray⟩ : ByteArray)[k]'h) = c := fun h => hc.symm;by_cases h10 : c = 10
    · have HL : Hid (z0e (word ++ [32]) s = some ((s.take k).drop (word.length + 1), s.drop (k + 1))) := zh (lineP_at hlt H2.out Hc.out hkl (by omega) (by rw [← hc]; exact h10) hno.out);have x1 : (⟨s.toArray⟩ : ByteArray).extract (word.length + 1) k = ⟨((s.take k).drop (word.length + 1)).toArray⟩ := extract_S _ _ _;have x2 : (⟨s.toArray⟩ : ByteArray).extract (k + 1) s.length = ⟨(s.drop (k + 1)).toArray⟩ := by rw [extract_S, List.take_length]
      obtain ⟨ta, hta⟩ := zx ((s.take k).drop (word.length + 1));obtain ⟨td, htd⟩ := zx (s.drop (k + 1));rw [← hta] at x1 HL;rw [← htd] at x2 HL;have e1 : IntKind.i64.wrap ((word.length : Int) + 1) = ((word.length + 1 : Nat) : Int) := by rw [IntWalk.i64_in _ (by omega)]; omega
      have e2 : IntKind.i64.wrap ((k : Int) + 1) = ((k + 1 : Nat) : Int) := by rw [IntWalk.i64_in _ (by omega)]; omega
      have p1 : ((word.length + 1 : Nat) : Int) ≤ (k : Int) := by omega
      have p2 : ((k + 1 : Nat) : Int) ≤ (s.length : Int) := by omega
      subst h10;clear hc hno hta htd
      go_wp2_with fail
      refine AnyB.start (by kernel_rfl) ?_;refine AnyB.tm 0 (.string ⟨s.toArray⟩) rfl ?_;refine AnyB.tm 1 (.string ⟨word.toArray⟩) rfl ?_;refine AnyB.tm 2 (.int .i64 (word.length : Int)) rfl ?_;refine AnyB.tk 3 (.int .i64 ((word.length + 1 : Nat) : Int)) rfl (fun W hW => y_bin rfl (by kernel_rfl) (by kernel_rfl) rfl (z9w W _ _ _ e1)) ?_;refine AnyB.tm 4 (.int .i64 (k : Int)) rfl ?_;refine AnyB.tk 5 (.string ⟨ta.toArray⟩) rfl (fun W hW => y_slice (xv := .string ⟨s.toArray⟩) (lv := some (.int .i64 ((word.length + 1 : Nat) : Int))) (hv := some (.int .i64 (k : Int))) (mv := none) rfl (by kernel_rfl) (by kernel_rfl) (by kernel_rfl) rfl (cut_two W s ta (word.length + 1) k (by omega) (by omega) x1)) ?_;refine AnyB.tm 6 (.string ⟨s.toArray⟩) rfl ?_;refine AnyB.tm 7 (.int .i64 (k : Int)) rfl ?_;refine AnyB.tk 8 (.int .i64 ((k + 1 : Nat) : Int)) rfl (fun W hW => y_bin rfl (by kernel_rfl) (by kernel_rfl) rfl (z9w W _ _ _ e2)) ?_;refine AnyB.tk 9 (.string ⟨td.toArray⟩) rfl (fun W hW => y_slice (xv := .string ⟨s.toArray⟩) (lv := some (.int .i64 ((k + 1 : Nat) : Int))) (hv := none) (mv := none) rfl (by kernel_rfl) (by kernel_rfl) rfl rfl (cut_from W s td (k + 1) (by omega) x2)) ?_;refine AnyB.tm 10 (.string ⟨ta.toArray⟩) rfl ?_;refine AnyB.tm 11 (.string ⟨td.toArray⟩) rfl ?_;refine AnyB.tm 12 (.bool true) rfl ?_;refine AnyB.done _ (by kernel_rfl) ?_;go_simp
      go_wp2_with fail
      go_ret3
      exact ⟨by rw [HL.out]; rfl, (Below.refl _ _).drew⟩
    · have b3 : ¬ (c.toNat : Int) = 10 := zae (d := 10) h10;have b4 : ¬ c.toNat = 10 := by omega
      have HN := zh (zof hkl (by omega) hno.out (by rw [← hc]; exact h10));clear hc h10 hno
      go_wp2_with fail
      go_round
      case rel => exact ⟨k + 1, by omega, by omega, by go_num, HN⟩
      case measure => simp [intOf]; omega
  · obtain rfl : k = s.length := by omega
    have HL : Hid (z0e (word ++ [32]) s = none) := zh (zg2 (by have := hno.out; rwa [List.take_length] at this));clear hno
    go_wp2_with fail
    go_ret3
    exact ⟨by rw [HL.out]; rfl, Below.refl _ _⟩
theorem z9x (l : Lbl) (w : World) (hs : l.id.length ≤ 1000000 ∧ l.name.length ≤ 1000000) :
 Calls Tryz.prog 90 #[.agg #[.string ⟨l.id.toArray⟩, .int .i64 l.kind, .string ⟨l.name.toArray⟩, .string ⟨l.text.toArray⟩]] w (z06 (.bool (rightL l)) w) := by
 obtain ⟨i, k, n, x⟩ := l;obtain ⟨s1, s2⟩ := hs;simp only at s1 s2 ⊢;have hnd := fun W => z5o i W (by unfold maxLen; omega);have hpt := fun W => zef n s2 W;unfold SV at hnd hpt;have HB := zh (below_new w (.cells #[.string ⟨i.toArray⟩, .int .i64 k, .string ⟨n.toArray⟩, .string ⟨x.toArray⟩] 100));have HR : Hid (rightL ⟨i, k, n, x⟩ = (z0c i && (decide (1 ≤ k) && decide (k ≤ 4)) && z2a n)) := zh rfl;cases hn : z0c i
 · have H1 : Hid (rightL ⟨i, k, n, x⟩ = false) := zh (by rw [HR.out, hn]; rfl);rw [hn] at hnd;have HN := zh hnd;clear hnd hpt hn HR
   go_enter Tryz.func90, Tryz.ntmps90
   go_wp2_with fail
   refine (HN.out _).mono ?_;rintro e w1 ⟨rfl, rfl⟩
   go_wp2_with fail
   go_ret
   exact ⟨ret_bool H1.out.symm, HB.out⟩
 rw [hn] at hnd;have HN := zh hnd;by_cases k1 : k < 1
 · have H1 : Hid (rightL ⟨i, k, n, x⟩ = false) := zh (by rw [HR.out, decide_eq_false (show ¬ 1 ≤ k by omega)]; simp);have d1 : decide (1 ≤ k) = false := decide_eq_false (by omega);clear hnd hpt hn HR
   go_enter Tryz.func90, Tryz.ntmps90
   go_wp2_with fail
   refine (HN.out _).mono ?_;rintro e w1 ⟨rfl, rfl⟩
   go_wp2_with fail
   go_ret
   exact ⟨ret_bool H1.out.symm, HB.out⟩
 have d1 : decide (1 ≤ k) = true := decide_eq_true (by omega);have k1' : 1 ≤ k := by omega
 by_cases k4 : 4 < k
 · have H1 : Hid (rightL ⟨i, k, n, x⟩ = false) := zh (by rw [HR.out, decide_eq_false (show ¬ k ≤ 4 by omega)]; simp);have d4 : decide (k ≤ 4) = false := decide_eq_false (by omega);clear hnd hpt hn HR
   go_enter Tryz.func90, Tryz.ntmps90
   go_wp2_with fail
   refine (HN.out _).mono ?_;rintro e w1 ⟨rfl, rfl⟩
   go_wp2_with fail
   go_ret
   exact ⟨ret_bool H1.out.symm, HB.out⟩
 have d4 : decide (k ≤ 4) = true := decide_eq_true (by omega);have k4' : k ≤ 4 := by omega
 have H1 : Hid (rightL ⟨i, k, n, x⟩ = z2a n) := zh (by rw [HR.out, hn, d1, d4]; simp);have HP := zh hpt;clear hnd hpt hn HR
 go_enter Tryz.func90, Tryz.ntmps90
 go_wp2_with fail
 refine (HN.out _).mono ?_;rintro e w1 ⟨rfl, rfl⟩
 go_wp2_with fail
 refine (HP.out _).mono ?_;rintro e w1 ⟨rfl, rfl⟩
 go_wp2_with fail
 go_ret
 exact ⟨ret_bool H1.out.symm, HB.out⟩
theorem zc7 (l : Lbl) (w : World) (hs : SmallL l) : Calls Tryz.prog 66 #[LblV l] w (z06 (zig l) w) := by
 have B0 := below_new w (.cells #[.string ⟨l.id.toArray⟩, .int .i64 l.kind, .string ⟨l.name.toArray⟩, .string ⟨l.text.toArray⟩] 100);have hck := fun W => z9x l W ⟨by have := hs.1; omega, by have := hs.2.1; omega⟩;cases h : rightL l
 · rw [h] at hck;have HC := zh hck; have HB := zh B0;rw [putLV_no h];unfold LblV;clear hck hs h B0
   go_enter Tryz.func66, Tryz.ntmps66
   go_wp2_with fail
   refine (HC.out _).mono ?_;rintro e w1 ⟨rfl, l1⟩
   go_wp2_with fail
   go_ret2
   exact ⟨rfl, HB.out.trans (l1.mono HB.out.size)⟩
 rw [h] at hck;rw [zlg h];obtain ⟨g1, g2, g3⟩ := z3j.1 h;obtain ⟨i, k, nm, tx⟩ := l;obtain ⟨s1, s2, s3⟩ := hs;simp only at s1 s2 s3 g1 g2 g3 B0 hck;unfold LblV SV;simp only;have HC := zh hck;have hb1 : ∀ w1, Below (w.alloc (.cells #[.string ⟨i.toArray⟩, .int .i64 k, .string ⟨nm.toArray⟩, .string ⟨tx.toArray⟩] 100)).heap.size (w.alloc (.cells #[.string ⟨i.toArray⟩, .int .i64 k, .string ⟨nm.toArray⟩, .string ⟨tx.toArray⟩] 100)) w1 → Below w.heap.size w w1 ∧ w1.heap[w.heap.size]? = some (.cells #[.string ⟨i.toArray⟩, .int .i64 k, .string ⟨nm.toArray⟩, .string ⟨tx.toArray⟩] 100 (0, 0)) := fun w1 h => ⟨B0.trans (h.mono B0.size), (h.block _ (by simp)).trans (heap_alloc_new _ _)⟩
 have HB1 := zh hb1;have hwd := fun W => zee k W;unfold SV at hwd;have HWd := zh hwd;have nk : (kindW k).length ≤ 6 := by rcases z3b g2.1 g2.2 with rfl | rfl | rfl | rfl <;> decide
 obtain ⟨t1, ht1⟩ : ∃ x : ByteArray, x = ⟨(wObject ++ i).toArray⟩ := ⟨_, rfl⟩
 obtain ⟨t2, ht2⟩ : ∃ x : ByteArray, x = ⟨((wObject ++ i) ++ (10 :: wKind)).toArray⟩ := ⟨_, rfl⟩
 obtain ⟨t3, ht3⟩ : ∃ x : ByteArray, x = ⟨(((wObject ++ i) ++ (10 :: wKind)) ++ kindW k).toArray⟩ := ⟨_, rfl⟩
 obtain ⟨t4, ht4⟩ : ∃ x : ByteArray, x = ⟨((((wObject ++ i) ++ (10 :: wKind)) ++ kindW k) ++ (10 :: wName)).toArray⟩ := ⟨_, rfl⟩
 obtain ⟨t5, ht5⟩ : ∃ x : ByteArray, x = ⟨(((((wObject ++ i) ++ (10 :: wKind)) ++ kindW k) ++ (10 :: wName)) ++ nm).toArray⟩ := ⟨_, rfl⟩
 obtain ⟨t6, ht6⟩ : ∃ x : ByteArray, x = ⟨((((((wObject ++ i) ++ (10 :: wKind)) ++ kindW k) ++ (10 :: wName)) ++ nm) ++ [10, 10]).toArray⟩ := ⟨_, rfl⟩
 obtain ⟨t7, ht7⟩ : ∃ x : ByteArray, x = ⟨(((((((wObject ++ i) ++ (10 :: wKind)) ++ kindW k) ++ (10 :: wName)) ++ nm) ++ [10, 10]) ++ tx).toArray⟩ := ⟨_, rfl⟩
 have r1 : ∀ W : World, (Op.stringOp .add ⟨#[111, 98, 106, 101, 99, 116, 32]⟩ ⟨i.toArray⟩).run Tryz.prog W = .ok (.string t1) W := z4g wObject i t1 ht1 (by decide) (by omega);have r2 : ∀ W : World, (Op.stringOp .add t1 ⟨#[10, 107, 105, 110, 100, 32]⟩).run Tryz.prog W = .ok (.string t2) W := z1s _ (10 :: wKind) t1 t2 ht1 ht2 (by simp [wObject]; omega) (by decide);have r3 : ∀ W : World, (Op.stringOp .add t2 ⟨(kindW k).toArray⟩).run Tryz.prog W = .ok (.string t3) W := z1s _ (kindW k) t2 t3 ht2 ht3 (by simp [wObject, wKind]; omega) (by omega);have r4 : ∀ W : World, (Op.stringOp .add t3 ⟨#[10, 110, 97, 109, 101, 32]⟩).run Tryz.prog W = .ok (.string t4) W := z1s _ (10 :: wName) t3 t4 ht3 ht4 (by simp [wObject, wKind]; omega) (by decide);have r5 : ∀ W : World, (Op.stringOp .add t4 ⟨nm.toArray⟩).run Tryz.prog W = .ok (.string t5) W := z1s _ nm t4 t5 ht4 ht5 (by simp [wObject, wKind, wName]; omega) (by omega);have r6 : ∀ W : World, (Op.stringOp .add t5 ⟨#[10, 10]⟩).run Tryz.prog W = .ok (.string t6) W := z1s _ [10, 10] t5 t6 ht5 ht6 (by simp [wObject, wKind, wName]; omega) (by decide);have r7 : ∀ W : World, (Op.stringOp .add t6 ⟨tx.toArray⟩).run Tryz.prog W = .ok (.string t7) W := z1s _ tx t6 t7 ht6 ht7 (by simp [wObject, wKind, wName]; omega) (by omega);have H7 := zh ht7;have HP : Hid (z6e ⟨i, k, nm, tx⟩ = ((((((wObject ++ i) ++ (10 :: wKind)) ++ kindW k) ++ (10 :: wName)) ++ nm) ++ [10, 10]) ++ tx) := zh (by simp [z6e]);generalize kindW k = kw at HWd r3 H7 HP;clear h hck g1 g2 g3 s1 s2 s3 B0 hb1 ht1 ht2 ht3 ht4 ht5 ht6 ht7 nk hwd
 go_enter Tryz.func66, Tryz.ntmps66
 go_wp2_with fail
 refine (HC.out _).mono ?_;rintro e w1 ⟨rfl, l1⟩;obtain ⟨h1, hb⟩ := HB1.out w1 l1;have q0 := (cell_of_row w1 w.heap.size 0 _ _ _ hb).trans (by rfl);have q1 := (cell_of_row w1 w.heap.size 1 _ _ _ hb).trans (by rfl);have q2 := (cell_of_row w1 w.heap.size 2 _ _ _ hb).trans (by rfl);have q3 := (cell_of_row w1 w.heap.size 3 _ _ _ hb).trans (by rfl);have H1 := zh h1;clear h1 hb l1
 go_wp2_with fail
 go_quiet (exact Calls.quiet_of_same ((HWd.out _).mono fun _ _ h => ⟨h.1, h.2.symm⟩))
 go_wp2_with fail
 go_ret2
 exact ⟨by rw [HP.out, H7.out]; rfl, z12 H1.out _⟩
theorem parB_dup {l : List (zB)} {j k : Nat} (hj : j < k) (hk : k < l.length) (h : l.getD j [] = l.getD k []) : parB l = false := by
 unfold parB
 have : ¬ l.Nodup := fun h4 => by
  rw [List.Nodup, List.pairwise_iff_getElem] at h4;have h5 := h4 j k (by omega) hk hj;rw [z42 _ _ _ (show j < l.length by omega), z42 _ _ _ hk] at h;exact h5 h
 rw [decide_eq_false this]; simp
theorem zjh {l : List (zB)} {k : Nat} (hk : k < l.length) (h : (l.take k).Nodup) (hn : ∀ i, i < k → l.getD i [] ≠ l.getD k []) : (l.take (k + 1)).Nodup := by
 rw [z0l l [] k hk, List.nodup_append];refine ⟨h, List.nodup_cons.2 ⟨by simp, List.nodup_nil⟩, fun a ha b hb => ?_⟩;rw [List.mem_singleton.1 hb];obtain ⟨i, hi, rfl⟩ := List.mem_iff_getElem.1 ha;rw [List.length_take] at hi;have := hn i (by omega);rw [z42 _ _ _ (show i < l.length by omega)] at this;rw [List.getElem_take]; exact this
theorem whoB_bad {s : zB} {k : Nat} (hk : k < s.length) (h : whoC s[k] = false) : whoB s = false := by
 unfold whoB; rw [zht s k hk h]; rfl
theorem zji {t wh tx : zB} {ps : List (zB)} (h : z0c t = false ∨ parB ps = false ∨ whoB wh = false) : z18 ⟨t, ps, wh, tx⟩ = false := by
 rw [z8z];rcases h with h | h | h <;> simp [h]
theorem z83 (c : Chg) (vp : Value) (w : World) (hr : StrsR w vp c.parents) (hs : zgs c) (hl : c.parents.length ≤ 1000000) :
 Calls Tryz.prog 89 #[ChgV c vp] w (z06 (.bool (z18 c)) w) := by
 obtain ⟨t, ps, wh, tx⟩ := c;obtain ⟨s1, s2, s3, s4⟩ := hs;simp only at s1 s2 s3 s4 hr hl;obtain ⟨A, ca, rfl⟩ := hr.shape;unfold ChgV;simp only;have HBad := zh (@zji t wh tx ps);have hnt := fun W => z5o t W (by unfold maxLen; omega);have hnp := fun k (hk : k < ps.length) W => z5o (ps.getD k []) W (by have := s2 _ (z1w ps [] k hk); unfold maxLen; omega);unfold SV at hnt hnp;have HNp := zh hnp;obtain ⟨w0, hw0⟩ := zx (w.alloc (.cells #[.string ⟨t.toArray⟩, .slice A ps.length ca, .string ⟨wh.toArray⟩, .string ⟨tx.toArray⟩] 96));have B0 : Below w.heap.size w w0 := by rw [hw0]; exact below_new w _
 have q0 : w0.cell? ⟨w.heap.size, 0, none⟩ = some (.string ⟨t.toArray⟩) := by rw [hw0]; simp
 have q1 : w0.cell? ⟨w.heap.size, 1, none⟩ = some (.slice A ps.length ca) := by rw [hw0]; simp
 have q2 : w0.cell? ⟨w.heap.size, 2, none⟩ = some (.string ⟨wh.toArray⟩) := by rw [hw0]; simp
 have HB := zh B0; have HW0 := zh hw0;have HR := zh hr;clear hr hw0 B0 hnp s2 s4;cases hn : z0c t
 · rw [hn] at hnt;have HN := zh hnt;have HF := zh (HBad.out (.inl hn));clear hnt hn
   go_enter Tryz.func89, Tryz.ntmps89
   go_wp2_with (rw [← HW0.out])
   refine (HN.out _).mono ?_;rintro e w1 ⟨rfl, rfl⟩
   go_wp2_with fail
   go_ret
   exact ⟨ret_bool HF.out.symm, HB.out⟩
 rw [hn] at hnt;have HN := zh hnt;have HNt := zh hn;clear hnt hn;by_cases h8 : 8 < ps.length
 · have HF := zh (HBad.out (.inr (.inl (by unfold parB; rw [decide_eq_false (show ¬ ps.length ≤ 8 by omega)]; rfl))))
   go_enter Tryz.func89, Tryz.ntmps89
   go_wp2_with (rw [← HW0.out])
   refine (HN.out _).mono ?_;rintro e w1 ⟨rfl, rfl⟩
   go_wp2_with fail
   go_ret
   exact ⟨ret_bool HF.out.symm, HB.out⟩
 by_cases h100 : 100 < wh.length
 · have HF := zh (HBad.out (.inr (.inr (by unfold whoB; rw [decide_eq_false (show ¬ wh.length ≤ 100 by omega)]; simp))))
   go_enter Tryz.func89, Tryz.ntmps89
   go_wp2_with (rw [← HW0.out])
   refine (HN.out _).mono ?_;rintro e w1 ⟨rfl, rfl⟩
   go_wp2_with fail
   go_ret
   exact ⟨ret_bool HF.out.symm, HB.out⟩
 go_enter Tryz.func89, Tryz.ntmps89
 go_wp2_with (rw [← HW0.out])
 refine (HN.out _).mono ?_;rintro e w1 ⟨rfl, rfl⟩
 go_wp2_with fail
 go_loop [3] (fun vi => ∃ k : Nat, k ≤ wh.length ∧ vi = .int .i64 k ∧ Hid ((wh.take k).all whoC = true)) (fun vi => wh.length - (intOf vi).toNat)
 case atStart => exact ⟨0, Nat.zero_le _, rfl, zh rfl⟩
 case round =>
  obtain ⟨k, hk, rfl, hall⟩ := hrel;by_cases hlt : k < wh.length
  · obtain ⟨c, hc⟩ := zx (wh[k]);have gc : ∀ h, ((⟨wh.toArray⟩ : ByteArray)[k]'h) = c := fun h => hc.symm;have Hsn : Hid ((wh.take (k + 1)).all whoC = whoC c) := zh (by rw [hc]; exact zhs wh k hlt hall.out);have Hno : Hid (whoC c = false → whoB wh = false) := zh (fun h => whoB_bad hlt (by rw [← hc]; exact h));clear hc hall;by_cases k1 : (c.toNat : Int) < 32
    · have HF := zh (HBad.out (.inr (.inr (Hno.out (by rw [z8c, Bool.eq_false_iff]; simp; omega)))))
      go_wp2_with fail
      go_ret
      exact ⟨ret_bool HF.out.symm, HB.out⟩
    by_cases k2 : 126 < (c.toNat : Int)
    · have HF := zh (HBad.out (.inr (.inr (Hno.out (by rw [z8c, Bool.eq_false_iff]; simp; omega)))))
      go_wp2_with fail
      go_ret
      exact ⟨ret_bool HF.out.symm, HB.out⟩
    have hd : Hid (whoC c = true) := zh (by rw [z8c, Bool.eq_iff_iff]; simp; omega)
    go_wp2_with fail
    go_round
    case rel => exact ⟨k + 1, by omega, by go_num, zh (Hsn.out.trans hd.out)⟩
    case measure => simp [intOf]; omega
  · obtain rfl : k = wh.length := by omega
    have HWho : Hid (whoB wh = true) := zh (by unfold whoB; have h := hall.out; rw [List.take_of_length_le (by omega)] at h; rw [h, decide_eq_true (show wh.length ≤ 100 by omega)]; rfl);clear hall hlt hk
    go_wp2_with fail
    go_loopw [4, 5] (fun vi _a wr => Below w0.heap.size w0 wr ∧ wr.cell? ⟨w.heap.size, 1, none⟩ = some (.slice A ps.length ca) ∧ ∃ k : Nat, k ≤ ps.length ∧ vi = .int .i64 k ∧ Hid (∀ i, i < k → z0c (ps.getD i []) = true) ∧ Hid ((ps.take k).Nodup)) (fun vi _ _ => ps.length - (intOf vi).toNat)
    case atStart => exact ⟨Below.refl _ _, q1, 0, Nat.zero_le _, rfl, zh fun i hi => absurd hi (Nat.not_lt_zero _), zh (by simp)⟩
    case round =>
     obtain ⟨hBw, p1, k, hk, rfl, hN, hD⟩ := hrel;by_cases hlt : k < ps.length
     · obtain ⟨g, o, c', e, _, hg⟩ := HR.out.pos (by omega);cases e;have c0 := StrsR.cell (HR.out.below (HB.out.trans (hBw.mono HB.out.size)) zl) k hlt;have hnx := HNp.out k hlt;have hbd : z0c (ps.getD k []) = false → z18 ⟨t, ps, wh, tx⟩ = false := fun h => HBad.out (.inr (.inl (zlc hlt h)));obtain ⟨x, hx⟩ := zx (ps.getD k []);rw [← hx] at c0 hnx hbd;have HX := zh hx;unfold SV at c0;have HBw := zh hBw;clear hx hBw;cases hnd : z0c x
       · rw [hnd] at hnx;have HNx := zh hnx;have HF := zh (hbd hnd);clear hnx hbd hnd
         go_wp2_with fail
         refine (HNx.out _).mono ?_;intro e w5 hh;rw [hh.1, ← hh.2];clear hh w5
         go_wp2_with fail
         go_ret
         exact ⟨ret_bool HF.out.symm, HB.out.trans (HBw.out.mono HB.out.size)⟩
       rw [hnd] at hnx;have HNx := zh hnx
       have HN2 : Hid (∀ i, i < k + 1 → z0c (ps.getD i []) = true) := zh fun i hi => by
        rcases Nat.lt_or_ge i k with h | h
        · exact hN.out i h
        · rw [show i = k by omega, ← HX.out]; exact hnd
       clear hnx hbd hnd;obtain ⟨wo, hwo⟩ := zx wr;subst hwo
       go_wp2_with fail
       refine (HNx.out _).mono ?_;intro e w5 hh;rw [hh.1, ← hh.2];clear hh w5
       go_wp2_with fail
       go_loopw [5] (fun vj wr => Below w0.heap.size w0 wr ∧ wr.cell? ⟨w.heap.size, 1, none⟩ = some (.slice (some ⟨g, o, none⟩) ps.length ca) ∧ ∃ j : Nat, j ≤ k ∧ vj = .int .i64 j ∧ Hid (∀ i, i < j → ps.getD i [] ≠ x)) (fun vj _ => k - (intOf vj).toNat)
       case atStart => exact ⟨HBw.out, p1, 0, Nat.zero_le _, rfl, zh fun i hi => absurd hi (Nat.not_lt_zero _)⟩
       case round =>
        obtain ⟨hB5, p5, j, hj, rfl, hno⟩ := hrel;by_cases hjk : j < k
        · have d0 := StrsR.cell (HR.out.below (HB.out.trans (hB5.mono HB.out.size)) zl) j (by omega);have d1 := StrsR.cell (HR.out.below (HB.out.trans (hB5.mono HB.out.size)) zl) k hlt;rw [← HX.out] at d1;obtain ⟨y, hy⟩ := zx (ps.getD j []);rw [← hy] at d0;have HY := zh hy;unfold SV at d0 d1;have HB5 := zh hB5;clear hy hB5 c0;by_cases he : y = x
          · have HF := zh (HBad.out (.inr (.inl (parB_dup hjk hlt (by rw [← HY.out, ← HX.out, he])))));subst he
            go_wp2_with fail
            go_quiet (fail)
            go_wp2_with fail
            go_ret
            exact ⟨ret_bool HF.out.symm, z12 (HB.out.trans (HB5.out.mono HB.out.size)) _⟩
          · have b3 : (y == x) = false := by simpa using he
            have HNo5 : Hid (∀ i, i < j + 1 → ps.getD i [] ≠ x) := zh fun i hi => by
             rcases Nat.lt_or_ge i j with h | h
             · exact hno.out i h
             · rw [show i = j by omega, ← HY.out]; exact he
            clear he
            go_wp2_with fail
            go_quiet (fail)
            go_wp2_with fail
            go_roundw
            case rel => exact ⟨z12 HB5.out _, p5, j + 1, hjk, by go_num, HNo5⟩
            case measure => simp [intOf]; omega
        · obtain rfl : j = k := by omega
          have HD5 := zh (zjh hlt hD.out (fun i hi => by rw [← HX.out]; exact hno.out i hi));have HB5 := zh hB5;clear hB5 hno c0
          go_wp2_with fail
          go_roundw
          case rel => exact ⟨HB5.out, p5, j + 1, hlt, by go_num, HN2, HD5⟩
          case measure => simp [intOf]; omega
     · obtain rfl : k = ps.length := by omega
       have HF : Hid (z18 ⟨t, ps, wh, tx⟩ = true) := zh (by
        have hD2 := hD.out;rw [List.take_length] at hD2;rw [z8z, HNt.out, HWho.out, zld (by omega) hN.out, decide_eq_true hD2]; rfl)
       have HBw := zh hBw;clear hBw hN hD
       go_wp2_with fail
       go_ret
       exact ⟨ret_bool HF.out.symm, HB.out.trans (HBw.out.mono HB.out.size)⟩
theorem zaf (c : Chg) (vp : Value) (w : World) (hr : StrsR w vp c.parents) (hs : zgs c) (hl : c.parents.length ≤ 1000000) :
 Calls Tryz.prog 65 #[ChgV c vp] w (z06 (ziw c) w) := by
 have B0 := below_new w (.cells #[.string ⟨c.tree.toArray⟩, vp, .string ⟨c.who.toArray⟩, .string ⟨c.text.toArray⟩] 96);have hck := z83 c vp _ (hr.below B0 zl) hs hl;cases h : z18 c
 · rw [h] at hck;have HC := zh hck; have HB := zh B0;rw [putCV_no h];obtain ⟨A, ca, rfl⟩ := hr.shape;unfold ChgV at HC ⊢;clear hck hr hs h B0
   go_enter Tryz.func65, Tryz.ntmps65
   go_wp2_with fail
   refine HC.out.mono ?_;rintro e w1 ⟨rfl, l1⟩
   go_wp2_with fail
   go_ret2
   exact ⟨rfl, HB.out.trans (l1.mono HB.out.size)⟩
 rw [h] at hck;rw [zn4 h];obtain ⟨g1, g2, g3, g4, g5⟩ := z1k.1 h;obtain ⟨t, ps, wh, tx⟩ := c;obtain ⟨s1, s2, s3, s4⟩ := hs;simp only at s1 s2 s3 s4 hr hl g1 g2 g3 g5 B0;obtain ⟨A, ca, rfl⟩ := hr.shape;unfold ChgV at hck ⊢;unfold SV;simp only at hck ⊢;have HC := zh hck;have HR := zh hr;have HP := zh g3;have nT := z17 g1;have nW : wh.length ≤ 100 := by unfold whoB at g5; simp only [Bool.and_eq_true, decide_eq_true_eq] at g5; exact g5.2
 have hb1 : ∀ w1, Below (w.alloc (.cells #[.string ⟨t.toArray⟩, .slice A ps.length ca, .string ⟨wh.toArray⟩, .string ⟨tx.toArray⟩] 96)).heap.size (w.alloc (.cells #[.string ⟨t.toArray⟩, .slice A ps.length ca, .string ⟨wh.toArray⟩, .string ⟨tx.toArray⟩] 96)) w1 → Below w.heap.size w w1 ∧ w1.cell? ⟨w.heap.size, 0, none⟩ = some (.string ⟨t.toArray⟩) ∧ w1.cell? ⟨w.heap.size, 1, none⟩ = some (.slice A ps.length ca) ∧ w1.cell? ⟨w.heap.size, 2, none⟩ = some (.string ⟨wh.toArray⟩) ∧ w1.cell? ⟨w.heap.size, 3, none⟩ = some (.string ⟨tx.toArray⟩) := fun w1 h =>
  ⟨B0.trans (h.mono B0.size), one_box w _ _ _ _ w1 h⟩
 have HB1 := zh hb1;obtain ⟨o0, ho0⟩ : ∃ x : zB, x = (wTree ++ t) ++ [10] := ⟨_, rfl⟩
 obtain ⟨t1, ht1⟩ : ∃ x : ByteArray, x = ⟨(wTree ++ t).toArray⟩ := ⟨_, rfl⟩
 have n0 : o0.length ≤ 70 := by rw [ho0]; simp [wTree]; omega
 have r1 : ∀ W : World, (Op.stringOp .add ⟨#[116, 114, 101, 101, 32]⟩ ⟨t.toArray⟩).run Tryz.prog W = .ok (.string t1) W := z4g wTree t t1 ht1 (by decide) (by omega);have r2 : ∀ W : World, (Op.stringOp .add t1 ⟨#[10]⟩).run Tryz.prog W = .ok (.string ⟨o0.toArray⟩) W := z1s _ [10] t1 ⟨o0.toArray⟩ ht1 (by rw [ho0]) (by simp [wTree]; omega) (by decide);have HO := zh ho0;have HPut : Hid (∀ o, o = o0 ++ parL ps → (((o ++ wWho) ++ wh) ++ [10, 10]) ++ tx = putC ⟨t, ps, wh, tx⟩) := zh (fun o ho => by rw [ho, ho0]; simp [putC]);clear hr h hck g1 g3 g5 s1 s2 s3 B0 hb1 ht1 ho0 nT hl
 go_enter Tryz.func65, Tryz.ntmps65
 go_wp2_with fail
 refine HC.out.mono ?_;rintro e w1 ⟨rfl, l1⟩;obtain ⟨hB1, p0, p1, p2, p3⟩ := HB1.out w1 l1;have L1 := zh hB1;clear l1 hB1 HB1 HC
 go_wp2_with fail
 clear r1 r2
 go_loop [4, 5] (fun vo vi => ∃ (k : Nat) (out : zB), k ≤ ps.length ∧ vi = .int .i64 k ∧ vo = .string ⟨out.toArray⟩ ∧ Hid (out = o0 ++ parL (ps.take k))) (fun _ vi => ps.length - (intOf vi).toNat)
 case atStart => exact ⟨0, o0, Nat.zero_le _, rfl, rfl, zh (by simp [parL])⟩
 case round =>
  obtain ⟨k, out, hk, rfl, rfl, hout⟩ := hrel
  have nO : out.length ≤ 700 := by
   have hpl := zhe (l := ps.take k) (fun x hx => HP.out x (List.mem_of_mem_take hx));rw [List.length_take] at hpl;rw [hout.out, List.length_append]; omega
  by_cases hlt : k < ps.length
  · obtain ⟨g, o, c', e, _, hg⟩ := HR.out.pos (by omega);cases e;have c0 := StrsR.cell (HR.out.below L1.out zl) k hlt;have hsn := zn2 ps k hlt;have nx := z17 (HP.out _ (z1w ps [] k hlt));obtain ⟨x, hx⟩ := zx (ps.getD k []);rw [← hx] at c0 hsn nx;unfold SV at c0;obtain ⟨t2, ht2⟩ : ∃ z : ByteArray, z = ⟨(out ++ wParent).toArray⟩ := ⟨_, rfl⟩
    obtain ⟨t3, ht3⟩ : ∃ z : ByteArray, z = ⟨((out ++ wParent) ++ x).toArray⟩ := ⟨_, rfl⟩
    obtain ⟨o2, ho2⟩ : ∃ z : zB, z = ((out ++ wParent) ++ x) ++ [10] := ⟨_, rfl⟩
    have r3 : ∀ W : World, (Op.stringOp .add ⟨out.toArray⟩ ⟨#[112, 97, 114, 101, 110, 116, 32]⟩).run Tryz.prog W = .ok (.string t2) W := z4g out wParent t2 ht2 (by omega) (by decide);have r4 : ∀ W : World, (Op.stringOp .add t2 ⟨x.toArray⟩).run Tryz.prog W = .ok (.string t3) W := z1s _ x t2 t3 ht2 ht3 (by simp [wParent]; omega) (by omega);have r5 : ∀ W : World, (Op.stringOp .add t3 ⟨#[10]⟩).run Tryz.prog W = .ok (.string ⟨o2.toArray⟩) W := z1s _ [10] t3 _ ht3 (by rw [ho2]) (by simp [wParent]; omega) (by decide);have HO2 : Hid (o2 = o0 ++ parL (ps.take (k + 1))) := zh (by rw [ho2, hsn, hout.out]; simp);clear hx hsn nx ht2 ht3 ho2 hout
    go_wp2_with fail
    go_round
    case rel => exact ⟨k + 1, o2, by omega, by go_num, rfl, HO2⟩
    case measure => simp [intOf]; omega
  · obtain rfl : k = ps.length := by omega
    have hfin := HPut.out out (by have := hout.out; rwa [List.take_length] at this);have HF := zh hfin;obtain ⟨t2, ht2⟩ : ∃ z : ByteArray, z = ⟨(out ++ wWho).toArray⟩ := ⟨_, rfl⟩
    obtain ⟨t3, ht3⟩ : ∃ z : ByteArray, z = ⟨((out ++ wWho) ++ wh).toArray⟩ := ⟨_, rfl⟩
    obtain ⟨t4, ht4⟩ : ∃ z : ByteArray, z = ⟨(((out ++ wWho) ++ wh) ++ [10, 10]).toArray⟩ := ⟨_, rfl⟩
    obtain ⟨t5, ht5⟩ : ∃ z : ByteArray, z = ⟨((((out ++ wWho) ++ wh) ++ [10, 10]) ++ tx).toArray⟩ := ⟨_, rfl⟩
    have r3 : ∀ W : World, (Op.stringOp .add ⟨out.toArray⟩ ⟨#[119, 104, 111, 32]⟩).run Tryz.prog W = .ok (.string t2) W := z4g out wWho t2 ht2 (by omega) (by decide);have r4 : ∀ W : World, (Op.stringOp .add t2 ⟨wh.toArray⟩).run Tryz.prog W = .ok (.string t3) W := z1s _ wh t2 t3 ht2 ht3 (by simp [wWho]; omega) (by omega);have r5 : ∀ W : World, (Op.stringOp .add t3 ⟨#[10, 10]⟩).run Tryz.prog W = .ok (.string t4) W := z1s _ [10, 10] t3 t4 ht3 ht4 (by simp [wWho]; omega) (by decide);have r6 : ∀ W : World, (Op.stringOp .add t4 ⟨tx.toArray⟩).run Tryz.prog W = .ok (.string t5) W := z1s _ tx t4 t5 ht4 ht5 (by simp [wWho]; omega) (by omega);have H5 := zh ht5;clear ht2 ht3 ht4 ht5 hfin hout
    go_wp2_with fail
    go_ret2
    exact ⟨by rw [← HF.out, ← H5.out]; rfl, L1.out⟩
end Go.Proofs.YtgjddkeogboojaaGreatDoor
