/-
  What may be: words, names, parts, who. The digest: Named. Names, parts, items: what may be. strings.Cut at one byte. read: steps, one behind the other.
-/
import Derived.Deep.QuietTactic
import Derived.BigQuiet
import Derived.IntWalk
import Derived.Shelf.Abstract
import Derived.Shelf.SlSorted.Search
import Derived.Test.YtgjddkeogboojaaGreatDoorY03
import Derived.Lib.IndexLaws
import Derived.Laws.Externs
import Derived.Test.YtgjddkeogboojaaGreatDoorY02
import Derived.Test.YtgjddkeogboojaaGreatDoorLay
set_option maxHeartbeats 16000000
set_option maxRecDepth 100000
namespace Go.Proofs.YtgjddkeogboojaaGreatDoor
open Go Go.RowKit Go.Shelf
structure Er (w : World) : Prop where
 over : ∃ pe, w.cell? ⟨3, 0, none⟩ = some (.iface 336 pe)
 two : ∃ a b : Addr, a ≠ b ∧ w.cell? ⟨4, 0, none⟩ = some (.iface 336 (.pointer (some a))) ∧ w.cell? ⟨7, 0, none⟩ = some (.iface 336 (.pointer (some b)))
 et : Et w
theorem cell_to {w w' : World} {a : Addr} {v : Value} (h : w.cell? a = some v) (hb : Below w.heap.size w w') : w'.cell? a = some v :=
 (hb.cell (World.block_lt_of_cell? w a h)).trans h
theorem Er.below {w w' : World} (h : Er w) (hb : Below w.heap.size w w') : Er w' := by
 obtain ⟨⟨pe, h1⟩, ⟨a, b, hab, h2, h3⟩, h4⟩ := h;exact ⟨⟨pe, cell_to h1 hb⟩, ⟨a, b, hab, cell_to h2 hb, cell_to h3 hb⟩, cell_to h4 hb⟩
theorem Er.wrong {w : World} (h : Er w) : ∃ a : Addr, w.cell? ⟨4, 0, none⟩ = some (.iface 336 (.pointer (some a))) := by
 obtain ⟨a, _, _, h, _⟩ := h.two; exact ⟨a, h⟩
def zez (w : World) (e : Ending) (w' : World) : Prop := ∃ p, e = .returned (.iface 232 (.pointer (some p))) ∧ Below w.heap.size w w'
theorem z3k (k : Int) (w : World) : Calls Tryz.prog 142 #[.int .i64 k] w fun e w' => e = .returned (SV (kindW k)) ∧ w = w' := by
 unfold SV;by_cases h1 : k = 1
 · subst h1
   go_enter Tryz.func142, Tryz.ntmps142
   go_wp2
   go_ret
   exact ⟨rfl, rfl⟩
 by_cases h2 : k = 2
 · subst h2
   go_enter Tryz.func142, Tryz.ntmps142
   go_wp2
   go_ret
   exact ⟨rfl, rfl⟩
 by_cases h3 : k = 3
 · subst h3
   go_enter Tryz.func142, Tryz.ntmps142
   go_wp2
   go_ret
   exact ⟨rfl, rfl⟩
 by_cases h4 : k = 4
 · subst h4
   go_enter Tryz.func142, Tryz.ntmps142
   go_wp2
   go_ret
   exact ⟨rfl, rfl⟩
 have H : Hid (kindW k = []) := zh (by unfold kindW; rw [if_neg h1, if_neg h2, if_neg h3, if_neg h4]);rw [H.out];clear H;have b1 : (k == 1) = false := by simpa using h1
 have b2 : (k == 2) = false := by simpa using h2
 have b3 : (k == 3) = false := by simpa using h3
 have b4 : (k == 4) = false := by simpa using h4
 clear h1 h2 h3 h4
 go_enter Tryz.func142, Tryz.ntmps142
 go_wp2
 go_ret
 exact ⟨rfl, rfl⟩
theorem z8u (g : FuncId) (eg : ∀ args w, (callFunc g args).run Tryz.prog w = .ok (.enter g args) w) (p : UInt8 → Bool) (hp : ∀ (c : UInt8) (W : World), Calls Tryz.prog g #[.int .u8 (c.toNat : Int)] W fun e W' => e = .returned (.bool (p c)) ∧ W = W')
 (s : zB) (hs : s.length ≤ maxLen) (w : World) : Calls Tryz.prog 210 #[SV s, .func (.func g) #[] #[]] w fun e w' => e = .returned (.bool (s.all p)) ∧ w = w' := by
 unfold maxLen at hs;unfold SV;have HP := zh hp; clear hp
 go_enter Tryz.func210, Tryz.ntmps210
 go_wp2
 go_loop [8] (fun i => ∃ k : Nat, k ≤ s.length ∧ i = .int .i64 k ∧ Hid ((s.take k).all p = true)) (fun i => s.length - (intOf i).toNat)
 case atStart => exact ⟨0, Nat.zero_le _, rfl, zh rfl⟩
 case round =>
  obtain ⟨k, hk, rfl, hall⟩ := hrel;by_cases hlt : k < s.length
  · obtain ⟨c, hc⟩ := zx (s[k]);have gc : ∀ h, ((⟨s.toArray⟩ : ByteArray)[k]'h) = c := fun h => hc.symm;have hcall := HP.out c w;have hsn : Hid ((s.take (k + 1)).all p = p c) := zh (by rw [List.take_succ_eq_append_getElem hlt, List.all_append, hall.out, hc]; simp);have hno : Hid (p c = false → s.all p = false) := zh (fun h => by rw [List.all_eq_false]; exact ⟨s[k], List.getElem_mem hlt, by rw [← hc, h]; simp⟩);clear hc;cases hpc : p c
    · rw [hpc] at hcall;have Hc := zh hcall;have H2 : Hid (s.all p = false) := zh (hno.out hpc);clear hcall hpc
      go_wp2_with fail
      refine Hc.out.mono ?_;rintro e w' ⟨rfl, rfl⟩
      go_wp2
      go_ret
      exact ⟨ret_bool H2.out.symm, rfl⟩
    · rw [hpc] at hcall;have Hc := zh hcall;have H2 : Hid ((s.take (k + 1)).all p = true) := zh (hsn.out.trans hpc);clear hcall hpc
      go_wp2_with fail
      refine Hc.out.mono ?_;rintro e w' ⟨rfl, rfl⟩
      go_wp2
      go_round
      case rel => exact ⟨k + 1, by omega, by go_num, H2⟩
      case measure => simp [intOf]; omega
  · have H2 : Hid (s.all p = true) := zh (by have h := hall.out; rwa [List.take_of_length_le (by omega)] at h)
    go_wp2
    go_ret
    exact ⟨ret_bool H2.out.symm, rfl⟩
theorem z8c (c : UInt8) : whoC c = (decide (32 ≤ (c.toNat : Int)) && decide ((c.toNat : Int) ≤ 126)) := by
 unfold whoC; rw [Bool.eq_iff_iff]; simp; omega
theorem whoC_any (c : UInt8) (w : World) : Calls Tryz.prog 211 #[.int .u8 (c.toNat : Int)] w fun e w' => e = .returned (.bool (whoC c)) ∧ w = w' := by
 rw [z8c]
 go_enter Tryz.func211, Tryz.ntmps211
 go_wp2
 all_goals (go_ret; refine ⟨ret_bool ?_, rfl⟩; first | rfl | (rw [Bool.eq_iff_iff]; simp; done) | (rw [Bool.eq_iff_iff]; simp; omega))
theorem z50 (c : UInt8) : z4s c = (decide (33 ≤ (c.toNat : Int)) && decide ((c.toNat : Int) ≤ 126) && ((c.toNat : Int) != 47)) := by
 unfold z4s
 have : (c == 47) = ((c.toNat : Int) == 47) := by
  rw [Bool.eq_iff_iff]; simp only [beq_iff_eq];constructor
  · rintro rfl; rfl
  · intro h; exact UInt8.toNat_inj.1 (by have : c.toNat = 47 := by omega
                                         rw [this]; rfl)
 rw [this, Bool.eq_iff_iff]; simp; omega
theorem zks (c : UInt8) (w : World) : Calls Tryz.prog 212 #[.int .u8 (c.toNat : Int)] w fun e w' => e = .returned (.bool (z4s c)) ∧ w = w' := by
 rw [z50]
 go_enter Tryz.func212, Tryz.ntmps212
 go_wp2
 all_goals (go_ret; refine ⟨ret_bool ?_, rfl⟩; first | rfl | (rw [Bool.eq_iff_iff]; simp; done) | (rw [Bool.eq_iff_iff]; simp; omega))
theorem zkt (s : zB) (hs : s.length ≤ maxLen) (w : World) : Calls Tryz.prog 210 #[SV s, .func (.func 211) #[] #[]] w fun e w' => e = .returned (.bool (s.all whoC)) ∧ w = w' :=
 z8u 211 (enters_of Tryz.func211 (by kernel_rfl) rfl) whoC whoC_any s hs w
theorem zgf (s : zB) (hs : s.length ≤ maxLen) (w : World) : Calls Tryz.prog 210 #[SV s, .func (.func 212) #[] #[]] w fun e w' => e = .returned (.bool (s.all z4s)) ∧ w = w' :=
 z8u 212 (enters_of Tryz.func212 (by kernel_rfl) rfl) z4s zks s hs w
theorem zco (s : zB) (hs : s.length ≤ maxLen) (w : World) (he : Er w) (h : whoB s = true) : Calls Tryz.prog 197 #[SV s] w (z06 .nilIface w) := by
 have ho := zkt s hs w;obtain ⟨pe, c0⟩ := he.over;unfold maxLen at hs;unfold whoB at h;simp only [Bool.and_eq_true, decide_eq_true_eq] at h;obtain ⟨h1, h2⟩ := h;rw [h1] at ho;unfold SV at ho ⊢;have Ho := zh ho;have n1 := z2m (.string ⟨#[119, 104, 111]⟩) (.iface 336 pe) w;have N1 := zh n1;have h3 : (s.length : Int) ≤ 100 := by omega
 clear ho h1 n1 he
 go_enter Tryz.func197, Tryz.ntmps197
 go_wp2_with fail
 refine Ho.out.mono ?_;rintro e w' ⟨rfl, rfl⟩
 go_wp2_with fail
 refine N1.out.mono ?_;rintro e w' ⟨rfl, rfl⟩
 go_wp2
 go_ret
 exact ⟨rfl, Below.refl _ _⟩
theorem zf0 (s : zB) (hs : s.length ≤ maxLen) (w : World) (he : Er w) (h : whoB s = false) : Calls Tryz.prog 197 #[SV s] w (zez w) := by
 have ho := zkt s hs w;obtain ⟨pe, c0⟩ := he.over;obtain ⟨a, c1⟩ := he.wrong;unfold maxLen at hs;unfold whoB at h;unfold SV at ho ⊢;clear he;cases h1 : s.all whoC
 · rw [h1] at ho;have Ho := zh ho;clear ho h1 h
   go_enter Tryz.func197, Tryz.ntmps197
   go_wp2_with fail
   refine Ho.out.mono ?_;rintro e w' ⟨rfl, rfl⟩
   go_wp2
   go_ret
   exact ⟨_, rfl, below_new w _⟩
 · rw [h1] at ho h;have Ho := zh ho;have h2 : decide ((s.length : Int) ≤ 100) = false := by simp at h; exact decide_eq_false (by omega)
   have N1 := zh (z3s ⟨#[119, 104, 111]⟩ 336 pe w);clear ho h1 h
   go_enter Tryz.func197, Tryz.ntmps197
   go_wp2_with fail
   refine Ho.out.mono ?_;rintro e w' ⟨rfl, rfl⟩
   go_wp2_with fail
   refine N1.out.mono ?_;rintro e w' ⟨rfl, rfl⟩
   go_wp2
   go_ret
   exact ⟨_, rfl, below_new w _⟩
theorem z7r (x : Itm) (hx : x.name.length ≤ 1000000) (w : World) : Calls Tryz.prog 189 #[.agg #[.int .i64 x.mode, SV x.name, SV x.id]] w fun e w' => e = .returned (SV (keyL x)) ∧ Below w.heap.size w w' := by
 obtain ⟨m, n, i⟩ := x;simp only at hx ⊢;have happ : (⟨n.toArray⟩ : ByteArray) ++ (⟨#[47]⟩ : ByteArray) = ⟨(n ++ [47]).toArray⟩ := append_S n [47];unfold SV keyL;simp only;by_cases h : m = 3
 · subst h;rw [if_pos rfl]
   go_enter Tryz.func189, Tryz.ntmps189
   go_wp2
   go_ret
   exact ⟨rfl, below_new w _⟩
 · rw [if_neg h];have b : (m == 3) = false := by simpa using h
   clear h happ
   go_enter Tryz.func189, Tryz.ntmps189
   go_wp2
   go_ret
   exact ⟨rfl, below_new w _⟩
theorem zi6 (s : zB) (w : World) : Calls Tryz.prog 183 #[SV s] w fun e w' => e = .returned (.int .i64 (kindOfW s)) ∧ w = w' := by
 have HW := zh (fun k => z3k k w);unfold SV at HW ⊢;have w1 := HW.out 1; have w2 := HW.out 2; have w3 := HW.out 3; have w4 := HW.out 4;rw [show kindW 1 = [98, 108, 111, 98] from rfl] at w1;rw [show kindW 2 = [116, 114, 101, 101] from rfl] at w2;rw [show kindW 3 = [99, 111, 109, 109, 105, 116] from rfl] at w3;rw [show kindW 4 = [116, 97, 103] from rfl] at w4;have W1 := zh w1; have W2 := zh w2; have W3 := zh w3; have W4 := zh w4;clear w1 w2 w3 w4 HW;by_cases h1 : s = [98, 108, 111, 98]
 · subst h1
   go_enter Tryz.func183, Tryz.ntmps183
   go_wp2
   refine wp_loop_rounds 1 ?_;rw [rounds_succ]
   go_wp2_with fail
   refine W1.out.mono ?_;rintro e w' ⟨rfl, rfl⟩
   go_wp2
   go_ret
   exact ⟨rfl, rfl⟩
 have n1 : ([98, 108, 111, 98] == s) = false := by rw [beq_eq_false_iff_ne]; exact fun e => h1 e.symm
 by_cases h2 : s = [116, 114, 101, 101]
 · subst h2;clear h1
   go_enter Tryz.func183, Tryz.ntmps183
   go_wp2
   refine wp_loop_rounds 2 ?_;rw [rounds_succ]
   go_wp2_with fail
   refine W1.out.mono ?_;rintro e w' ⟨rfl, rfl⟩
   go_wp2_with fail
   rw [rounds_succ]
   go_wp2_with fail
   refine W2.out.mono ?_;rintro e w' ⟨rfl, rfl⟩
   go_wp2
   go_ret
   exact ⟨rfl, rfl⟩
 have n2 : ([116, 114, 101, 101] == s) = false := by rw [beq_eq_false_iff_ne]; exact fun e => h2 e.symm
 by_cases h3 : s = [99, 111, 109, 109, 105, 116]
 · subst h3;clear h1 h2
   go_enter Tryz.func183, Tryz.ntmps183
   go_wp2
   refine wp_loop_rounds 3 ?_;rw [rounds_succ]
   go_wp2_with fail
   refine W1.out.mono ?_;rintro e w' ⟨rfl, rfl⟩
   go_wp2_with fail
   rw [rounds_succ]
   go_wp2_with fail
   refine W2.out.mono ?_;rintro e w' ⟨rfl, rfl⟩
   go_wp2_with fail
   rw [rounds_succ]
   go_wp2_with fail
   refine W3.out.mono ?_;rintro e w' ⟨rfl, rfl⟩
   go_wp2
   go_ret
   exact ⟨rfl, rfl⟩
 have n3 : ([99, 111, 109, 109, 105, 116] == s) = false := by rw [beq_eq_false_iff_ne]; exact fun e => h3 e.symm
 by_cases h4 : s = [116, 97, 103]
 · subst h4;clear h1 h2 h3
   go_enter Tryz.func183, Tryz.ntmps183
   go_wp2
   refine wp_loop_rounds 4 ?_;rw [rounds_succ]
   go_wp2_with fail
   refine W1.out.mono ?_;rintro e w' ⟨rfl, rfl⟩
   go_wp2_with fail
   rw [rounds_succ]
   go_wp2_with fail
   refine W2.out.mono ?_;rintro e w' ⟨rfl, rfl⟩
   go_wp2_with fail
   rw [rounds_succ]
   go_wp2_with fail
   refine W3.out.mono ?_;rintro e w' ⟨rfl, rfl⟩
   go_wp2_with fail
   rw [rounds_succ]
   go_wp2_with fail
   refine W4.out.mono ?_;rintro e w' ⟨rfl, rfl⟩
   go_wp2
   go_ret
   exact ⟨rfl, rfl⟩
 have n4 : ([116, 97, 103] == s) = false := by rw [beq_eq_false_iff_ne]; exact fun e => h4 e.symm
 have HK : Hid (kindOfW s = 0) := zh (by unfold kindOfW; rw [if_neg h1, if_neg h2, if_neg h3, if_neg h4]);rw [HK.out];clear h1 h2 h3 h4 HK
 go_enter Tryz.func183, Tryz.ntmps183
 go_wp2
 refine wp_loop_rounds 5 ?_;rw [rounds_succ]
 go_wp2_with fail
 refine W1.out.mono ?_;rintro e w' ⟨rfl, rfl⟩
 go_wp2_with fail
 rw [rounds_succ]
 go_wp2_with fail
 refine W2.out.mono ?_;rintro e w' ⟨rfl, rfl⟩
 go_wp2_with fail
 rw [rounds_succ]
 go_wp2_with fail
 refine W3.out.mono ?_;rintro e w' ⟨rfl, rfl⟩
 go_wp2_with fail
 rw [rounds_succ]
 go_wp2_with fail
 refine W4.out.mono ?_;rintro e w' ⟨rfl, rfl⟩
 go_wp2_with fail
 rw [rounds_succ]
 go_wp2
 go_ret
 exact ⟨rfl, rfl⟩
end Go.Proofs.YtgjddkeogboojaaGreatDoor
namespace Go.Proofs.YtgjddkeogboojaaGreatDoor
open Go Go.RowKit
theorem z7d (c : UInt8) : isD c = ((decide (48 ≤ (c.toNat : Int)) && decide ((c.toNat : Int) ≤ 57)) || (decide (97 ≤ (c.toNat : Int)) && decide ((c.toNat : Int) ≤ 102))) := by
 unfold isD;rw [Bool.eq_iff_iff]; simp [UInt8.le_iff_toNat_le]; omega
theorem zku (c : UInt8) (w : World) : Calls Tryz.prog 100 #[.int .u8 (c.toNat : Int)] w fun e w' => e = .returned (.bool (isD c)) ∧ w = w' := by
 rw [z7d]
 go_enter Tryz.func100, Tryz.ntmps100
 go_wp2
 all_goals (go_ret; refine ⟨ret_bool ?_, rfl⟩; first | rfl | (rw [Bool.eq_iff_iff]; simp; done) | (rw [Bool.eq_iff_iff]; simp; omega))
theorem zao (c : UInt8) (hc : c < 16) (w : World) : Calls Tryz.prog 50 #[.int .u8 (c.toNat : Int)] w fun e w' => e = .returned (.int .u8 ((hexD c).toNat : Int)) ∧ w = w' := by
 have hc' : c.toNat < 16 := by simpa [UInt8.lt_iff_toNat_lt] using hc
 have hd : (hexD c).toNat = if c.toNat < 10 then 48 + c.toNat else 87 + c.toNat := by
  unfold hexD;by_cases h : c.toNat < 10
  · rw [if_pos (by simpa [UInt8.lt_iff_toNat_lt] using h), if_pos h, UInt8.toNat_add]; simp; omega
  · rw [if_neg (by simpa [UInt8.lt_iff_toNat_lt] using h), if_neg h, UInt8.toNat_add]; simp; omega
 have HD := zh hd; clear hd hc;by_cases h : c.toNat < 10
 · go_enter Tryz.func50, Tryz.ntmps50
   go_wp2
   go_ret
   exact ⟨ret_u8 (by rw [HD.out, if_pos h]; omega), rfl⟩
 · go_enter Tryz.func50, Tryz.ntmps50
   go_wp2
   go_ret
   exact ⟨ret_u8 (by rw [HD.out, if_neg h]; omega), rfl⟩
theorem zkv (a b c : UInt32) (w : World) : Calls Tryz.prog 78 #[.int .u32 (a.toNat : Int), .int .u32 (b.toNat : Int), .int .u32 (c.toNat : Int)] w fun e w' => e = .returned (.int .u32 ((a ^^^ b ^^^ c).toNat : Int)) ∧ w = w' := by
 have H := zh (show bits .xor .u32 (bits .xor .u32 (a.toNat : Int) (b.toNat : Int)) (c.toNat : Int) = ((a ^^^ b ^^^ c).toNat : Int) by rw [z5s, z5s])
 go_enter Tryz.func78, Tryz.ntmps78
 go_wp2
 go_ret
 exact ⟨zes H.out, rfl⟩
theorem rotr_add (x : UInt32) (n : Nat) (h1 : 1 ≤ n) (h2 : n < 32) : rotr x (UInt32.ofNat n) = x >>> UInt32.ofNat n + x <<< UInt32.ofNat (32 - n) := by
 unfold rotr;rw [show 32 - UInt32.ofNat n = UInt32.ofNat (32 - n) by rw [← UInt32.toNat_inj, UInt32.toNat_sub]; simp; omega];rw [← UInt32.toBitVec_inj, UInt32.toBitVec_or, UInt32.toBitVec_add];refine (BitVec.add_eq_or_of_and_eq_zero _ _ ?_).symm;rw [UInt32.toBitVec_shiftRight, UInt32.toBitVec_shiftLeft];have e1 : (UInt32.ofNat n).toBitVec % 32 = BitVec.ofNat 32 n := by apply BitVec.eq_of_toNat_eq; simp; omega
 have e2 : (UInt32.ofNat (32 - n)).toBitVec % 32 = BitVec.ofNat 32 (32 - n) := by apply BitVec.eq_of_toNat_eq; simp; omega
 rw [e1, e2];apply BitVec.eq_of_getLsbD_eq;intro i hi;have hn : (BitVec.ofNat 32 n).toNat = n := by simp; omega
 have hm : (BitVec.ofNat 32 (32 - n)).toNat = 32 - n := by simp; omega
 rw [BitVec.getLsbD_and, BitVec.ushiftRight_eq', BitVec.shiftLeft_eq', hn, hm, BitVec.getLsbD_ushiftRight, BitVec.getLsbD_shiftLeft];by_cases h : i < 32 - n
 · simp [h]
 · have : x.toBitVec.getLsbD (n + i) = false := BitVec.getLsbD_of_ge _ _ (by omega);simp [this]
theorem zkw (x : UInt32) (n : Nat) (h1 : 1 ≤ n) (h2 : n < 32) (w : World) :
 Calls Tryz.prog 79 #[.int .u32 (x.toNat : Int), .int .i64 (n : Int)] w fun e w' => e = .returned (.int .u32 ((rotr x (UInt32.ofNat n)).toNat : Int)) ∧ ∃ m, w' = w.drewN m := by
 have e1 : IntKind.i64.wrap (32 - (n : Int)) = ((32 - n : Nat) : Int) := by rw [IntWalk.i64_in _ (by omega)]; omega
 have p1 : 0 ≤ (n : Int) := by omega
 have p2 : 0 ≤ ((32 - n : Nat) : Int) := by omega
 have H := zh (rotr_add x n h1 h2)
 go_enter Tryz.func79, Tryz.ntmps79
 go_wp2
 go_quiet (fail)
 clear e1 p1 p2
 go_wp2
 go_ret
 refine ⟨zes ?_, nq, rfl⟩;rw [shrP x n h2, shlP x (32 - n) (by omega), z2y, H.out]
theorem zgg (l : zB) (k : Nat) (h : k < l.length) (ih : (l.take k).all isD = true) : (l.take (k + 1)).all isD = isD l[k] := by
 rw [List.take_succ_eq_append_getElem h, List.all_append, ih]; simp
theorem zgh (l : zB) (k : Nat) (h : k < l.length) (hd : isD l[k] = false) : z0c l = false := by
 unfold z0c
 have : l.all isD = false := by
  rw [List.all_eq_false]; exact ⟨l[k], List.getElem_mem h, by simp [hd]⟩
 rw [this, Bool.and_false]
theorem zcp (l : zB) (h : l.length = 64) (ha : (l.take 64).all isD = true) : z0c l = true := by
 unfold z0c;rw [← h, List.take_length] at ha;rw [h, ha]; rfl
theorem named_len (l : zB) (h : l.length ≠ 64) : z0c l = false := by
 unfold z0c;rw [show (l.length == 64) = false by simpa using h]; rfl
theorem z8v (l : zB) (w : World) (hl : l.length ≤ maxLen) : Calls Tryz.prog 83 #[SV l] w fun e w' => e = .returned (.bool (z0c l)) ∧ w = w' := by
 unfold maxLen at hl;unfold SV;by_cases h64 : l.length = 64
 · have H64 := zh h64;have b1 : (l.length : Int) ≤ 64 := by omega
   have b2 : 64 ≤ (l.length : Int) := by omega
   have b3 : ((l.length : Int) != 64) = false := by simp [h64]
   clear h64
   go_enter Tryz.func83, Tryz.ntmps83
   go_wp2
   go_loop [9] (fun i => ∃ k : Nat, k ≤ l.length ∧ i = .int .i64 k ∧ (l.take k).all isD = true) (fun i => l.length - (intOf i).toNat)
   case atStart => exact ⟨0, Nat.zero_le _, rfl, rfl⟩
   case round =>
    obtain ⟨k, hk, rfl, hall⟩ := hrel;by_cases hlt : k < l.length
    · have hcall := zku l[k] w;have hsn := zgg l k hlt hall;cases hp : isD l[k]
      · rw [hp] at hcall;have Hno := zh (zgh l k hlt hp);clear hsn hp hall
        go_wp2_with fail
        refine hcall.mono ?_;rintro e w' ⟨rfl, rfl⟩
        go_wp2
        go_ret
        exact ⟨ret_bool Hno.out.symm, rfl⟩
      · rw [hp] at hcall;have Hsn := zh (hsn.trans hp);clear hsn hp hall
        go_wp2_with fail
        refine hcall.mono ?_;rintro e w' ⟨rfl, rfl⟩
        go_wp2
        go_round
        case rel => exact ⟨k + 1, by omega, by go_num, Hsn.out⟩
        case measure => simp [intOf]; omega
    · have Hy := zh (zcp l H64.out (by rw [List.take_of_length_le (by omega)]; rw [List.take_of_length_le (by omega)] at hall; exact hall));clear hall
      go_wp2
      go_ret
      exact ⟨ret_bool Hy.out.symm, rfl⟩
 · have Hn := zh (named_len l h64);have b3 : ((l.length : Int) != 64) = true := by simp; omega
   clear h64
   go_enter Tryz.func83, Tryz.ntmps83
   go_wp2
   go_ret
   exact ⟨ret_bool Hn.out.symm, rfl⟩
end Go.Proofs.YtgjddkeogboojaaGreatDoor
namespace Go.Proofs.YtgjddkeogboojaaGreatDoor
open Go Go.RowKit Go.Shelf
theorem z6h (s : zB) (hs : s.length ≤ maxLen) (w : World) (he : Er w) (h : z0c s = true) : Calls Tryz.prog 195 #[SV s] w (z06 .nilIface w) := by
 obtain ⟨a, c1⟩ := he.wrong;have hn := fun W => z8v s W hs;simp only [h] at hn;unfold SV at hn ⊢;have Hn := zh hn;have N1 := zh (fun W => z2m (.string ⟨#[110, 97, 109, 101]⟩) (.iface 336 (.pointer (some a))) W);clear hn he hs h
 go_enter Tryz.func195, Tryz.ntmps195
 go_wp2_with fail
 go_region_held3 (fun W => W.cell? ⟨4, 0, none⟩ = some (.iface 336 (.pointer (some a))) ∧ Below w.heap.size w W)
  (first | exact ⟨c1, (Below.refl _ _).drew⟩ | assumption | go_keep)
  (first
    | (go_at_call 83; refine (Hn.out _).mono ?_; rintro e w2 ⟨rfl, rfl⟩)
    | (go_at_call 140; refine (N1.out _).mono ?_; rintro e w3 ⟨rfl, rfl⟩))
 go_wp2
 go_ret
 exact ⟨rfl, (Below.refl _ _).drew⟩
theorem z7s (s : zB) (hs : s.length ≤ maxLen) (w : World) (he : Er w) (h : z0c s = false) : Calls Tryz.prog 195 #[SV s] w (zez w) := by
 obtain ⟨a, c1⟩ := he.wrong;have hn := fun W => z8v s W hs;simp only [h] at hn;unfold SV at hn ⊢;have Hn := zh hn;have N1 := zh (fun W => z3s ⟨#[110, 97, 109, 101]⟩ 336 (.pointer (some a)) W);have hgl := World.block_lt_of_cell? w _ c1;clear hn he hs h
 go_enter Tryz.func195, Tryz.ntmps195
 go_wp2_with fail
 go_region_held3 (fun W => W.cell? ⟨4, 0, none⟩ = some (.iface 336 (.pointer (some a))) ∧ Below w.heap.size w W)
  (first | exact ⟨c1, (Below.refl _ _).drew⟩ | assumption | go_keep)
  (first
    | (go_at_call 83; refine (Hn.out _).mono ?_; rintro e w2 ⟨rfl, rfl⟩)
    | (go_at_call 140; refine (N1.out _).mono ?_; rintro e w3 ⟨rfl, hw3⟩; have hS3 : w3.cell? ⟨4, 0, none⟩ = some (.iface 336 (.pointer (some a))) ∧ Below w.heap.size w w3 := by subst hw3; exact ⟨cell_to c1 (((Below.refl w.heap.size w).drew).alloc zl _), ((Below.refl w.heap.size w).drew).alloc zl _⟩))
 go_wp2
 go_ret
 exact ⟨_, rfl, hS3.2⟩
theorem z4b {s : zB} : z2a s = true ↔ s.all z4s = true ∧ (1 ≤ s.length ∧ s.length ≤ 70) ∧ s ≠ [46] ∧ s ≠ [46, 46] := by
 unfold z2a;simp only [Bool.and_eq_true, decide_eq_true_eq, Bool.not_eq_true', beq_eq_false_iff_ne];exact ⟨fun h => ⟨h.1.1.1, h.1.1.2, h.1.2, h.2⟩, fun h => ⟨⟨⟨h.1, h.2.1⟩, h.2.2.1⟩, h.2.2.2⟩⟩
theorem z4c (s : zB) (hs : s.length ≤ maxLen) (w : World) (he : Er w) (h : z2a s = true) : Calls Tryz.prog 198 #[SV s] w (z06 .nilIface w) := by
 have ho := zgf s hs w;obtain ⟨pe, c0⟩ := he.over;unfold maxLen at hs;obtain ⟨h1, ⟨h2, h3⟩, h4, h5⟩ := z4b.1 h;rw [h1] at ho;unfold SV at ho ⊢;have Ho := zh ho;have N1 := zh (z2m (.string ⟨#[112, 97, 114, 116]⟩) (.iface 336 pe) w);have b0 : (s == []) = false := by rw [beq_eq_false_iff_ne]; rintro rfl; simp at h2
 have b0' : (s != []) = true := by simp [bne, b0]
 have b0e : s.isEmpty = false := by cases s with | nil => simp at h2 | cons _ _ => rfl
 have b1 : (s == [46]) = false := by rw [beq_eq_false_iff_ne]; exact h4
 have b1' : (s != [46]) = true := by simp [bne, b1]
 have b2 : (s == [46, 46]) = false := by rw [beq_eq_false_iff_ne]; exact h5
 have b2' : (s != [46, 46]) = true := by simp [bne, b2]
 have h3 : (s.length : Int) ≤ 70 := by omega
 clear ho h1 he h4 h5 h h2
 go_enter Tryz.func198, Tryz.ntmps198
 go_wp2_with fail
 refine Ho.out.mono ?_;rintro e w' ⟨rfl, rfl⟩
 go_wp2_with fail
 refine N1.out.mono ?_;rintro e w' ⟨rfl, rfl⟩
 go_wp2
 go_ret
 exact ⟨rfl, Below.refl _ _⟩
theorem z7t (s : zB) (hs : s.length ≤ maxLen) (w : World) (he : Er w) (h : z2a s = false) : Calls Tryz.prog 198 #[SV s] w (zez w) := by
 have ho := zgf s hs w;obtain ⟨pe, c0⟩ := he.over;obtain ⟨a, c1⟩ := he.wrong;unfold maxLen at hs;unfold SV at ho ⊢;clear he;have N1 := zh (z3s ⟨#[112, 97, 114, 116]⟩ 336 pe w);by_cases z0 : s = []
 · subst z0;clear ho N1 h
   go_enter Tryz.func198, Tryz.ntmps198
   go_wp2_with fail
   go_ret
   exact ⟨_, rfl, below_new w _⟩
 by_cases z1 : s = [46]
 · subst z1;clear ho N1 h z0
   go_enter Tryz.func198, Tryz.ntmps198
   go_wp2_with fail
   go_ret
   exact ⟨_, rfl, below_new w _⟩
 by_cases z2 : s = [46, 46]
 · subst z2;clear ho N1 h z0 z1
   go_enter Tryz.func198, Tryz.ntmps198
   go_wp2_with fail
   go_ret
   exact ⟨_, rfl, below_new w _⟩
 have h2 : 1 ≤ s.length := by
  cases s with
  | nil => exact absurd rfl z0
  | cons _ _ => simp
 have b0 : (s == []) = false := by rw [beq_eq_false_iff_ne]; exact z0
 have b0' : (s != []) = true := by simp [bne, b0]
 have b0e : s.isEmpty = false := by cases s with | nil => simp at h2 | cons _ _ => rfl
 have b1 : (s == [46]) = false := by rw [beq_eq_false_iff_ne]; exact z1
 have b1' : (s != [46]) = true := by simp [bne, b1]
 have b2 : (s == [46, 46]) = false := by rw [beq_eq_false_iff_ne]; exact z2
 have b2' : (s != [46, 46]) = true := by simp [bne, b2]
 cases h1 : s.all z4s
 · rw [h1] at ho;have Ho := zh ho;clear ho h1 h z0 z1 z2 N1
   go_enter Tryz.func198, Tryz.ntmps198
   go_wp2_with fail
   refine Ho.out.mono ?_;rintro e w' ⟨rfl, rfl⟩
   go_wp2
   go_ret
   exact ⟨_, rfl, below_new w _⟩
 · rw [h1] at ho;have Ho := zh ho
   have h7 : ¬ s.length ≤ 70 := fun h7 => by
    have := z4b.2 ⟨h1, ⟨h2, h7⟩, z1, z2⟩;rw [h] at this; cases this
   have h8 : decide ((s.length : Int) ≤ 70) = false := decide_eq_false (by omega);clear ho h1 h z0 z1 z2 h7
   go_enter Tryz.func198, Tryz.ntmps198
   go_wp2_with fail
   refine Ho.out.mono ?_;rintro e w' ⟨rfl, rfl⟩
   go_wp2_with fail
   refine N1.out.mono ?_;rintro e w' ⟨rfl, rfl⟩
   go_wp2
   go_ret
   exact ⟨_, rfl, below_new w _⟩
def ItV (x : Itm) : Value := .agg #[.int .i64 x.mode, SV x.name, SV x.id]
theorem zbn (x : Itm) (hn : x.name.length ≤ maxLen) (hi : x.id.length ≤ maxLen) (w : World) (he : Er w) (h : z39 x = true) : Calls Tryz.prog 188 #[ItV x] w (z06 .nilIface w) := by
 obtain ⟨m, n, i⟩ := x;obtain ⟨h1, h2, h3, h4⟩ := z2g h;simp only at h1 h2 h3 h4 hn hi;have H3 : Hid (∀ W, Below w.heap.size w W → Calls Tryz.prog 198 #[SV n] W (z06 .nilIface W)) := zh fun W hW => z4c n hn W (he.below hW) h3;have H4 : Hid (∀ W, Below w.heap.size w W → Calls Tryz.prog 195 #[SV i] W (z06 .nilIface W)) := zh fun W hW => z6h i hi W (he.below hW) h4;have g1 : ¬ m < 1 := by omega
 have g2 : ¬ 3 < m := by omega
 clear h h3 h4 he hn hi;unfold ItV SV at *;simp only
 go_enter Tryz.func188, Tryz.ntmps188
 go_wp2_with fail
 refine (H3.out _ (below_new w _)).mono ?_;rintro e w1 ⟨rfl, l1⟩;have L1 : Below w.heap.size w w1 := (below_new w _).trans (l1.mono (by simp));have cb := (l1.cell (p := ⟨w.heap.size, 2, none⟩) (by simp))
 go_wp2_with fail
 refine (H4.out _ L1).mono ?_;rintro e w2 ⟨rfl, l2⟩
 go_wp2
 go_ret
 exact ⟨rfl, L1.trans (l2.mono L1.size)⟩
theorem zcq (x : Itm) (hn : x.name.length ≤ maxLen) (hi : x.id.length ≤ maxLen) (w : World) (he : Er w) (h : z39 x = false) : Calls Tryz.prog 188 #[ItV x] w (zez w) := by
 obtain ⟨m, n, i⟩ := x;simp only at hn hi;obtain ⟨a, c1⟩ := he.wrong;have Hh := zh h;clear h;by_cases g1 : m < 1
 · have c2 := cell_to c1 (below_new w (.cells #[.int .i64 m, .string ⟨n.toArray⟩, .string ⟨i.toArray⟩] 126));unfold ItV SV;simp only;clear he hn hi Hh
   go_enter Tryz.func188, Tryz.ntmps188
   go_wp2_with fail
   go_ret
   exact ⟨_, rfl, (below_new w _).trans ((below_new _ _).mono (by simp))⟩
 by_cases g2 : 3 < m
 · have c2 := cell_to c1 (below_new w (.cells #[.int .i64 m, .string ⟨n.toArray⟩, .string ⟨i.toArray⟩] 126));unfold ItV SV;simp only;clear he hn hi Hh
   go_enter Tryz.func188, Tryz.ntmps188
   go_wp2_with fail
   go_ret
   exact ⟨_, rfl, (below_new w _).trans ((below_new _ _).mono (by simp))⟩
 cases h3 : z2a n
 · have H3 : Hid (∀ W, Below w.heap.size w W → Calls Tryz.prog 198 #[SV n] W (zez W)) := zh fun W hW => z7t n hn W (he.below hW) h3;clear h3 he hn hi Hh c1;unfold ItV SV at *;simp only
   go_enter Tryz.func188, Tryz.ntmps188
   go_wp2_with fail
   refine (H3.out _ (below_new w _)).mono ?_;rintro e w1 ⟨p, rfl, l1⟩;have L1 : Below w.heap.size w w1 := (below_new w _).trans (l1.mono (by simp))
   go_wp2
   go_ret
   exact ⟨_, rfl, L1⟩
 · have h4 : z0c i = false := by
    have h := Hh.out;unfold z39 at h;simp only [h3, Bool.and_true] at h;rw [decide_eq_true (show 1 ≤ m by omega), decide_eq_true (show m ≤ 3 by omega)] at h;simpa using h
   have H3 : Hid (∀ W, Below w.heap.size w W → Calls Tryz.prog 198 #[SV n] W (z06 .nilIface W)) := zh fun W hW => z4c n hn W (he.below hW) h3;have H4 : Hid (∀ W, Below w.heap.size w W → Calls Tryz.prog 195 #[SV i] W (zez W)) := zh fun W hW => z7s i hi W (he.below hW) h4;clear h3 h4 he hn hi Hh c1;unfold ItV SV at *;simp only
   go_enter Tryz.func188, Tryz.ntmps188
   go_wp2_with fail
   refine (H3.out _ (below_new w _)).mono ?_;rintro e w1 ⟨rfl, l1⟩;have L1 : Below w.heap.size w w1 := (below_new w _).trans (l1.mono (by simp));have cb := (l1.cell (p := ⟨w.heap.size, 2, none⟩) (by simp))
   go_wp2_with fail
   refine (H4.out _ L1).mono ?_;rintro e w2 ⟨p, rfl, l2⟩
   go_wp2
   go_ret
   exact ⟨_, rfl, L1.trans (l2.mono L1.size)⟩
theorem zgi (c : UInt8) : ∀ s : zB, z1u c s = none → Lib.indexByte s c = -1
 | [], _ => rfl
 | x :: s, h => by
   rw [z1u] at h;by_cases hx : x = c
   · rw [if_pos hx] at h; cases h
   · rw [if_neg hx, Option.map_eq_none_iff] at h;rw [Lib.indexByte, if_neg (by simpa using hx), zgi c s h]; rfl
theorem zgj (c : UInt8) : ∀ (s a r : zB), z1u c s = some (a, r) → Lib.indexByte s c = (a.length : Int)
 | [], _, _, h => by cases h
 | x :: s, a, r, h => by
   rw [z1u] at h;by_cases hx : x = c
   · rw [if_pos hx] at h;simp only [Option.some.injEq, Prod.mk.injEq] at h;obtain ⟨rfl, rfl⟩ := h;rw [Lib.indexByte, if_pos (by simpa using hx)]; rfl
   · rw [if_neg hx] at h;obtain ⟨⟨a', r'⟩, h1, h2⟩ := Option.map_eq_some_iff.1 h;simp only [Prod.mk.injEq] at h2;obtain ⟨rfl, rfl⟩ := h2;have ih := zgj c s a' r' h1;rw [Lib.indexByte, if_neg (by simpa using hx), ih, if_neg (by simp)];simp
theorem zkx (s : zB) (c : UInt8) (w : World) : Calls Tryz.prog 224 #[.string ⟨s.toArray⟩, .string ⟨#[c]⟩] w fun e w' => e = .returned (.int .i64 (Lib.indexByte s c)) ∧ w = w' := by
 by_cases hs : s = [c]
 · subst hs;rw [show Lib.indexByte [c] c = 0 by unfold Lib.indexByte; simp]
   go_enter Tryz.func224, Tryz.ntmps224
   go_wp2_with fail
   go_ret
   exact ⟨rfl, rfl⟩
 have b1 : ([c] == s) = false := by rw [beq_eq_false_iff_ne]; exact fun e => hs e.symm
 clear hs;have h := Any.stringslite_IndexByte Tryz.ixbA ⟨s.toArray⟩ (c.toNat : Int) w;have ec : ((c.toNat : Int).toNat).toUInt8 = c := UInt8.toNat_inj.1 (by have := c.toNat_lt; simp);rw [ec] at h;have H := zh h;clear h ec
 go_enter Tryz.func224, Tryz.ntmps224
 go_wp2_with fail
 refine H.out.mono ?_;rintro e w' ⟨rfl, rfl⟩
 go_wp2_with fail
 go_ret
 exact ⟨rfl, rfl⟩
def cutV (s : zB) (o : Option (zB × zB)) : Value := match o with
 | some (a, r) => .tuple #[SV a, SV r, .bool true]
 | none => .tuple #[SV s, SV [], .bool false]
theorem zf1 (s : zB) (hs : s.length ≤ 1000000) (c : UInt8) (w : World) : Calls Tryz.prog 217 #[.string ⟨s.toArray⟩, .string ⟨#[c]⟩] w fun e w' => e = .returned (cutV s (z1u c s)) ∧ ∃ n, w' = w.drewN n := by
 have H := zh (zkx s c w);cases hc : z1u c s with
 | none =>
   have e := zgi c s hc;rw [e] at H;unfold cutV SV;clear e hc
   go_enter Tryz.func217, Tryz.ntmps217
   go_wp2_with fail
   refine H.out.mono ?_;rintro e w' ⟨rfl, rfl⟩
   go_wp2_with fail
   go_ret3
   exact ⟨rfl, 0, rfl⟩
 | some p =>
   obtain ⟨a, r⟩ := p;have e := zgj c s a r hc;obtain ⟨es, _⟩ := z2f hc;rw [e] at H;unfold cutV SV;have hl : a.length + 1 ≤ s.length := by rw [es]; simp
   have x1 : (⟨s.toArray⟩ : ByteArray).extract 0 a.length = ⟨a.toArray⟩ := by rw [extract_S, es, List.take_left]; rfl
   have x2 : (⟨s.toArray⟩ : ByteArray).extract (a.length + 1) s.length = ⟨r.toArray⟩ := by
    rw [extract_S, List.take_length, es, List.drop_append]; simp
   have e1 : IntKind.i64.wrap ((a.length : Int) + 1) = ((a.length + 1 : Nat) : Int) := by rw [IntWalk.i64_in _ (by omega)]; omega
   have p0 : 0 ≤ (a.length : Int) := by omega
   have p1 : (a.length : Int) ≤ (s.length : Int) := by omega
   have p2 : 0 ≤ ((a.length + 1 : Nat) : Int) := by omega
   have p3 : ((a.length + 1 : Nat) : Int) ≤ (s.length : Int) := by omega
   clear e hc es hs
   go_enter Tryz.func217, Tryz.ntmps217
   go_wp2_with fail
   refine H.out.mono ?_;rintro e w' ⟨rfl, rfl⟩
   go_wp2_with fail
   go_region
   all_goals
    go_wp2_with fail
    go_ret3
    exact ⟨rfl, 1, rfl⟩
theorem zky (s : zB) (hs : s.length ≤ 1000000) (c : UInt8) (w : World) : Calls Tryz.prog 205 #[.string ⟨s.toArray⟩, .string ⟨#[c]⟩] w fun e w' => e = .returned (cutV s (z1u c s)) ∧ ∃ n, w' = w.drewN n := by
 have H := zh (zf1 s hs c w);cases hc : z1u c s with
 | none =>
   rw [hc] at H;unfold cutV SV at H ⊢;clear hc
   go_enter Tryz.func205, Tryz.ntmps205
   go_wp2_with fail
   refine H.out.mono ?_;rintro e w' ⟨rfl, n, rfl⟩
   go_wp2_with fail
   go_ret3
   exact ⟨rfl, n, rfl⟩
 | some p =>
   obtain ⟨a, r⟩ := p;rw [hc] at H;unfold cutV SV at H ⊢;clear hc
   go_enter Tryz.func205, Tryz.ntmps205
   go_wp2_with fail
   refine H.out.mono ?_;rintro e w' ⟨rfl, n, rfl⟩
   go_wp2_with fail
   go_ret3
   exact ⟨rfl, n, rfl⟩
def StepPost (Q : zB → World → Prop) (F : Value → World → Prop) (e : Ending) (w' : World) : Prop :=
 (∃ s', e = .returned (.tuple #[SV s', .nilIface]) ∧ Q s' w') ∨ (∃ s' p, e = .returned (.tuple #[.string s', .iface 232 (.pointer (some p))]) ∧ F (.iface 232 (.pointer (some p))) w')
theorem z6i (n c blk : Nat) (hn : n ≤ 100) (gs : Nat → FuncId) (lbs : Nat → Array Value) (P : Nat → zB → World → Prop) (F : Value → World → Prop)
 (hcell : ∀ i s W, i < n → P i s W → W.cell? ⟨blk, 0 + i, none⟩ = some (.func (.func (gs i)) #[] (lbs i)))
 (hen : ∀ i, i < n → ∀ args w, (callFunc (gs i) args).run Tryz.prog w = .ok (.enter (gs i) args) w)
 (hstep : ∀ i s W, i < n → P i s W → Calls Tryz.prog (gs i) (#[.string ⟨s.toArray⟩] ++ lbs i) W (StepPost (P (i + 1)) F))
 (s : zB) (W : World) (h0 : P 0 s W) :
 Calls Tryz.prog 178 #[.string ⟨s.toArray⟩, .slice (some ⟨blk, 0, none⟩) n c] W (StepPost (P n) F) := by
 have HC := zh hcell; have HE := zh hen; have HS := zh hstep; have H0 := zh h0;clear hcell hen hstep h0
 go_enter Tryz.func178, Tryz.ntmps178
 go_wp2_with fail
 go_loopw [0, 12] (fun vs vi wr => ∃ (k : Nat) (r : zB), k ≤ n ∧ vi = .int .i64 k ∧ vs = .string ⟨r.toArray⟩ ∧ Hid (P k r wr)) (fun _ vi _ => n - (intOf vi).toNat)
 case atStart => exact ⟨0, s, Nat.zero_le _, rfl, rfl, H0⟩
 case round =>
  obtain ⟨k, r, hk, rfl, rfl, hP⟩ := hrel;by_cases hlt : k < n
  · have c0 := HC.out k r wr hlt hP.out;have eg := HE.out k hlt;have hst := HS.out k r wr hlt hP.out;obtain ⟨g, hg⟩ := zx (gs k);obtain ⟨lb, hlb⟩ := zx (lbs k);rw [← hg] at c0 eg hst;rw [← hlb] at c0 hst;have HS1 := zh hst;clear hst hg hlb;rw [Nat.zero_add] at c0
    go_wp2_with fail
    refine HS1.out.mono ?_;rintro e w1 (⟨s', rfl, hP1⟩ | ⟨s', p, rfl, hF⟩)
    · have HP1 := zh hP1;unfold SV;clear hP1
      go_wp2_with fail
      go_roundw
      case rel => exact ⟨k + 1, s', by omega, by go_num, rfl, HP1⟩
      case measure => simp [intOf]; omega
    · have HF := zh hF;clear hF
      go_wp2_with fail
      go_ret2
      exact .inr ⟨_, p, rfl, HF.out⟩
  · obtain rfl : k = n := by omega
    go_wp2_with fail
    go_ret2
    exact .inl ⟨r, rfl, hP.out⟩
def Turned (w w' : World) (tb o : Nat) (x : Value) : Prop :=
 w.grownBy w' (some tb) ∧ ∀ cs t, w.heap[tb]? = some (.cells cs t (0, 0)) → w'.heap[tb]? = some (.cells (cs.setIfInBounds o x) t (0, 0))
theorem zap (w : World) (n : Nat) (tb o : Nat) (x : Value) : Turned w ((w.drewN n).setCell ⟨tb, o, none⟩ x) tb o x :=
 ⟨⟨rfl, rfl, rfl, by simp [World.setCell], fun k _ hk => Below.heap_setCell _ _ _ _ (fun e => hk (by rw [e]))⟩, fun cs t h => by
   simp [World.setCell, Array.getElem?_modify, World.drewN, h]⟩
theorem Turned.alloc {w w' : World} {tb o : Nat} {x : Value} (h : Turned w w' tb o x) (ob : Obj) : Turned w (w'.alloc ob) tb o x :=
 ⟨zeu h.1 ob, fun cs t hc => by
   have := h.2 cs t hc;rw [Below.heap_alloc _ _ _ (lt_heap this)]; exact this⟩
theorem zf2 (p s : zB) (h : p.isPrefixOf s = true) : Lib.trimPrefix s p = s.drop p.length := by
 unfold Lib.trimPrefix Lib.hasPrefix; rw [if_pos h]
theorem zf3 (p s : zB) (h : p.isPrefixOf s = false) : Lib.trimPrefix s p = s := by
 unfold Lib.trimPrefix Lib.hasPrefix; rw [if_neg (by rw [h]; simp)]
theorem z8d (s word : zB) (b : Nat) (w : World) (hb : w.cell? ⟨b, 0, none⟩ = some (.string ⟨word.toArray⟩)) (he : Er w) (h : word.isPrefixOf s = true) :
 Calls Tryz.prog 193 #[.string ⟨s.toArray⟩, .pointer (some ⟨b, 0, none⟩)] w fun e w' => e = .returned (.tuple #[SV (s.drop word.length), .nilIface]) ∧ w = w' := by
 have hc := Any.strings_CutPrefix Tryz.cutpA ⟨s.toArray⟩ ⟨word.toArray⟩ w;have e1 : Lib.trimPrefix (⟨s.toArray⟩ : ByteArray).data.toList (⟨word.toArray⟩ : ByteArray).data.toList = s.drop word.length := zf2 word s h;have e2 : Lib.hasPrefix (⟨s.toArray⟩ : ByteArray).data.toList (⟨word.toArray⟩ : ByteArray).data.toList = true := h;rw [e1, e2] at hc;obtain ⟨a, b2, _, _, c3⟩ := he.two;have H := zh hc;have N := zh (fun pe => z2m (.string ⟨word.toArray⟩) pe w);unfold SV;clear hc e1 e2 he h
 go_enter Tryz.func193, Tryz.ntmps193
 go_wp2_with fail
 refine H.out.mono ?_;rintro e w' ⟨rfl, rfl⟩
 go_wp2_with fail
 refine (N.out _).mono ?_;rintro e w' ⟨rfl, rfl⟩
 go_wp2_with fail
 go_ret2
 exact ⟨rfl, rfl⟩
theorem zbo (s word : zB) (b : Nat) (w : World) (hb : w.cell? ⟨b, 0, none⟩ = some (.string ⟨word.toArray⟩)) (pe : Value) (c3 : w.cell? ⟨7, 0, none⟩ = some (.iface 336 pe)) (h : word.isPrefixOf s = false) :
 Calls Tryz.prog 193 #[.string ⟨s.toArray⟩, .pointer (some ⟨b, 0, none⟩)] w fun e w' => e = .returned (.tuple #[.string ⟨s.toArray⟩, .iface 232 (.pointer (some ⟨w.heap.size, 0, none⟩))]) ∧ w.alloc (.cells #[.string ⟨word.toArray⟩, .iface 336 pe] 236) = w' := by
 have hc := Any.strings_CutPrefix Tryz.cutpA ⟨s.toArray⟩ ⟨word.toArray⟩ w;have e1 : Lib.trimPrefix (⟨s.toArray⟩ : ByteArray).data.toList (⟨word.toArray⟩ : ByteArray).data.toList = s := zf3 word s h;have e2 : Lib.hasPrefix (⟨s.toArray⟩ : ByteArray).data.toList (⟨word.toArray⟩ : ByteArray).data.toList = false := h;rw [e1, e2] at hc;have H := zh hc;have N := zh (z3s ⟨word.toArray⟩ 336 pe w);clear hc e1 e2 h
 go_enter Tryz.func193, Tryz.ntmps193
 go_wp2_with fail
 refine H.out.mono ?_;rintro e w' ⟨rfl, rfl⟩
 go_wp2_with fail
 refine N.out.mono ?_;rintro e w' ⟨rfl, rfl⟩
 go_wp2_with fail
 go_ret2
 exact ⟨rfl, rfl⟩
theorem zcr (s a r : zB) (hs : s.length ≤ 1000000) (c : UInt8) (b1 b2 tb o : Nat) (old : Value) (w : World) (h1 : w.cell? ⟨b1, 0, none⟩ = some (.string ⟨#[c]⟩)) (h2 : w.cell? ⟨b2, 0, none⟩ = some (.pointer (some ⟨tb, o, none⟩)))
 (h3 : w.cell? ⟨tb, o, none⟩ = some old) (h4 : w.frozen? ⟨tb, o, none⟩ = false) (he : Er w) (hg : 4 ≠ tb) (hc : z1u c s = some (a, r)) :
 Calls Tryz.prog 204 #[.string ⟨s.toArray⟩, .pointer (some ⟨b1, 0, none⟩), .pointer (some ⟨b2, 0, none⟩)] w fun e w' => e = .returned (.tuple #[SV r, .nilIface]) ∧ Turned w w' tb o (SV a) := by
 have hcut := zky s hs c w;rw [hc] at hcut;obtain ⟨ew, c1⟩ := he.wrong;unfold cutV SV at hcut;have H := zh hcut
 have c2 : ∀ n, (((w.drewN n).setCell ⟨tb, o, none⟩ (.string ⟨a.toArray⟩)).cell? ⟨4, 0, none⟩) = some (.iface 336 (.pointer (some ew))) := fun n => by
  rw [World.cell?_setCell_far _ _ _ _ (fun e => hg e.symm)]; exact c1
 have N := zh (fun W => z2m (.string ⟨#[101, 110, 100]⟩) (.iface 336 (.pointer (some ew))) W);unfold SV;clear hcut hc he hs hg
 go_enter Tryz.func204, Tryz.ntmps204
 go_wp2_with fail
 refine H.out.mono ?_;rintro e w' ⟨rfl, n, rfl⟩;have cn := c2 n
 go_wp2_with fail
 refine (N.out _).mono ?_;rintro e w' ⟨rfl, rfl⟩
 go_wp2_with fail
 go_ret2
 exact ⟨rfl, zap w n tb o _⟩
theorem zgk (s : zB) (hs : s.length ≤ 1000000) (c : UInt8) (b1 b2 tb o : Nat) (old : Value) (w : World) (h1 : w.cell? ⟨b1, 0, none⟩ = some (.string ⟨#[c]⟩)) (h2 : w.cell? ⟨b2, 0, none⟩ = some (.pointer (some ⟨tb, o, none⟩)))
 (h3 : w.cell? ⟨tb, o, none⟩ = some old) (h4 : w.frozen? ⟨tb, o, none⟩ = false) (ew : Addr) (c1 : w.cell? ⟨4, 0, none⟩ = some (.iface 336 (.pointer (some ew)))) (hg : 4 ≠ tb) (hc : z1u c s = none) :
 Calls Tryz.prog 204 #[.string ⟨s.toArray⟩, .pointer (some ⟨b1, 0, none⟩), .pointer (some ⟨b2, 0, none⟩)] w fun e w' => e = .returned (.tuple #[.string ⟨#[]⟩, .iface 232 (.pointer (some ⟨w.heap.size, 0, none⟩))]) ∧ Turned w w' tb o (SV s) ∧ w'.heap[w.heap.size]? = some (.cells #[.string ⟨#[101, 110, 100]⟩, .iface 336 (.pointer (some ew))] 236 (0, 0)) := by
 have hcut := zky s hs c w;rw [hc] at hcut;unfold cutV SV at hcut;have H := zh hcut
 have c2 : ∀ n, (((w.drewN n).setCell ⟨tb, o, none⟩ (.string ⟨s.toArray⟩)).cell? ⟨4, 0, none⟩) = some (.iface 336 (.pointer (some ew))) := fun n => by
  rw [World.cell?_setCell_far _ _ _ _ (fun e => hg e.symm)]; exact c1
 have N := zh (fun W => z3s ⟨#[101, 110, 100]⟩ 336 (.pointer (some ew)) W);unfold SV;clear hcut hc hs hg
 go_enter Tryz.func204, Tryz.ntmps204
 go_wp2_with fail
 refine H.out.mono ?_;rintro e w' ⟨rfl, n, rfl⟩;have cn := c2 n;have hz : (((w.drewN n).setCell ⟨tb, o, none⟩ (.string ⟨s.toArray⟩))).heap.size = w.heap.size := by simp [World.setCell, World.drewN]
 have HZ := zh hz;clear hz
 go_wp2_with fail
 refine (N.out _).mono ?_;rintro e w' ⟨rfl, rfl⟩
 go_wp2_with fail
 go_ret2
 exact ⟨rfl, (zap w n tb o _).alloc _, by rw [← HZ.out]; exact heap_alloc_new _ _⟩
theorem zcs (w : World) (tb o : Nat) (x : Value) : Turned w (w.setCell ⟨tb, o, none⟩ x).drew tb o x :=
 ⟨⟨rfl, rfl, rfl, by simp [World.setCell], fun k _ hk => Below.heap_setCell _ _ _ _ (fun e => hk (by rw [e]))⟩, fun cs t h => by
   simp [World.setCell, Array.getElem?_modify, World.drew, h]⟩
theorem zgl (s : zB) (n : Nat) (hn : n ≤ s.length) (b1 b2 tb o : Nat) (old : Value) (w : World) (h1 : w.cell? ⟨b1, 0, none⟩ = some (.int .i64 (n : Int))) (h2 : w.cell? ⟨b2, 0, none⟩ = some (.pointer (some ⟨tb, o, none⟩)))
 (h3 : w.cell? ⟨tb, o, none⟩ = some old) (h4 : w.frozen? ⟨tb, o, none⟩ = false) (hb : b1 ≠ tb) :
 Calls Tryz.prog 203 #[.string ⟨s.toArray⟩, .pointer (some ⟨b1, 0, none⟩), .pointer (some ⟨b2, 0, none⟩)] w fun e w' => e = .returned (.tuple #[SV (s.drop n), .nilIface]) ∧ Turned w w' tb o (SV (s.take n)) := by
 have x1 : (⟨s.toArray⟩ : ByteArray).extract 0 n = ⟨(s.take n).toArray⟩ := by rw [extract_S]; rfl
 have x2 : (⟨s.toArray⟩ : ByteArray).extract n s.length = ⟨(s.drop n).toArray⟩ := by rw [extract_S, List.take_length]
 have p0 : 0 ≤ (n : Int) := by omega
 have p1 : (n : Int) ≤ (s.length : Int) := by omega
 have p2 : ¬ (s.length : Int) < (n : Int) := by omega
 have p3 : ¬ s.length < n := by omega
 unfold SV;generalize s.take n = ta at x1 ⊢;generalize s.drop n = td at x2 ⊢;have HB := zh hb
 have c2 : ((w.setCell ⟨tb, o, none⟩ (.string ⟨ta.toArray⟩)).cell? ⟨b1, 0, none⟩) = some (.int .i64 (n : Int)) := by
  rw [World.cell?_setCell_far _ _ _ _ (fun e => hb e.symm)]; exact h1
 clear hb
 go_enter Tryz.func203, Tryz.ntmps203
 go_wp2_with fail
 go_region
 all_goals
  go_wp2_with fail
  go_ret2
  exact ⟨rfl, zcs w tb o _⟩
theorem zkz (s : zB) (n : Nat) (hn : s.length < n) (b1 : Nat) (b2 : Value) (w : World) (h1 : w.cell? ⟨b1, 0, none⟩ = some (.int .i64 (n : Int))) (he : Er w) :
 Calls Tryz.prog 203 #[.string ⟨s.toArray⟩, .pointer (some ⟨b1, 0, none⟩), b2] w fun e w' => (∃ p, e = .returned (.tuple #[.string ⟨#[]⟩, .iface 232 (.pointer (some p))])) ∧ Below w.heap.size w w' := by
 obtain ⟨ew, c1⟩ := he.wrong;have p2 : (s.length : Int) < (n : Int) := by omega
 clear he
 go_enter Tryz.func203, Tryz.ntmps203
 go_wp2_with fail
 go_region
 all_goals
  go_wp2_with fail
  go_ret2
  exact ⟨⟨_, rfl⟩, by first | exact ((Below.refl w.heap.size w).drew).alloc zl _ | exact ((Below.refl w.heap.size w).alloc zl _).drew⟩
theorem zbp (s : ByteArray) (w : World) : Calls Tryz.prog 181 #[.string s] w fun e w' => e = .returned (.func (.func 193) #[] #[.pointer (some ⟨w.heap.size, 0, none⟩)]) ∧ w.alloc (.cells #[.string s] 9) = w' := by
 go_enter Tryz.func181, Tryz.ntmps181
 go_wp2
 go_ret
 exact ⟨rfl, rfl⟩
theorem zgm (s : ByteArray) (t : Option Addr) (w : World) : Calls Tryz.prog 187 #[.string s, .pointer t] w fun e w' => e = .returned (.func (.func 204) #[] #[.pointer (some ⟨w.heap.size, 0, none⟩), .pointer (some ⟨w.heap.size + 1, 0, none⟩)]) ∧ (w.alloc (.cells #[.string s] 9)).alloc (.cells #[.pointer t] 285) = w' := by
 go_enter Tryz.func187, Tryz.ntmps187
 go_wp2
 go_ret
 exact ⟨rfl, rfl⟩
theorem zl0 (n : Int) (t : Option Addr) (w : World) : Calls Tryz.prog 186 #[.int .i64 n, .pointer t] w fun e w' => e = .returned (.func (.func 203) #[] #[.pointer (some ⟨w.heap.size, 0, none⟩), .pointer (some ⟨w.heap.size + 1, 0, none⟩)]) ∧ (w.alloc (.cells #[.int .i64 n] 3)).alloc (.cells #[.pointer t] 285) = w' := by
 go_enter Tryz.func186, Tryz.ntmps186
 go_wp2
 go_ret
 exact ⟨rfl, rfl⟩
theorem z7e (s : ByteArray) (t : Option Addr) (w : World) : Calls Tryz.prog 179 #[.string s, .pointer t] w fun e w' => e = .returned (.func (.func 191) #[] #[.pointer (some ⟨w.heap.size, 0, none⟩), .pointer (some ⟨w.heap.size + 1, 0, none⟩)]) ∧ (w.alloc (.cells #[.string s] 9)).alloc (.cells #[.pointer t] 285) = w' := by
 go_enter Tryz.func179, Tryz.ntmps179
 go_wp2
 go_ret
 exact ⟨rfl, rfl⟩
theorem lines_mk (s : ByteArray) (n : Int) (t : Option Addr) (w : World) : Calls Tryz.prog 180 #[.string s, .int .i64 n, .pointer t] w fun e w' => e = .returned (.func (.func 192) #[] #[.pointer (some ⟨w.heap.size + 2, 0, none⟩), .pointer (some ⟨w.heap.size + 1, 0, none⟩), .pointer (some ⟨w.heap.size, 0, none⟩)]) ∧ ((w.alloc (.cells #[.string s] 9)).alloc (.cells #[.int .i64 n] 3)).alloc (.cells #[.pointer t] 287) = w' := by
 go_enter Tryz.func180, Tryz.ntmps180
 go_wp2
 go_ret
 exact ⟨rfl, rfl⟩
end Go.Proofs.YtgjddkeogboojaaGreatDoor
