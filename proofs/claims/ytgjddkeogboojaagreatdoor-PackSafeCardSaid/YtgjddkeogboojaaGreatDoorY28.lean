/-
  RefG
  Tells WEval WHeadP WMergP WMergQ WRSet
  Whole entries of a set's objects are resolved to these.
  Plain: the document's way through a pack's bytes; what stands beside a pack, by its names.
-/
import Derived.Test.YtgjddkeogboojaaGreatDoorY27
import Derived.Test.YtgjddkeogboojaaGreatDoorY21
import Derived.Test.YtgjddkeogboojaaGreatDoorY25
import Derived.Test.YtgjddkeogboojaaGreatDoorY24
set_option maxHeartbeats 16000000
set_option maxRecDepth 100000
namespace Go.Proofs.YtgjddkeogboojaaGreatDoor
open Go Go.RowKit Go.Shelf
section
variable {P : Program} {a : Go.Act} {o : Oper} {W : World}
theorem y_idx {t : TypeId} {s i : Operand} {sv iv r : Value} (ho : o.op = .index t s i) (hs : a.eval s = sv) (hi : a.eval i = iv) (h : (Instr.index t sv iv).run P W = .ok r W) : (execOp a.eval o).run P W = .ok (.value r) W := by
 subst hs hi;simp only [execOp, ho];simp [h, Result.andThen]
end
theorem idx_str (W : World) (s : zB) (k : Nat) (c : UInt8) (hk : k < s.length) (hc : s[k] = c) : (Instr.index 9 (.string ⟨s.toArray⟩) (.int .i64 (k : Int))).run Tryz.prog W = .ok (.int .u8 (c.toNat : Int)) W := by
 have gc : ∀ h, ((⟨s.toArray⟩ : ByteArray)[k]'h) = c := fun h => hc;have h2 : (k : Int) < (s.length : Int) := by omega
 simp [go_sem, h2, gc]
theorem conv_i64 (W : World) (a r : Int) (h : IntKind.i64.wrap a = r) : (convert 5 3 (.int .u8 a)).run Tryz.prog W = .ok (.int .i64 r) W := by
 simp [go_sem, h]
theorem no0_more {r : zB} {j : Nat} (hj : j < r.length) (h : (0 : UInt8) ∉ r.take j) (h0 : r[j] ≠ 0) : (0 : UInt8) ∉ r.take (j + 1) := by
 rw [List.take_succ_eq_append_getElem hj];simp only [List.mem_append, List.mem_singleton, not_or];exact ⟨h, fun e => h0 e.symm⟩
theorem zog {r : zB} (h : (0 : UInt8) ∉ r) : z7m r = none := by
 unfold z7m; rw [zal.2 h]
theorem zhv {r : zB} {j : Nat} (hj : j < r.length) (h : (0 : UInt8) ∉ r.take j) (h0 : r[j] = 0) : z1u 0 r = some (r.take j, r.drop (j + 1)) := by
 have e : r = r.take j ++ 0 :: r.drop (j + 1) := by
  have := (List.take_append_drop (j + 1) r).symm;rw [List.take_succ_eq_append_getElem hj, h0, List.append_assoc] at this;exact this
 have h2 := z5g (r := r.drop (j + 1)) h;rw [← e] at h2; exact h2
theorem zc8 {r : zB} {j : Nat} (hj : j < r.length) (h : (0 : UInt8) ∉ r.take j) (h0 : r[j] = 0) (h1 : 1 < r.length) :
 z7m r = if 2 ≤ j ∧ j + 65 ≤ r.length ∧ r[1] = 32 then some (⟨((r[0]).toNat : Int) - 48, (r.take j).drop 2, (r.drop (j + 1)).take 64⟩, r.drop (j + 65)) else none := by
 unfold z7m;rw [zhv hj h h0];simp only [List.length_take, List.length_drop];by_cases h2 : 2 ≤ j
 · have e1 : (r.take j).getD 1 0 = r[1] := by rw [zg, List.getElem?_take_of_lt (by omega), zj h1]; rfl
   have e0 : (r.take j).getD 0 0 = r[0] := by rw [zg, List.getElem?_take_of_lt (by omega), zj (by omega)]; rfl
   rw [e1, e0, List.drop_drop]
   have hc : (2 ≤ min j r.length ∧ 64 ≤ r.length - (j + 1) ∧ r[1] = 32) ↔ (2 ≤ j ∧ j + 65 ≤ r.length ∧ r[1] = 32) := by
    constructor
    · rintro ⟨a, b, c⟩; exact ⟨h2, by omega, c⟩
    · rintro ⟨a, b, c⟩; exact ⟨by omega, by omega, c⟩
   by_cases hq : 2 ≤ j ∧ j + 65 ≤ r.length ∧ r[1] = 32
   · rw [if_pos hq, if_pos (hc.2 hq)]
   · rw [if_neg hq, if_neg (fun h => hq (hc.1 h))]
 · rw [if_neg (fun h => h2 (by have := h.1; omega)), if_neg (fun h => h2 h.1)]
theorem zoh {r : zB} {j : Nat} (hj : j < r.length) (h : (0 : UInt8) ∉ r.take j) (h0 : r[j] = 0) (h2 : j < 2) : z7m r = none := by
 unfold z7m;rw [zhv hj h h0];show (if _ then _ else _) = _;rw [if_neg (fun h => by have := h.1; rw [List.length_take] at this; omega)]
theorem putV_ret {l : List Itm} : (z0k l = true ∧ zfe l = .tuple #[.string ⟨(putT l).toArray⟩, .bool true]) ∨ (z0k l = false ∧ zfe l = .tuple #[.string ⟨#[]⟩, .bool false]) := by
 cases h : z0k l
 · exact .inr ⟨rfl, zgt h⟩
 · exact .inl ⟨rfl, zd2 h⟩
theorem zei (s : zB) (hs : s.length ≤ 100000) (w : World) : Calls Tryz.prog 47 #[.string ⟨s.toArray⟩] w (GtPost (getT s) w) := by
 have HS := zh hs
 go_enter Tryz.func47, Tryz.ntmps47
 go_wp2_with fail
 go_loopw [0, 4, 6] (fun vs va _e wr => ∃ (r : zB) (out : List Itm), vs = .string ⟨r.toArray⟩ ∧ Hid (Below w.heap.size w wr) ∧ Hid (OwK 126 3 itmC wr w.heap.size va out) ∧ Hid (InvG s out r) ∧ out.length * 67 + r.length ≤ s.length ∧ Hid (Smalls out)) (fun vs _ _ _ => lenV vs)
 case atStart => exact ⟨s, [], rfl, zh (Below.refl _ _), zh (OwK.nil _ _ _ _ _), zh (InvG.start s), by simp, zh fun x hx => by cases hx⟩
 case round =>
  obtain ⟨r, out, rfl, HB, hown, hinv, hlen, hsm⟩ := hrel;obtain ⟨wo, hwo⟩ := zx wr;subst hwo;by_cases hr0 : 0 < r.length
  · have hrne : r ≠ [] := fun e => by rw [e] at hr0; simp at hr0
    have HNone : Hid (z7m r = none → getT s = none) := zh fun h => hinv.out.no hrne h;have HLn : Hid (out.length * 67 + r.length ≤ s.length ∧ s.length ≤ 100000) := zh ⟨hlen, HS.out⟩;have hr1 : r.length ≤ 100000 := by have := HS.out; omega
    clear hlen
    go_wp2_with fail
    go_loop [6] (fun ve => ∃ j : Nat, j ≤ r.length ∧ ve = .int .i64 j ∧ Hid ((0 : UInt8) ∉ r.take j)) (fun ve => r.length - (intOf ve).toNat)
    case atStart => exact ⟨0, Nat.zero_le _, rfl, zh (by simp)⟩
    case round =>
     obtain ⟨j, hj, rfl, hno⟩ := hrel;by_cases hjl : j < r.length
     · obtain ⟨c, hc⟩ := zx (r[j]);have gc : ∀ h, ((⟨r.toArray⟩ : ByteArray)[j]'h) = c := fun h => hc.symm;by_cases h0 : c = 0
       case neg =>
        have b3 : ((c.toNat : Int) != 0) = true := by have := zae (d := 0) h0; simpa using this
        have b4 : ((c.toNat : Int) == 0) = false := by have := zae (d := 0) h0; simpa using this
        have HN := zh (no0_more hjl hno.out (by rw [← hc]; exact h0));clear hc h0 hno
        go_wp2_with fail
        go_round
        case rel => exact ⟨j + 1, by omega, by go_num, HN⟩
        case measure => simp [intOf]; omega
       have Hz : Hid (r[j] = 0) := zh (by rw [← hc]; exact h0);subst h0;clear hc;by_cases hj2 : j < 2
       · have HF : Hid (getT s = none) := zh (HNone.out (zoh hjl hno.out Hz.out hj2))
         go_wp2_with fail
         go_ret2
         rw [HF.out];exact ⟨⟨_, [], rfl, .inl ⟨⟨_, _, rfl⟩, rfl⟩, rfl⟩, HB.out⟩
       by_cases hj65 : r.length < j + 65
       · have HF : Hid (getT s = none) := zh (HNone.out (by rw [zc8 hjl hno.out Hz.out (by omega), if_neg (fun h => by have := h.2.1; omega)]))
         go_wp2_with fail
         go_ret2
         rw [HF.out];exact ⟨⟨_, [], rfl, .inl ⟨⟨_, _, rfl⟩, rfl⟩, rfl⟩, HB.out⟩
       obtain ⟨c1, hc1⟩ := zx (r[1]);have gc1 : ∀ h, ((⟨r.toArray⟩ : ByteArray)[1]'h) = c1 := fun h => hc1.symm;by_cases h32 : c1 = 32
       case neg =>
        have b3 : ((c1.toNat : Int) != 32) = true := by have := zae (d := 32) h32; simpa using this
        have b4 : ((c1.toNat : Int) == 32) = false := by have := zae (d := 32) h32; simpa using this
        have HF : Hid (getT s = none) := zh (HNone.out (by rw [zc8 hjl hno.out Hz.out (by omega), if_neg (fun h => h32 (by rw [hc1]; exact h.2.2))]));clear hc1 h32
        go_wp2_with fail
        go_ret2
        rw [HF.out];exact ⟨⟨_, [], rfl, .inl ⟨⟨_, _, rfl⟩, rfl⟩, rfl⟩, HB.out⟩
       have HStep := zh (zc8 hjl hno.out Hz.out (by omega));obtain ⟨c0, hc0⟩ := zx (r[0]);have g0 : r[0] = c0 := hc0.symm;obtain ⟨nm, hnm⟩ := zx ((r.take j).drop 2);obtain ⟨di, hdi⟩ := zx ((r.drop (j + 1)).take 64);obtain ⟨q, hq⟩ := zx (r.drop (j + 65));have HStep2 : Hid (z7m r = some (⟨(c0.toNat : Int) - 48, nm, di⟩, q)) := zh (by rw [HStep.out, if_pos ⟨by omega, by omega, by rw [← hc1]; exact h32⟩, ← hc0, ← hnm, ← hdi, ← hq]);have x1 : (⟨r.toArray⟩ : ByteArray).extract 2 j = ⟨nm.toArray⟩ := by rw [extract_S, hnm]
       have x2 : (⟨r.toArray⟩ : ByteArray).extract (j + 1) (j + 65) = ⟨di.toArray⟩ := by
        rw [extract_S, hdi, List.take_drop]
       have x3 : (⟨r.toArray⟩ : ByteArray).extract (j + 65) r.length = ⟨q.toArray⟩ := by rw [extract_S, List.take_length, hq]
       have hql : q.length + (j + 65) = r.length := by rw [hq, List.length_drop]; omega
       have HQ := zh hql;have HNm : Hid (nm.length ≤ 1000000 ∧ di.length ≤ 1000000) := zh (by rw [hnm, hdi]; simp only [List.length_drop, List.length_take]; omega);have i1 : IntKind.i64.wrap (c0.toNat : Int) = (c0.toNat : Int) := IntWalk.i64_in _ (by have := c0.toNat_lt; omega);have i2 : IntKind.i64.wrap ((c0.toNat : Int) - 48) = (c0.toNat : Int) - 48 := IntWalk.i64_in _ (by have := c0.toNat_lt; omega);have i3 : IntKind.i64.wrap ((j : Int) + 1) = ((j + 1 : Nat) : Int) := by rw [IntWalk.i64_in _ (by omega)]; omega
       have i4 : IntKind.i64.wrap ((j : Int) + 65) = ((j + 65 : Nat) : Int) := by rw [IntWalk.i64_in _ (by omega)]; omega
       subst h32;clear hc1 hnm hdi hq hql hno HStep;have G0 := zh g0;clear g0 hc0
       go_wp2_with fail
       refine AnyK.start w.heap.size w (by kernel_rfl) ?_;have LD := zh (bdrew HB.out);have hod : OwK 126 3 itmC wo.drew w.heap.size u4 out := hown.out;generalize wo.drew = wd at LD hod ⊢;refine AnyK.tm 0 (u4) (LD.out) rfl ?_;refine AnyK.tm 1 (.string ⟨r.toArray⟩) (LD.out) rfl ?_;refine AnyK.tk 2 (.int .u8 (c0.toNat : Int)) (LD.out) rfl (fun W hW => y_idx (sv := .string ⟨r.toArray⟩) (iv := .int .i64 ((0 : Nat) : Int)) rfl (by kernel_rfl) (by kernel_rfl) (idx_str W r 0 c0 (by omega) G0.out)) ?_;refine AnyK.tk 3 (.int .i64 (c0.toNat : Int)) (LD.out) rfl (fun W hW => y_conv (x := .int .u8 (c0.toNat : Int)) rfl (by kernel_rfl) (conv_i64 W _ _ i1)) ?_;refine AnyK.tk 4 (.int .i64 ((c0.toNat : Int) - 48)) (LD.out) rfl (fun W hW => y_bin rfl (by kernel_rfl) (by kernel_rfl) rfl (z9l W _ _ _ i2)) ?_;refine AnyK.tm 5 (.string ⟨r.toArray⟩) (LD.out) rfl ?_;refine AnyK.tm 6 (.int .i64 (j : Int)) (LD.out) rfl ?_;refine AnyK.tk 7 (.string ⟨nm.toArray⟩) (LD.out) rfl (fun W hW => y_slice (xv := .string ⟨r.toArray⟩) (lv := some (.int .i64 ((2 : Nat) : Int))) (hv := some (.int .i64 (j : Int))) (mv := none) rfl (by kernel_rfl) (by kernel_rfl) (by kernel_rfl) rfl (cut_two W r nm 2 j (by omega) (by omega) x1)) ?_;refine AnyK.tm 8 (.string ⟨r.toArray⟩) (LD.out) rfl ?_;refine AnyK.tm 9 (.int .i64 (j : Int)) (LD.out) rfl ?_;refine AnyK.tk 10 (.int .i64 ((j + 1 : Nat) : Int)) (LD.out) rfl (fun W hW => y_bin rfl (by kernel_rfl) (by kernel_rfl) rfl (z9w W _ _ _ i3)) ?_;refine AnyK.tm 11 (.int .i64 (j : Int)) (LD.out) rfl ?_;refine AnyK.tk 12 (.int .i64 ((j + 65 : Nat) : Int)) (LD.out) rfl (fun W hW => y_bin rfl (by kernel_rfl) (by kernel_rfl) rfl (z9w W _ _ _ i4)) ?_;refine AnyK.tk 13 (.string ⟨di.toArray⟩) (LD.out) rfl (fun W hW => y_slice (xv := .string ⟨r.toArray⟩) (lv := some (.int .i64 ((j + 1 : Nat) : Int))) (hv := some (.int .i64 ((j + 65 : Nat) : Int))) (mv := none) rfl (by kernel_rfl) (by kernel_rfl) (by kernel_rfl) rfl (cut_two W r di (j + 1) (j + 65) (by omega) (by omega) x2)) ?_;refine AnyK.tm 14 (.agg #[.int .i64 ((c0.toNat : Int) - 48), .string ⟨nm.toArray⟩, .string ⟨di.toArray⟩]) (LD.out) rfl ?_;refine AnyK.op 15 (.slice (some ⟨wd.heap.size, 0, none⟩) 1 1) (wd.alloc (.cells #[.int .i64 ((c0.toNat : Int) - 48), .string ⟨nm.toArray⟩, .string ⟨di.toArray⟩] 126)) (by kernel_rfl) rfl (by kernel_rfl) (znn rfl (by kernel_rfl) (build1 wd ((c0.toNat : Int) - 48) nm di)) (LD.out.trans ((below_new wd _).mono LD.out.size)) ?_;obtain ⟨v2, w2, a1, a2, a3⟩ := zfb itmK hod (by have := HLn.out; omega) (by decide) LD.out.size (⟨(c0.toNat : Int) - 48, nm, di⟩ : Itm) #[.int .i64 ((c0.toNat : Int) - 48), .string ⟨nm.toArray⟩, .string ⟨di.toArray⟩] rfl 91;refine AnyK.op 16 v2 w2 (by kernel_rfl) rfl (by kernel_rfl) (z8e rfl (by kernel_rfl) (by kernel_rfl) a1) (LD.out.trans a3) ?_;have LE := zh (LD.out.trans a3);have HO2 := zh a2;clear a1 a2 a3 hod;refine AnyK.tm 17 (v2) (LE.out) rfl ?_;refine AnyK.done _ (by kernel_rfl) ?_;go_simp;have x4 : ((j + 65 : Nat) : Int) ≤ (r.length : Int) := by omega
       have HI2 := zh (hinv.out.step hrne HStep2.out)
       have HSm2 : Hid (Smalls (out ++ [⟨(c0.toNat : Int) - 48, nm, di⟩])) := zh fun x hx => by
        rcases List.mem_append.1 hx with h | h
        · exact hsm.out x h
        · rw [List.mem_singleton.1 h]; exact HNm.out
       clear i1 i2 i3 i4 x1 x2
       go_wp2_with fail
       go_roundw
       case rel => exact ⟨q, out ++ [⟨(c0.toNat : Int) - 48, nm, di⟩], congrArg Value.string x3, LE, HO2, HI2, by have := HLn.out.1; have := HQ.out; rw [List.length_append]; simp; omega, HSm2⟩
       case measure => have := HQ.out; rw [x3]; exact (show q.length < r.length by omega)
     · obtain rfl : j = r.length := by omega
       have hno2 : (0 : UInt8) ∉ r := by have := hno.out; rwa [List.take_length] at this
       have HF : Hid (getT s = none) := zh (HNone.out (zog hno2));clear hno hno2;by_cases hj2 : r.length < 2
       · go_wp2_with fail
         go_ret2
         rw [HF.out];exact ⟨⟨_, [], rfl, .inl ⟨⟨_, _, rfl⟩, rfl⟩, rfl⟩, HB.out⟩
       · have hz65 : (r.length : Int) < (r.length : Int) + 65 := by omega
         go_wp2_with fail
         go_ret2
         rw [HF.out];exact ⟨⟨_, [], rfl, .inl ⟨⟨_, _, rfl⟩, rfl⟩, rfl⟩, HB.out⟩
  · obtain rfl : r = [] := List.length_eq_zero_iff.1 (by omega);have hl1 : out.length ≤ 1000000 := by have := HS.out; simp at hlen; omega
    have hrd : ItmsR wo u4 out := hown.out.rd zbl;have hput := zeh out u4 wo hrd hsm.out hl1;obtain ⟨A, ca, rfl⟩ := hrd.shape;have HRd := zh hrd;rcases @putV_ret out with ⟨hrt, hpv⟩ | ⟨hrt, hpv⟩
    · rw [hpv] at hput;have HP := zh hput
      have h9 : (putT out).length ≤ 1000000 := by
       have h1 := zbt (z2p hrt);have h2 := (z0w.1 hrt).1;omega
      by_cases he : putT out = s
      · have HG : Hid (getT s = some out) := zh (zbj.2 ⟨hrt, he⟩);rw [he] at HP;clear hput hrt hpv he hrd h9
        go_wp2_with fail
        refine HP.out.mono ?_;rintro e w1 ⟨rfl, l1⟩;have L1 := zh (HB.out.trans (l1.mono HB.out.size));have HR1 := zh (HRd.out.below l1 zl);clear l1
        go_wp2_with fail
        go_ret2
        rw [HG.out];exact ⟨⟨_, out, rfl, HR1.out, rfl⟩, L1.out⟩
      · have HF : Hid (getT s = none) := zh (hinv.out.stop (fun h => he h.2));have b3 : (putT out == s) = false := by simpa using he
        have b4 : (putT out != s) = true := by simpa using he
        generalize putT out = pt at HP b3 b4 h9;clear hput hrt hpv he hrd
        go_wp2_with fail
        refine HP.out.mono ?_;rintro e w1 ⟨rfl, l1⟩;have L1 := zh (HB.out.trans (l1.mono HB.out.size));clear l1
        go_wp2_with fail
        go_ret2
        rw [HF.out];exact ⟨⟨_, [], rfl, .inl ⟨⟨_, _, rfl⟩, rfl⟩, rfl⟩, L1.out⟩
    · rw [hpv] at hput;have HP := zh hput;have HF : Hid (getT s = none) := zh (hinv.out.stop (fun h => by rw [hrt] at h; cases h.1));clear hput hrt hpv hrd
      go_wp2_with fail
      refine HP.out.mono ?_;rintro e w1 ⟨rfl, l1⟩;have L1 := zh (HB.out.trans (l1.mono HB.out.size));clear l1
      go_wp2_with fail
      go_ret2
      rw [HF.out];exact ⟨⟨_, [], rfl, .inl ⟨⟨_, _, rfl⟩, rfl⟩, rfl⟩, L1.out⟩
structure GcW (w : World) (t : zB) (vp : Value) (wh tx : zB) (W : World) : Prop where
 below : Below w.heap.size w W
 res : W.heap[w.heap.size]? = some (.cells #[.string ⟨#[]⟩, .slice none 0 0, .string ⟨#[]⟩, .string ⟨#[]⟩] 96 (0, 0))
 blk : W.heap[w.heap.size + 1]? = some (.cells #[.string ⟨t.toArray⟩, vp, .string ⟨wh.toArray⟩, .string ⟨tx.toArray⟩] 96 (0, 0))
section
variable {w W W' : World} {t wh tx : zB} {vp : Value}
theorem GcW.far (h : GcW w t vp wh tx W) {b : Nat} (hb : Below b W W') (hlt : w.heap.size + 2 ≤ b) : GcW w t vp wh tx W' :=
 ⟨h.below.trans (hb.mono (by omega)), (hb.block _ (by omega)).trans h.res, (hb.block _ (by omega)).trans h.blk⟩
theorem GcW.size (h : GcW w t vp wh tx W) : w.heap.size + 2 ≤ W.heap.size := lt_heap h.blk
theorem GcW.next (h : GcW w t vp wh tx W) (hb : Below W.heap.size W W') : GcW w t vp wh tx W' := h.far hb h.size
theorem GcW.set0 (h : GcW w t vp wh tx W) (x : zB) : GcW w x vp wh tx (W.setCell ⟨w.heap.size + 1, 0, none⟩ (.string ⟨x.toArray⟩)) :=
 ⟨h.below.setCell (Nat.le_add_right _ 1) _, (Below.heap_setCell _ _ _ _ (fun e => by simp at e)).trans h.res, by simp [World.setCell, Array.getElem?_modify, h.blk]⟩
theorem GcW.set1 (h : GcW w t vp wh tx W) (x : Value) : GcW w t x wh tx (W.setCell ⟨w.heap.size + 1, 1, none⟩ x) :=
 ⟨h.below.setCell (Nat.le_add_right _ 1) _, (Below.heap_setCell _ _ _ _ (fun e => by simp at e)).trans h.res, by simp [World.setCell, Array.getElem?_modify, h.blk]⟩
theorem GcW.set2 (h : GcW w t vp wh tx W) (x : zB) : GcW w t vp x tx (W.setCell ⟨w.heap.size + 1, 2, none⟩ (.string ⟨x.toArray⟩)) :=
 ⟨h.below.setCell (Nat.le_add_right _ 1) _, (Below.heap_setCell _ _ _ _ (fun e => by simp at e)).trans h.res, by simp [World.setCell, Array.getElem?_modify, h.blk]⟩
theorem GcW.set3 (h : GcW w t vp wh tx W) (x : zB) : GcW w t vp wh x (W.setCell ⟨w.heap.size + 1, 3, none⟩ (.string ⟨x.toArray⟩)) :=
 ⟨h.below.setCell (Nat.le_add_right _ 1) _, (Below.heap_setCell _ _ _ _ (fun e => by simp at e)).trans h.res, by simp [World.setCell, Array.getElem?_modify, h.blk]⟩
theorem GcW.resF (h : GcW w t vp wh tx W) : (W.cell? ⟨w.heap.size, 0, none⟩ = some (.string ⟨#[]⟩) ∧ W.cell? ⟨w.heap.size, 1, none⟩ = some (.slice none 0 0) ∧ W.cell? ⟨w.heap.size, 2, none⟩ = some (.string ⟨#[]⟩) ∧ W.cell? ⟨w.heap.size, 3, none⟩ = some (.string ⟨#[]⟩)) ∧
 W.frozen? ⟨w.heap.size, 0, none⟩ = false ∧ W.frozen? ⟨w.heap.size, 1, none⟩ = false ∧ W.frozen? ⟨w.heap.size, 2, none⟩ = false ∧ W.frozen? ⟨w.heap.size, 3, none⟩ = false :=
 ⟨⟨z03 h.res rfl, z03 h.res rfl, z03 h.res rfl, z03 h.res rfl⟩, z04 h.res, z04 h.res, z04 h.res, z04 h.res⟩
theorem GcW.blkF (h : GcW w t vp wh tx W) : (W.cell? ⟨w.heap.size + 1, 0, none⟩ = some (.string ⟨t.toArray⟩) ∧ W.cell? ⟨w.heap.size + 1, 1, none⟩ = some vp ∧ W.cell? ⟨w.heap.size + 1, 2, none⟩ = some (.string ⟨wh.toArray⟩) ∧ W.cell? ⟨w.heap.size + 1, 3, none⟩ = some (.string ⟨tx.toArray⟩)) ∧
 W.frozen? ⟨w.heap.size + 1, 0, none⟩ = false ∧ W.frozen? ⟨w.heap.size + 1, 1, none⟩ = false ∧ W.frozen? ⟨w.heap.size + 1, 2, none⟩ = false ∧ W.frozen? ⟨w.heap.size + 1, 3, none⟩ = false :=
 ⟨⟨z03 h.blk rfl, z03 h.blk rfl, z03 h.blk rfl, z03 h.blk rfl⟩, z04 h.blk, z04 h.blk, z04 h.blk, z04 h.blk⟩
end
theorem GcW.start (w : World) : GcW w [] (.slice none 0 0) [] [] ((w.alloc (.cells #[.string ⟨#[]⟩, .slice none 0 0, .string ⟨#[]⟩, .string ⟨#[]⟩] 96)).alloc (.cells #[.string ⟨#[]⟩, .slice none 0 0, .string ⟨#[]⟩, .string ⟨#[]⟩] 96)) := by
 have B0 := below_new w (.cells #[.string ⟨#[]⟩, .slice none 0 0, .string ⟨#[]⟩, .string ⟨#[]⟩] 96);refine ⟨B0.alloc B0.size _, ?_, ?_⟩
 · exact (Below.heap_alloc _ _ _ (by simp)).trans (heap_alloc_new _ _)
 · have h := heap_alloc_new (w.alloc (.cells #[.string ⟨#[]⟩, .slice none 0 0, .string ⟨#[]⟩, .string ⟨#[]⟩] 96)) (.cells #[.string ⟨#[]⟩, .slice none 0 0, .string ⟨#[]⟩, .string ⟨#[]⟩] 96);simpa using h
theorem zag (s : zB) (hs : s.length ≤ 100000) (w : World) : Calls Tryz.prog 48 #[.string ⟨s.toArray⟩] w (GcPost (getC s) w) := by
 have HS := zh hs;obtain ⟨w0, hw0⟩ := zx ((w.alloc (.cells #[.string ⟨#[]⟩, .slice none 0 0, .string ⟨#[]⟩, .string ⟨#[]⟩] 96)).alloc (.cells #[.string ⟨#[]⟩, .slice none 0 0, .string ⟨#[]⟩, .string ⟨#[]⟩] 96));have G0 : Hid (GcW w [] (.slice none 0 0) [] [] w0) := zh (by rw [hw0]; exact GcW.start w);have HW0 := zh hw0;have hlt := fun W => z45 s [116, 114, 101, 101] (by omega) (by decide) W;have hlp : ∀ q : zB, q.length ≤ 100000 → ∀ W, Calls Tryz.prog 64 #[.string ⟨q.toArray⟩, .string ⟨#[112, 97, 114, 101, 110, 116]⟩] W (z06 (z43 (z0e wParent q)) W) := fun q hq W => z45 q [112, 97, 114, 101, 110, 116] (by omega) (by decide) W;have hlw : ∀ q : zB, q.length ≤ 100000 → ∀ W, Calls Tryz.prog 64 #[.string ⟨q.toArray⟩, .string ⟨#[119, 104, 111]⟩] W (z06 (z43 (z0e wWho q)) W) := fun q hq W => z45 q [119, 104, 111] (by omega) (by decide) W;have HLp := zh hlp; have HLw := zh hlw;rw [show ([116, 114, 101, 101] : zB) ++ [32] = wTree from rfl] at hlt;clear hw0 hlp hlw hs;cases hl : z0e wTree s with
 | none =>
   rw [hl] at hlt;unfold z43 at hlt;have HLt := zh hlt;have HNone : Hid (getC s = none) := zh (InvC.no hl);have hlw0 := fun W => HLw.out [] (by simp) W;rw [z9u (by decide)] at hlw0;unfold z43 at hlw0;have HLw0 := zh hlw0;clear hl hlt hlw0
   go_enter Tryz.func48, Tryz.ntmps48
   go_wp2_with (rw [← HW0.out])
   refine (HLt.out _).mono ?_;rintro e w1 ⟨rfl, l1⟩;have G1 := zh (G0.out.next l1);obtain ⟨W1, hW1⟩ := zx (w1.setCell ⟨w.heap.size + 1, 0, none⟩ (.string ⟨#[]⟩));have G2 : Hid (GcW w [] (.slice none 0 0) [] [] W1) := zh (by rw [hW1]; exact G1.out.set0 []);have HW1 := zh hW1;obtain ⟨⟨x0, x1, x2, x3⟩, k0, k1, k2, k3⟩ := G1.out.blkF;clear l1 hW1 x1 x2 x3 k1 k2 k3
   go_wp2_with (rw [← HW1.out])
   clear x0 k0;refine wp_loop_rounds 1 ?_;rw [rounds_succ]
   go_wp2_with fail
   refine (HLw0.out _).mono ?_;rintro e w2 ⟨rfl, l2⟩;have G3 := zh (G2.out.next l2);obtain ⟨W2, hW2⟩ := zx (w2.setCell ⟨w.heap.size + 1, 2, none⟩ (.string ⟨#[]⟩));have G4 : Hid (GcW w [] (.slice none 0 0) [] [] W2) := zh (by rw [hW2]; exact G3.out.set2 []);have HW2 := zh hW2;obtain ⟨⟨x0, x1, x2, x3⟩, k0, k1, k2, k3⟩ := G3.out.blkF;clear l2 hW2 x1 x0 x3 k1 k0 k3;have HF : Hid (getC s = none) := zh (HNone.out);obtain ⟨⟨y0, y1, y2, y3⟩, z0, z1, z2, z3⟩ := G4.out.resF;obtain ⟨f0, f1, f2, f3⟩ := cells4 W2 w.heap.size (.string ⟨#[]⟩) (.slice none 0 0) (.string ⟨#[]⟩) (.string ⟨#[]⟩) y0 y1 y2 y3
   go_wp2_with (rw [← HW2.out])
   refine bodyPost_ret (v := .tuple #[ChgV z3g (.slice none 0 0), .bool false]) (by simp [results, Tryz.results48, go_sem, f0, f1, f2, f3, ChgV, z3g]) rfl ?_;exact ⟨z0i G4.out.below zl _ _ _ _, z3g, .slice none 0 0, .inl ⟨⟨_, _, rfl⟩, rfl⟩, by rw [HF.out]; rfl, by rw [HF.out]; rfl⟩
 | some p0 =>
   obtain ⟨t, r⟩ := p0;rw [hl] at hlt;unfold z43 at hlt;have HLt := zh hlt;have HI0 := zh (InvC.start hl);have hln := z2k hl;have HT : Hid (t.length ≤ 100000) := zh (by have := HS.out; omega);have HRl : Hid (r.length ≤ s.length) := zh (by omega);clear hl hlt hln
   go_enter Tryz.func48, Tryz.ntmps48
   go_wp2_with (rw [← HW0.out])
   refine (HLt.out _).mono ?_;rintro e w1 ⟨rfl, l1⟩;have G1 := zh (G0.out.next l1);obtain ⟨W1, hW1⟩ := zx (w1.setCell ⟨w.heap.size + 1, 0, none⟩ (.string ⟨t.toArray⟩));have G2 : Hid (GcW w t (.slice none 0 0) [] [] W1) := zh (by rw [hW1]; exact G1.out.set0 t);have HW1 := zh hW1;obtain ⟨⟨x0, x1, x2, x3⟩, k0, k1, k2, k3⟩ := G1.out.blkF;clear l1 hW1 x1 x2 x3 k1 k2 k3
   go_wp2_with (rw [← HW1.out])
   clear x0 k0
   go_loopw [6, 8, 9, 10] (fun vr _a _b _c wr => ∃ (q : zB) (ps : List (zB)) (vp : Value), vr = .string ⟨q.toArray⟩ ∧ Hid (GcW w t vp [] [] wr) ∧ Hid (OwK 9 1 strC wr (w.heap.size + 2) vp ps) ∧ Hid (InvC s t ps q) ∧ ps.length * 8 + q.length ≤ s.length ∧ Hid (zd1 ps)) (fun vr _ _ _ _ => lenV vr)
   case atStart => exact ⟨r, [], _, rfl, G2, zh (OwK.nil _ _ _ _ _), HI0, by have := HRl.out; simp; omega, zh fun x hx => by cases hx⟩
   case round =>
    obtain ⟨q, ps, vp, rfl, G, hown, hinv, hlen, hsm⟩ := hrel;have hq : q.length ≤ 100000 := by have := HS.out; omega
    have hlq := fun W => HLp.out q hq W;obtain ⟨A, ca, rfl⟩ := (hown.out.rd z19).shape;cases hl : z0e wParent q with
    | some pq =>
      obtain ⟨p, q'⟩ := pq;rw [hl] at hlq;unfold z43 at hlq;have HLq := zh hlq;have hln := z2k hl;have HLn : Hid (p.length + q'.length + 8 = q.length) := zh (by have : wParent.length = 7 := rfl; omega);have HI2 := zh (hinv.out.step hl)
      have HSm2 : Hid (zd1 (ps ++ [p])) := zh fun x hx => by
       rcases List.mem_append.1 hx with h | h
       · exact hsm.out x h
       · rw [List.mem_singleton.1 h]; omega
      have HPs : Hid (ps.length ≤ 100000) := zh (by have := HS.out; omega);have HLen : Hid (ps.length * 8 + q.length ≤ s.length) := zh hlen;clear hl hlq hln hlen
      go_wp2_with fail
      refine (HLq.out _).mono ?_;rintro e w2 ⟨rfl, l2⟩;have G3 := zh (G.out.next l2);have HO3 := zh (hown.out.below l2 zl);obtain ⟨⟨x0, x1, x2, x3⟩, k0, k1, k2, k3⟩ := G3.out.blkF;clear l2 x0 x2 x3 k0 k1 k2 k3
      go_wp2_with (at_builtin; refine z0z strK rfl _ _ rfl (w.heap.size + 2) (.slice A ps.length ca) ps p _ rfl rfl rfl HO3.out ?c1 (by decide) ?c2 ?_)
      case c1 => have := HPs.out; omega
      case c2 => exact G3.out.size
      intro v3 w3 ho3 hb3;obtain ⟨A3, c3, rfl⟩ := (ho3.rd z19).shape;have e1 : (ps ++ [p]).length = ps.length + 1 := by simp
      rw [e1] at ho3 ⊢;have G4 := zh (G3.out.far hb3 zl);have HO4 := zh ho3;obtain ⟨W5, hW5⟩ := zx (w3.setCell ⟨w.heap.size + 1, 1, none⟩ (.slice A3 (ps.length + 1) c3));have G5 : Hid (GcW w t (.slice A3 (ps.length + 1) c3) [] [] W5) := zh (by rw [hW5]; exact G4.out.set1 _);have HO5 : Hid (OwK 9 1 strC W5 (w.heap.size + 2) (.slice A3 (ps.length + 1) c3) (ps ++ [p])) := zh (by rw [hW5]; exact z2i HO4.out (by omega) 1 _);have HW5 := zh hW5;obtain ⟨⟨x0, y1, x2, x3⟩, k0, k1, k2, k3⟩ := G4.out.blkF;clear ho3 hb3 hW5 x0 x1 x2 x3 k0 k2 k3
      go_wp2_with (rw [← HW5.out])
      go_roundw
      case rel => exact ⟨q', ps ++ [p], .slice A3 (ps.length + 1) c3, rfl, G5, HO5, HI2, by have := HLen.out; have := HLn.out; rw [List.length_append]; simp; omega, HSm2⟩
      case measure => have := HLn.out; exact (show q'.length < q.length by omega)
    | none =>
      rw [hl] at hlq;unfold z43 at hlq;have HLq := zh hlq;have HNo := zh hl;have HLen : Hid (ps.length * 8 + q.length ≤ s.length) := zh hlen;have hlw := fun W => HLw.out q hq W;cases hl2 : z0e wWho q with
      | none =>
        rw [hl2] at hlw;unfold z43 at hlw;have HLw2 := zh hlw;have HF0 : Hid (getC s = none) := zh (hinv.out.no_who hl hl2);clear hl hl2 hlq hlw hlen
        go_wp2_with fail
        refine (HLq.out _).mono ?_;rintro e w2 ⟨rfl, l2⟩;have G3 := zh (G.out.next l2);clear l2
        go_wp2_with fail
        refine (HLw2.out _).mono ?_;rintro e w3 ⟨rfl, l3⟩;have G4 := zh (G3.out.next l3);obtain ⟨W5, hW5⟩ := zx (w3.setCell ⟨w.heap.size + 1, 2, none⟩ (.string ⟨#[]⟩));have G5 : Hid (GcW w t (.slice A ps.length ca) [] [] W5) := zh (by rw [hW5]; exact G4.out.set2 []);have HW5 := zh hW5;obtain ⟨⟨x0, x1, x2, x3⟩, k0, k1, k2, k3⟩ := G4.out.blkF;clear l3 hW5 x0 x1 x3 k0 k1 k3;have HF : Hid (getC s = none) := zh (HF0.out);obtain ⟨⟨y0, y1, y2, y3⟩, z0, z1, z2, z3⟩ := G5.out.resF;obtain ⟨f0, f1, f2, f3⟩ := cells4 W5 w.heap.size (.string ⟨#[]⟩) (.slice none 0 0) (.string ⟨#[]⟩) (.string ⟨#[]⟩) y0 y1 y2 y3
        go_wp2_with (rw [← HW5.out])
        refine bodyPost_ret (v := .tuple #[ChgV z3g (.slice none 0 0), .bool false]) (by simp [results, Tryz.results48, go_sem, f0, f1, f2, f3, ChgV, z3g]) rfl ?_;exact ⟨z0i G5.out.below zl _ _ _ _, z3g, .slice none 0 0, .inl ⟨⟨_, _, rfl⟩, rfl⟩, by rw [HF.out]; rfl, by rw [HF.out]; rfl⟩
      | some wq =>
        obtain ⟨wh, q2⟩ := wq;rw [hl2] at hlw;unfold z43 at hlw;have HLw2 := zh hlw;have hln := z2k hl2;have HEnd : Hid (z79 q2 = none → getC s = none) := zh fun h => hinv.out.no_end hl hl2 h;have HStop : Hid (∀ x, q2 = 10 :: x → ¬ (z18 ⟨t, ps, wh, x⟩ = true ∧ putC ⟨t, ps, wh, x⟩ = s) → getC s = none) := zh fun x hx hno => hinv.out.stop hl (by rw [hl2, hx]) hno;have HWl : Hid (wh.length ≤ 100000 ∧ q2.length ≤ 100000) := zh ⟨by omega, by omega⟩;have HPs : Hid (ps.length ≤ 100000) := zh (by have := HS.out; omega);clear hl hl2 hlq hlw hlen hln;have key : ∀ w3, GcW w t (.slice A ps.length ca) [] [] w3 → ∃ W5, W5 = w3.setCell ⟨w.heap.size + 1, 2, none⟩ (.string ⟨wh.toArray⟩) ∧ GcW w t (.slice A ps.length ca) wh [] W5 := fun w3 h => ⟨_, rfl, h.set2 wh⟩
        have KEY := zh key;clear key
        go_wp2_with fail
        refine (HLq.out _).mono ?_;rintro e w2 ⟨rfl, l2⟩;have G3 := zh (G.out.next l2);have HO3 := zh (hown.out.below l2 zl);clear l2
        go_wp2_with fail
        refine (HLw2.out _).mono ?_;rintro e w3 ⟨rfl, l3⟩;have G4 := zh (G3.out.next l3);have HO4 := zh (HO3.out.below l3 zl);obtain ⟨W5, hW5, g5⟩ := KEY.out w3 G4.out;have G5 := zh g5;have HO5 : Hid (OwK 9 1 strC W5 (w.heap.size + 2) (.slice A ps.length ca) ps) := zh (by rw [hW5]; exact z2i HO4.out (by omega) 2 _);have HW5 := zh hW5;obtain ⟨⟨x0, x1, x2, x3⟩, k0, k1, k2, k3⟩ := G4.out.blkF;clear l3 hW5 x0 x1 x3 k0 k1 k3 g5;cases q2 with
        | nil =>
          have HF : Hid (getC s = none) := zh (HEnd.out rfl);obtain ⟨⟨y0, y1, y2, y3⟩, z0, z1, z2, z3⟩ := G5.out.resF;obtain ⟨f0, f1, f2, f3⟩ := cells4 W5 w.heap.size (.string ⟨#[]⟩) (.slice none 0 0) (.string ⟨#[]⟩) (.string ⟨#[]⟩) y0 y1 y2 y3
          go_wp2_with (rw [← HW5.out])
          refine bodyPost_ret (v := .tuple #[ChgV z3g (.slice none 0 0), .bool false]) (by simp [results, Tryz.results48, go_sem, f0, f1, f2, f3, ChgV, z3g]) rfl ?_;exact ⟨z0i G5.out.below zl _ _ _ _, z3g, .slice none 0 0, .inl ⟨⟨_, _, rfl⟩, rfl⟩, by rw [HF.out]; rfl, by rw [HF.out]; rfl⟩
        | cons c x =>
          have gc : ∀ h, ((⟨(c :: x).toArray⟩ : ByteArray)[0]'h) = c := fun h => rfl;have hlx : (⟨(c :: x).toArray⟩ : ByteArray).size = x.length + 1 := rfl;by_cases h10 : c = 10
          case neg =>
           have b3 : ((c.toNat : Int) != 10) = true := by have := zae (d := 10) h10; simpa using this
           have b4 : ((c.toNat : Int) == 10) = false := by have := zae (d := 10) h10; simpa using this
           have HF : Hid (getC s = none) := zh (HEnd.out (by rw [z79, if_neg h10]));obtain ⟨⟨y0, y1, y2, y3⟩, z0, z1, z2, z3⟩ := G5.out.resF;obtain ⟨f0, f1, f2, f3⟩ := cells4 W5 w.heap.size (.string ⟨#[]⟩) (.slice none 0 0) (.string ⟨#[]⟩) (.string ⟨#[]⟩) y0 y1 y2 y3;clear h10
           go_wp2_with (rw [← HW5.out])
           refine bodyPost_ret (v := .tuple #[ChgV z3g (.slice none 0 0), .bool false]) (by simp [results, Tryz.results48, go_sem, f0, f1, f2, f3, ChgV, z3g]) rfl ?_;exact ⟨z0i G5.out.below zl _ _ _ _, z3g, .slice none 0 0, .inl ⟨⟨_, _, rfl⟩, rfl⟩, by rw [HF.out]; rfl, by rw [HF.out]; rfl⟩
          subst h10
          have hx1 : (⟨((10 : UInt8) :: x).toArray⟩ : ByteArray).extract 1 (x.length + 1) = ⟨x.toArray⟩ := by
           have h := extract_S (10 :: x) 1 (x.length + 1);rw [List.take_of_length_le (by simp)] at h;exact h
          have hxl : x.length ≤ 100000 := by have := HWl.out.2; simp at this; omega
          obtain ⟨W6, hW6⟩ := zx (W5.setCell ⟨w.heap.size + 1, 3, none⟩ (.string ⟨x.toArray⟩));have G6 : Hid (GcW w t (.slice A ps.length ca) wh x W6) := zh (by rw [hW6]; exact G5.out.set3 x);have HO6 : Hid (OwK 9 1 strC W6 (w.heap.size + 2) (.slice A ps.length ca) ps) := zh (by rw [hW6]; exact z2i HO5.out (by omega) 3 _);have HW6 := zh hW6;have hput := zaf ⟨t, ps, wh, x⟩ (.slice A ps.length ca) W6 (HO6.out.rd z19) ⟨HT.out, hsm.out, HWl.out.1, hxl⟩ (by have := HPs.out; show ps.length ≤ _; omega);unfold ChgV ziw SV at hput;simp only at hput;have HSt := zh (HStop.out x rfl);obtain ⟨⟨-, -, -, a3⟩, -, -, -, m3⟩ := G5.out.blkF;obtain ⟨⟨e0, e1, e2, e3⟩, -, -, -, -⟩ := G6.out.blkF;have E0 := zh (And.intro e0 (And.intro e1 (And.intro e2 e3)));clear hW6 hlx e0 e1 e2 e3;obtain ⟨rc, hrc⟩ := zx (z18 ⟨t, ps, wh, x⟩);obtain ⟨pc, hpc⟩ := zx (if z18 ⟨t, ps, wh, x⟩ then putC ⟨t, ps, wh, x⟩ else []);rw [← hpc, ← hrc] at hput;have HP := zh hput
          have hpl : pc.length ≤ 1000000 := by
           rw [hpc];by_cases h : z18 ⟨t, ps, wh, x⟩ = true
           · rw [if_pos h]; have := putC_len h; simp only at this; omega
           · rw [if_neg h]; simp
          have hcs : (rc = true ∧ pc = s ∧ getC s = some ⟨t, ps, wh, x⟩) ∨ (getC s = none ∧ (rc = false ∨ (rc = true ∧ pc ≠ s))) := by
           cases hr : z18 ⟨t, ps, wh, x⟩
           · exact .inr ⟨HSt.out (fun h => by rw [hr] at h; cases h.1), .inl (hrc.trans hr)⟩
           · rw [hr, if_pos rfl] at hpc;by_cases he : pc = s
             · exact .inl ⟨hrc.trans hr, he, z8b.2 ⟨hr, by rw [← hpc]; exact he⟩⟩
             · exact .inr ⟨HSt.out (fun h => he (by rw [hpc]; exact h.2)), .inr ⟨hrc.trans hr, he⟩⟩
          clear hput hrc hpc HSt HStop HEnd;have h1I : (1 : Int) ≤ ((10 :: x : zB).length : Int) := by simp only [List.length_cons]; omega
          have h2I : ((x.length : Int) + 1 == 0) = false := by rw [beq_eq_false_iff_ne]; omega
          have h3I : ¬ (x.length : Int) + 1 = 0 := by omega
          have h4I : ((((10 :: x : zB).length : Nat) : Int) == 0) = false := by rw [beq_eq_false_iff_ne]; simp only [List.length_cons]; omega
          clear hxl;rcases hcs with ⟨rfl, rfl, hg⟩ | ⟨hg, rfl | ⟨rfl, hne⟩⟩
          · have HG := zh hg;clear hg;obtain ⟨e0, e1, e2, e3⟩ := E0.out
            go_wp2_with (first | rw [← HW5.out] | rw [← HW6.out])
            refine HP.out.mono ?_;rintro e w7 ⟨rfl, l7⟩;have G7 := zh (G6.out.next l7);have HO7 := zh (HO6.out.below l7 zl);clear l7 e0 e1 e2 e3 x2 k2 a3 m3;obtain ⟨⟨y0, y1, y2, y3⟩, z0, z1, z2, z3⟩ := G7.out.resF;obtain ⟨⟨e0, e1, e2, e3⟩, -, -, -, -⟩ := G7.out.blkF;obtain ⟨f0, f1, f2, f3⟩ := cells4 w7 w.heap.size (.string ⟨t.toArray⟩) (.slice A ps.length ca) (.string ⟨wh.toArray⟩) (.string ⟨x.toArray⟩) y0 y1 y2 y3
            go_wp2_with fail
            refine bodyPost_ret (v := .tuple #[ChgV ⟨t, ps, wh, x⟩ (.slice A ps.length ca), .bool true]) (by simp [results, Tryz.results48, go_sem, f0, f1, f2, f3, ChgV]) rfl ?_;exact ⟨z0i G7.out.below zl _ _ _ _, ⟨t, ps, wh, x⟩, _, (own_set4 HO7.out (by omega) _ _ _ _).rd z19, by rw [HG.out]; rfl, by rw [HG.out]; rfl⟩
          · have HN := zh hg;clear hg;obtain ⟨e0, e1, e2, e3⟩ := E0.out
            go_wp2_with (first | rw [← HW5.out] | rw [← HW6.out])
            refine HP.out.mono ?_;rintro e w7 ⟨rfl, l7⟩;have G7 := zh (G6.out.next l7);clear l7 e0 e1 e2 e3 x2 k2 a3 m3;have HF : Hid (getC s = none) := HN;obtain ⟨⟨y0, y1, y2, y3⟩, z0, z1, z2, z3⟩ := G7.out.resF;obtain ⟨f0, f1, f2, f3⟩ := cells4 w7 w.heap.size (.string ⟨#[]⟩) (.slice none 0 0) (.string ⟨#[]⟩) (.string ⟨#[]⟩) y0 y1 y2 y3
            go_wp2_with fail
            refine bodyPost_ret (v := .tuple #[ChgV z3g (.slice none 0 0), .bool false]) (by simp [results, Tryz.results48, go_sem, f0, f1, f2, f3, ChgV, z3g]) rfl ?_;exact ⟨z0i G7.out.below zl _ _ _ _, z3g, .slice none 0 0, .inl ⟨⟨_, _, rfl⟩, rfl⟩, by rw [HF.out]; rfl, by rw [HF.out]; rfl⟩
          · have HN := zh hg;have b3 : (pc == s) = false := by simpa using hne
            have b4 : (pc != s) = true := by simpa using hne
            clear hg hne;obtain ⟨e0, e1, e2, e3⟩ := E0.out
            go_wp2_with (first | rw [← HW5.out] | rw [← HW6.out])
            refine HP.out.mono ?_;rintro e w7 ⟨rfl, l7⟩;have G7 := zh (G6.out.next l7);clear l7 e0 e1 e2 e3 x2 k2 a3 m3;have HF : Hid (getC s = none) := HN;obtain ⟨⟨y0, y1, y2, y3⟩, z0, z1, z2, z3⟩ := G7.out.resF;obtain ⟨f0, f1, f2, f3⟩ := cells4 w7 w.heap.size (.string ⟨#[]⟩) (.slice none 0 0) (.string ⟨#[]⟩) (.string ⟨#[]⟩) y0 y1 y2 y3
            go_wp2_with fail
            refine bodyPost_ret (v := .tuple #[ChgV z3g (.slice none 0 0), .bool false]) (by simp [results, Tryz.results48, go_sem, f0, f1, f2, f3, ChgV, z3g]) rfl ?_;exact ⟨z0i G7.out.below zl _ _ _ _, z3g, .slice none 0 0, .inl ⟨⟨_, _, rfl⟩, rfl⟩, by rw [HF.out]; rfl, by rw [HF.out]; rfl⟩
structure GlW (w : World) (d : zB) (k : Int) (n x : zB) (W : World) : Prop where
 below : Below w.heap.size w W
 res : W.heap[w.heap.size]? = some (.cells #[.string ⟨#[]⟩, .int .i64 0, .string ⟨#[]⟩, .string ⟨#[]⟩] 100 (0, 0))
 blk : W.heap[w.heap.size + 1]? = some (.cells #[.string ⟨d.toArray⟩, .int .i64 k, .string ⟨n.toArray⟩, .string ⟨x.toArray⟩] 100 (0, 0))
section
variable {w W W' : World} {d n x : zB} {k : Int}
theorem GlW.size (h : GlW w d k n x W) : w.heap.size + 2 ≤ W.heap.size := lt_heap h.blk
theorem GlW.next (h : GlW w d k n x W) (hb : Below W.heap.size W W') : GlW w d k n x W' :=
 ⟨h.below.trans (hb.mono (by have := h.size; omega)), (hb.block _ (by have := h.size; omega)).trans h.res, (hb.block _ (by have := h.size; omega)).trans h.blk⟩
theorem GlW.set0 (h : GlW w d k n x W) (v : zB) : GlW w v k n x (W.setCell ⟨w.heap.size + 1, 0, none⟩ (.string ⟨v.toArray⟩)) :=
 ⟨h.below.setCell (Nat.le_add_right _ 1) _, (Below.heap_setCell _ _ _ _ (fun e => by simp at e)).trans h.res, by simp [World.setCell, Array.getElem?_modify, h.blk]⟩
theorem GlW.set1 (h : GlW w d k n x W) (v : Int) : GlW w d v n x (W.setCell ⟨w.heap.size + 1, 1, none⟩ (.int .i64 v)) :=
 ⟨h.below.setCell (Nat.le_add_right _ 1) _, (Below.heap_setCell _ _ _ _ (fun e => by simp at e)).trans h.res, by simp [World.setCell, Array.getElem?_modify, h.blk]⟩
theorem GlW.set2 (h : GlW w d k n x W) (v : zB) : GlW w d k v x (W.setCell ⟨w.heap.size + 1, 2, none⟩ (.string ⟨v.toArray⟩)) :=
 ⟨h.below.setCell (Nat.le_add_right _ 1) _, (Below.heap_setCell _ _ _ _ (fun e => by simp at e)).trans h.res, by simp [World.setCell, Array.getElem?_modify, h.blk]⟩
theorem GlW.set3 (h : GlW w d k n x W) (v : zB) : GlW w d k n v (W.setCell ⟨w.heap.size + 1, 3, none⟩ (.string ⟨v.toArray⟩)) :=
 ⟨h.below.setCell (Nat.le_add_right _ 1) _, (Below.heap_setCell _ _ _ _ (fun e => by simp at e)).trans h.res, by simp [World.setCell, Array.getElem?_modify, h.blk]⟩
theorem GlW.resF (h : GlW w d k n x W) : (W.cell? ⟨w.heap.size, 0, none⟩ = some (.string ⟨#[]⟩) ∧ W.cell? ⟨w.heap.size, 1, none⟩ = some (.int .i64 0) ∧ W.cell? ⟨w.heap.size, 2, none⟩ = some (.string ⟨#[]⟩) ∧ W.cell? ⟨w.heap.size, 3, none⟩ = some (.string ⟨#[]⟩)) ∧
 W.frozen? ⟨w.heap.size, 0, none⟩ = false ∧ W.frozen? ⟨w.heap.size, 1, none⟩ = false ∧ W.frozen? ⟨w.heap.size, 2, none⟩ = false ∧ W.frozen? ⟨w.heap.size, 3, none⟩ = false :=
 ⟨⟨z03 h.res rfl, z03 h.res rfl, z03 h.res rfl, z03 h.res rfl⟩, z04 h.res, z04 h.res, z04 h.res, z04 h.res⟩
theorem GlW.blkF (h : GlW w d k n x W) : (W.cell? ⟨w.heap.size + 1, 0, none⟩ = some (.string ⟨d.toArray⟩) ∧ W.cell? ⟨w.heap.size + 1, 1, none⟩ = some (.int .i64 k) ∧ W.cell? ⟨w.heap.size + 1, 2, none⟩ = some (.string ⟨n.toArray⟩) ∧ W.cell? ⟨w.heap.size + 1, 3, none⟩ = some (.string ⟨x.toArray⟩)) ∧
 W.frozen? ⟨w.heap.size + 1, 0, none⟩ = false ∧ W.frozen? ⟨w.heap.size + 1, 1, none⟩ = false ∧ W.frozen? ⟨w.heap.size + 1, 2, none⟩ = false ∧ W.frozen? ⟨w.heap.size + 1, 3, none⟩ = false :=
 ⟨⟨z03 h.blk rfl, z03 h.blk rfl, z03 h.blk rfl, z03 h.blk rfl⟩, z04 h.blk, z04 h.blk, z04 h.blk, z04 h.blk⟩
end
theorem GlW.start (w : World) : GlW w [] 0 [] [] ((w.alloc (.cells #[.string ⟨#[]⟩, .int .i64 0, .string ⟨#[]⟩, .string ⟨#[]⟩] 100)).alloc (.cells #[.string ⟨#[]⟩, .int .i64 0, .string ⟨#[]⟩, .string ⟨#[]⟩] 100)) := by
 have B0 := below_new w (.cells #[.string ⟨#[]⟩, .int .i64 0, .string ⟨#[]⟩, .string ⟨#[]⟩] 100);refine ⟨B0.alloc B0.size _, ?_, ?_⟩
 · exact (Below.heap_alloc _ _ _ (by simp)).trans (heap_alloc_new _ _)
 · have h := heap_alloc_new (w.alloc (.cells #[.string ⟨#[]⟩, .int .i64 0, .string ⟨#[]⟩, .string ⟨#[]⟩] 100)) (.cells #[.string ⟨#[]⟩, .int .i64 0, .string ⟨#[]⟩, .string ⟨#[]⟩] 100);simpa using h
def z4r (u : zB) (k : Nat) : Int := if kindOfW u < (k : Int) then kindOfW u else 0
theorem zej (u : zB) : 0 ≤ kindOfW u ∧ kindOfW u ≤ 4 := by
 unfold kindOfW;by_cases h1 : u = [98, 108, 111, 98]
 · rw [if_pos h1]; omega
 rw [if_neg h1];by_cases h2 : u = [116, 114, 101, 101]
 · rw [if_pos h2]; omega
 rw [if_neg h2];by_cases h3 : u = [99, 111, 109, 109, 105, 116]
 · rw [if_pos h3]; omega
 rw [if_neg h3];by_cases h4 : u = [116, 97, 103]
 · rw [if_pos h4]; omega
 rw [if_neg h4]; omega
theorem zjj (u : zB) : z4r u 1 = 0 := by
 have := zej u;unfold z4r;by_cases h : kindOfW u < ((1 : Nat) : Int)
 · rw [if_pos h]; omega
 · rw [if_neg h]
theorem zg3 (u : zB) : z4r u 5 = kindOfW u := by
 have := zej u;unfold z4r;rw [if_pos (by omega)]
theorem zjk {u : zB} {k : Nat} (h1 : 1 ≤ k) (h4 : k ≤ 4) (h : kindW (k : Int) = u) : z4r u (k + 1) = (k : Int) := by
 have e : kindOfW u = (k : Int) := by rw [← h]; exact z8r (by omega) (by omega)
 unfold z4r;rw [e, if_pos (by omega)]
theorem zg4 {u : zB} {k : Nat} (h1 : 1 ≤ k) (h : kindW (k : Int) ≠ u) : z4r u (k + 1) = z4r u k := by
 have hne : kindOfW u ≠ (k : Int) := fun e => h (by rw [← e]; exact z8s (by omega));unfold z4r;by_cases h2 : kindOfW u < (k : Int)
 · rw [if_pos h2, if_pos (by omega)]
 · rw [if_neg h2, if_neg (by omega)]
theorem zc9 (s : zB) (hs : s.length ≤ 100000) (w : World) : Calls Tryz.prog 49 #[.string ⟨s.toArray⟩] w (GlPost (z28 s) w) := by
 have HS := zh hs;obtain ⟨w0, hw0⟩ := zx ((w.alloc (.cells #[.string ⟨#[]⟩, .int .i64 0, .string ⟨#[]⟩, .string ⟨#[]⟩] 100)).alloc (.cells #[.string ⟨#[]⟩, .int .i64 0, .string ⟨#[]⟩, .string ⟨#[]⟩] 100));have G0 : Hid (GlW w [] 0 [] [] w0) := zh (by rw [hw0]; exact GlW.start w);have HW0 := zh hw0;have h1 := fun W => z45 s [111, 98, 106, 101, 99, 116] (by omega) (by decide) W;have hlk : ∀ q : zB, q.length ≤ 100000 → ∀ W, Calls Tryz.prog 64 #[.string ⟨q.toArray⟩, .string ⟨#[107, 105, 110, 100]⟩] W (z06 (z43 (z0e wKind q)) W) := fun q hq W => z45 q [107, 105, 110, 100] (by omega) (by decide) W;have hln : ∀ q : zB, q.length ≤ 100000 → ∀ W, Calls Tryz.prog 64 #[.string ⟨q.toArray⟩, .string ⟨#[110, 97, 109, 101]⟩] W (z06 (z43 (z0e wName q)) W) := fun q hq W => z45 q [110, 97, 109, 101] (by omega) (by decide) W;have hn0 := fun W => hln [] (by simp) W;rw [z9u (by decide)] at hn0;unfold z43 at hn0;have HN0 := zh hn0;rw [show ([111, 98, 106, 101, 99, 116] : zB) ++ [32] = wObject from rfl] at h1;clear hw0 hs hn0;cases hl1 : z0e wObject s with
 | none =>
   rw [hl1] at h1;unfold z43 at h1;have H1 := zh h1;have h2 := fun W => hlk [] (by simp) W;rw [z9u (by decide)] at h2;unfold z43 at h2;have H2 := zh h2;have HF : Hid (z28 s = none) := zh (z6w (by unfold rawL; rw [hl1]));clear hl1 h1 h2 hlk hln
   go_enter Tryz.func49, Tryz.ntmps49
   go_wp2_with (rw [← HW0.out])
   refine (H1.out _).mono ?_;rintro e w1 ⟨rfl, l9⟩;have G1 := zh (G0.out.next l9);clear l9
   go_wp2_with fail
   refine (H2.out _).mono ?_;rintro e w2 ⟨rfl, l9⟩;have G2 := zh (G1.out.next l9);clear l9
   go_wp2_with fail
   refine (HN0.out _).mono ?_;rintro e w3 ⟨rfl, l9⟩;have G3 := zh (G2.out.next l9);clear l9;obtain ⟨⟨e0, e1, e2, e3⟩, -, -, -, -⟩ := G3.out.blkF;obtain ⟨⟨y0, y1, y2, y3⟩, z0, z1, z2, z3⟩ := G3.out.resF;obtain ⟨f0, f1, f2, f3⟩ := cells4 w3 w.heap.size (.string ⟨#[]⟩) (.int .i64 0) (.string ⟨#[]⟩) (.string ⟨#[]⟩) y0 y1 y2 y3
   go_wp2_with fail
   refine bodyPost_ret (v := .tuple #[LblV z4h, .bool false]) (by simp [results, Tryz.results49, go_sem, f0, f1, f2, f3, LblV, z4h]) rfl ?_;exact ⟨z0i G3.out.below zl _ _ _ _, by rw [HF.out]; rfl⟩
 | some p1 =>
   obtain ⟨di, r1⟩ := p1;rw [hl1] at h1;unfold z43 at h1;have H1 := zh h1;have n1 := z2k hl1;have h2 := fun W => hlk r1 (by have := HS.out; omega) W;cases hl2 : z0e wKind r1 with
   | none =>
     rw [hl2] at h2;unfold z43 at h2;have H2 := zh h2;have HF : Hid (z28 s = none) := zh (z6w (by unfold rawL; rw [hl1]; simp only; rw [hl2]));clear hl1 hl2 h1 h2 hlk hln n1
     go_enter Tryz.func49, Tryz.ntmps49
     go_wp2_with (rw [← HW0.out])
     refine (H1.out _).mono ?_;rintro e w1 ⟨rfl, l9⟩;have G1 := zh (G0.out.next l9);clear l9
     go_wp2_with fail
     refine (H2.out _).mono ?_;rintro e w2 ⟨rfl, l9⟩;have G2 := zh (G1.out.next l9);clear l9
     go_wp2_with fail
     refine (HN0.out _).mono ?_;rintro e w3 ⟨rfl, l9⟩;have G3 := zh (G2.out.next l9);clear l9;obtain ⟨⟨e0, e1, e2, e3⟩, -, -, -, -⟩ := G3.out.blkF;obtain ⟨⟨y0, y1, y2, y3⟩, z0, z1, z2, z3⟩ := G3.out.resF;obtain ⟨f0, f1, f2, f3⟩ := cells4 w3 w.heap.size (.string ⟨#[]⟩) (.int .i64 0) (.string ⟨#[]⟩) (.string ⟨#[]⟩) y0 y1 y2 y3
     go_wp2_with fail
     refine bodyPost_ret (v := .tuple #[LblV z4h, .bool false]) (by simp [results, Tryz.results49, go_sem, f0, f1, f2, f3, LblV, z4h]) rfl ?_;exact ⟨z0i G3.out.below zl _ _ _ _, by rw [HF.out]; rfl⟩
   | some p2 =>
     obtain ⟨u, r2⟩ := p2;rw [hl2] at h2;unfold z43 at h2;have H2 := zh h2;have n2 := z2k hl2;have h3 := fun W => hln r2 (by have := HS.out; omega) W;cases hl3 : z0e wName r2 with
     | none =>
       rw [hl3] at h3;unfold z43 at h3;have H3 := zh h3;have HF : Hid (z28 s = none) := zh (z6w (by unfold rawL; rw [hl1]; simp only; rw [hl2]; simp only; rw [hl3]));clear hl1 hl2 hl3 h1 h2 h3 hlk hln n1 n2
       go_enter Tryz.func49, Tryz.ntmps49
       go_wp2_with (rw [← HW0.out])
       refine (H1.out _).mono ?_;rintro e w1 ⟨rfl, l9⟩;have G1 := zh (G0.out.next l9);clear l9
       go_wp2_with fail
       refine (H2.out _).mono ?_;rintro e w2 ⟨rfl, l9⟩;have G2 := zh (G1.out.next l9);clear l9
       go_wp2_with fail
       refine (H3.out _).mono ?_;rintro e w3 ⟨rfl, l9⟩;have G3 := zh (G2.out.next l9);clear l9;obtain ⟨⟨e0, e1, e2, e3⟩, -, -, -, -⟩ := G3.out.blkF;obtain ⟨⟨y0, y1, y2, y3⟩, z0, z1, z2, z3⟩ := G3.out.resF;obtain ⟨f0, f1, f2, f3⟩ := cells4 w3 w.heap.size (.string ⟨#[]⟩) (.int .i64 0) (.string ⟨#[]⟩) (.string ⟨#[]⟩) y0 y1 y2 y3
       go_wp2_with fail
       refine bodyPost_ret (v := .tuple #[LblV z4h, .bool false]) (by simp [results, Tryz.results49, go_sem, f0, f1, f2, f3, LblV, z4h]) rfl ?_;exact ⟨z0i G3.out.below zl _ _ _ _, by rw [HF.out]; rfl⟩
     | some p3 =>
       obtain ⟨nm, r3⟩ := p3;rw [hl3] at h3;unfold z43 at h3;have H3 := zh h3;have n3 := z2k hl3;have HEnd : Hid (z79 r3 = none → z28 s = none) := zh fun h => z6w (by unfold rawL; rw [hl1]; simp only; rw [hl2]; simp only; rw [hl3]; simp only; rw [h]; rfl);have HStop : Hid (∀ x, r3 = 10 :: x → ¬ (rightL ⟨di, kindOfW u, nm, x⟩ = true ∧ z6e ⟨di, kindOfW u, nm, x⟩ = s) → z28 s = none) := zh fun x hx hno => labelP hl1 hl2 (by rw [hl3, hx]) hno;have HL : Hid (di.length ≤ 100000 ∧ nm.length ≤ 100000 ∧ r3.length ≤ 100000) := zh (by have := HS.out; exact ⟨by omega, by omega, by omega⟩);clear hl1 hl2 hl3 h1 h2 h3 hlk hln n1 n2 n3 HN0;cases r3 with
       | nil =>
         have HF : Hid (z28 s = none) := zh (HEnd.out rfl);clear HEnd HStop
         go_enter Tryz.func49, Tryz.ntmps49
         go_wp2_with (rw [← HW0.out])
         refine (H1.out _).mono ?_;rintro e w1 ⟨rfl, l9⟩;have G1 := zh (G0.out.next l9);clear l9
         go_wp2_with fail
         refine (H2.out _).mono ?_;rintro e w2 ⟨rfl, l9⟩;have G2 := zh (G1.out.next l9);clear l9
         go_wp2_with fail
         refine (H3.out _).mono ?_;rintro e w3 ⟨rfl, l9⟩;have G3 := zh (G2.out.next l9);clear l9;obtain ⟨⟨e0, e1, e2, e3⟩, -, -, -, -⟩ := G3.out.blkF;obtain ⟨⟨y0, y1, y2, y3⟩, z0, z1, z2, z3⟩ := G3.out.resF;obtain ⟨f0, f1, f2, f3⟩ := cells4 w3 w.heap.size (.string ⟨#[]⟩) (.int .i64 0) (.string ⟨#[]⟩) (.string ⟨#[]⟩) y0 y1 y2 y3
         go_wp2_with fail
         refine bodyPost_ret (v := .tuple #[LblV z4h, .bool false]) (by simp [results, Tryz.results49, go_sem, f0, f1, f2, f3, LblV, z4h]) rfl ?_;exact ⟨z0i G3.out.below zl _ _ _ _, by rw [HF.out]; rfl⟩
       | cons c x =>
         have gc : ∀ h, ((⟨(c :: x).toArray⟩ : ByteArray)[0]'h) = c := fun h => rfl;have h2I : ((x.length : Int) + 1 == 0) = false := by rw [beq_eq_false_iff_ne]; omega
         have h3I : ¬ (x.length : Int) + 1 = 0 := by omega
         by_cases h10 : c = 10
         case neg =>
          have b3 : ((c.toNat : Int) != 10) = true := by have := zae (d := 10) h10; simpa using this
          have b4 : ((c.toNat : Int) == 10) = false := by have := zae (d := 10) h10; simpa using this
          have HF : Hid (z28 s = none) := zh (HEnd.out (by rw [z79, if_neg h10]));clear HEnd HStop h10
          go_enter Tryz.func49, Tryz.ntmps49
          go_wp2_with (rw [← HW0.out])
          refine (H1.out _).mono ?_;rintro e w1 ⟨rfl, l9⟩;have G1 := zh (G0.out.next l9);clear l9
          go_wp2_with fail
          refine (H2.out _).mono ?_;rintro e w2 ⟨rfl, l9⟩;have G2 := zh (G1.out.next l9);clear l9
          go_wp2_with fail
          refine (H3.out _).mono ?_;rintro e w3 ⟨rfl, l9⟩;have G3 := zh (G2.out.next l9);clear l9;obtain ⟨⟨e0, e1, e2, e3⟩, -, -, -, -⟩ := G3.out.blkF;obtain ⟨⟨y0, y1, y2, y3⟩, z0, z1, z2, z3⟩ := G3.out.resF;obtain ⟨f0, f1, f2, f3⟩ := cells4 w3 w.heap.size (.string ⟨#[]⟩) (.int .i64 0) (.string ⟨#[]⟩) (.string ⟨#[]⟩) y0 y1 y2 y3
          go_wp2_with fail
          refine bodyPost_ret (v := .tuple #[LblV z4h, .bool false]) (by simp [results, Tryz.results49, go_sem, f0, f1, f2, f3, LblV, z4h]) rfl ?_;exact ⟨z0i G3.out.below zl _ _ _ _, by rw [HF.out]; rfl⟩
         subst h10
         have hx1 : (⟨((10 : UInt8) :: x).toArray⟩ : ByteArray).extract 1 (x.length + 1) = ⟨x.toArray⟩ := by
          have h := extract_S (10 :: x) 1 (x.length + 1);rw [List.take_of_length_le (by simp)] at h;exact h
         have hxl : x.length ≤ 100000 := by have := HL.out.2.2; simp at this; omega
         have HSt := zh (HStop.out x rfl);have HXl := zh hxl;clear hxl HStop HEnd
         go_enter Tryz.func49, Tryz.ntmps49
         go_wp2_with (rw [← HW0.out])
         refine (H1.out _).mono ?_;rintro e w1 ⟨rfl, l9⟩;have G1 := zh (G0.out.next l9);clear l9
         go_wp2_with fail
         refine (H2.out _).mono ?_;rintro e w2 ⟨rfl, l9⟩;have G2 := zh (G1.out.next l9);clear l9
         go_wp2_with fail
         refine (H3.out _).mono ?_;rintro e w3 ⟨rfl, l9⟩;have G3 := zh (G2.out.next l9);clear l9;have HWd : Hid (∀ (k : Nat) (W : World), Calls Tryz.prog 59 #[.int .i64 (k : Int)] W fun e w' => e = .returned (SV (kindW (k : Int))) ∧ W = w') := zh fun k W => zee k W
         go_wp2_with fail
         go_loopw [12] (fun vk wr => ∃ k : Nat, 1 ≤ k ∧ k ≤ 5 ∧ vk = .int .i64 k ∧ Hid (GlW w [] (z4r u k) [] [] wr)) (fun vk _ => 5 - (intOf vk).toNat)
         case atStart => exact ⟨1, Nat.le_refl _, by omega, rfl, zh (by rw [zjj]; exact G3.out)⟩
         case round =>
          obtain ⟨k, hk1, hk5, rfl, G⟩ := hrel;by_cases hk4 : k ≤ 4
          · have hwd := HWd.out k wr;obtain ⟨kw, hkw⟩ := zx (kindW (k : Int));rw [← hkw] at hwd;unfold SV at hwd;have HW1 := zh hwd;have HKw := zh hkw;clear hwd hkw;by_cases he : kw = u
            · obtain ⟨W5, hW5⟩ := zx (wr.setCell ⟨w.heap.size + 1, 1, none⟩ (.int .i64 (k : Int)));have G5 : Hid (GlW w [] (z4r u (k + 1)) [] [] W5) := zh (by rw [hW5, zjk hk1 hk4 (by rw [← HKw.out, he])]; exact G.out.set1 _);have HW5 := zh hW5;obtain ⟨⟨-, x1, -, -⟩, -, k1, -, -⟩ := G.out.blkF;subst he;clear hW5
              go_wp2_with fail
              refine HW1.out.mono ?_;intro e w5 hh;rw [hh.1, ← hh.2];clear hh w5
              go_wp2_with (rw [← HW5.out])
              go_roundw
              case rel => exact ⟨k + 1, by omega, by omega, by go_num, G5⟩
              case measure => simp [intOf]; omega
            · have b3 : (kw == u) = false := by simpa using he
              have G5 : Hid (GlW w [] (z4r u (k + 1)) [] [] wr) := zh (by rw [zg4 hk1 (by rw [← HKw.out]; exact he)]; exact G.out);clear he
              go_wp2_with fail
              refine HW1.out.mono ?_;intro e w5 hh;rw [hh.1, ← hh.2];clear hh w5
              go_wp2_with fail
              go_roundw
              case rel => exact ⟨k + 1, by omega, by omega, by go_num, G5⟩
              case measure => simp [intOf]; omega
          · obtain rfl : k = 5 := by omega
            have G4 : Hid (GlW w [] (kindOfW u) [] [] wr) := zh (by rw [← zg3]; exact G.out);obtain ⟨kv, hkv⟩ := zx (kindOfW u);rw [← hkv] at G4 HSt;obtain ⟨W5, hW5⟩ := zx (wr.setCell ⟨w.heap.size + 1, 0, none⟩ (.string ⟨di.toArray⟩));have G5 : Hid (GlW w di kv [] [] W5) := zh (by rw [hW5]; exact G4.out.set0 di);obtain ⟨W6, hW6⟩ := zx (W5.setCell ⟨w.heap.size + 1, 2, none⟩ (.string ⟨nm.toArray⟩));have G6 : Hid (GlW w di kv nm [] W6) := zh (by rw [hW6]; exact G5.out.set2 nm);obtain ⟨W7, hW7⟩ := zx (W6.setCell ⟨w.heap.size + 1, 3, none⟩ (.string ⟨x.toArray⟩));have G7 : Hid (GlW w di kv nm x W7) := zh (by rw [hW7]; exact G6.out.set3 x);have HW5 := zh hW5; have HW6 := zh hW6; have HW7 := zh hW7;obtain ⟨⟨a0, -, -, -⟩, m0, -, -, -⟩ := G4.out.blkF;obtain ⟨⟨-, -, a2, -⟩, -, -, m2, -⟩ := G5.out.blkF;obtain ⟨⟨-, -, -, a3⟩, -, -, -, m3⟩ := G6.out.blkF;obtain ⟨⟨e0, e1, e2, e3⟩, -, -, -, -⟩ := G7.out.blkF;have hput := zc7 ⟨di, kv, nm, x⟩ W7 ⟨HL.out.1, HL.out.2.1, HXl.out⟩;unfold LblV zig SV at hput;simp only at hput;obtain ⟨rc, hrc⟩ := zx (rightL ⟨di, kv, nm, x⟩);obtain ⟨pc, hpc⟩ := zx (if rightL ⟨di, kv, nm, x⟩ then z6e ⟨di, kv, nm, x⟩ else []);rw [← hpc, ← hrc] at hput;have HP := zh hput
            have hpl : pc.length ≤ 1000000 := by
             rw [hpc];by_cases h : rightL ⟨di, kv, nm, x⟩ = true
             · rw [if_pos h]; have h5 := zn1 h; have h6 := HXl.out; simp only at h5; omega
             · rw [if_neg h]; simp
            have hcs : (rc = true ∧ pc = s ∧ z28 s = some ⟨di, kv, nm, x⟩) ∨ (z28 s = none ∧ (rc = false ∨ (rc = true ∧ pc ≠ s))) := by
             cases hr : rightL ⟨di, kv, nm, x⟩
             · exact .inr ⟨HSt.out (fun h => by rw [hr] at h; cases h.1), .inl (hrc.trans hr)⟩
             · rw [hr, if_pos rfl] at hpc;by_cases he : pc = s
               · exact .inl ⟨hrc.trans hr, he, zcl.2 ⟨hr, by rw [← hpc]; exact he⟩⟩
               · exact .inr ⟨HSt.out (fun h => he (by rw [hpc]; exact h.2)), .inr ⟨hrc.trans hr, he⟩⟩
            clear hput hrc hpc HSt hW5 hW6 hW7 hkv;have h1I : (1 : Int) ≤ ((10 :: x : zB).length : Int) := by simp only [List.length_cons]; omega
            rcases hcs with ⟨rfl, rfl, hg⟩ | ⟨hg, rfl | ⟨rfl, hne⟩⟩
            · have HG := zh hg;clear hg
              go_wp2_with (first | rw [← HW5.out] | rw [← HW6.out] | rw [← HW7.out])
              refine HP.out.mono ?_;rintro e w7 ⟨rfl, l7⟩;have G8 := zh (G7.out.next l7);clear l7 e0 e1 e2 e3 a0 a2 a3 m0 m2 m3;obtain ⟨⟨y0, y1, y2, y3⟩, z0, z1, z2, z3⟩ := G8.out.resF;obtain ⟨⟨e0, e1, e2, e3⟩, -, -, -, -⟩ := G8.out.blkF;obtain ⟨f0, f1, f2, f3⟩ := cells4 w7 w.heap.size (.string ⟨di.toArray⟩) (.int .i64 kv) (.string ⟨nm.toArray⟩) (.string ⟨x.toArray⟩) y0 y1 y2 y3
              go_wp2_with fail
              refine bodyPost_ret (v := .tuple #[LblV ⟨di, kv, nm, x⟩, .bool true]) (by simp [results, Tryz.results49, go_sem, f0, f1, f2, f3, LblV]) rfl ?_;exact ⟨z0i G8.out.below zl _ _ _ _, by rw [HG.out]; rfl⟩
            · have HF := zh hg;clear hg
              go_wp2_with (first | rw [← HW5.out] | rw [← HW6.out] | rw [← HW7.out])
              refine HP.out.mono ?_;rintro e w7 ⟨rfl, l7⟩;have G8 := zh (G7.out.next l7);clear l7 e0 e1 e2 e3 a0 a2 a3 m0 m2 m3;obtain ⟨⟨y0, y1, y2, y3⟩, z0, z1, z2, z3⟩ := G8.out.resF;obtain ⟨f0, f1, f2, f3⟩ := cells4 w7 w.heap.size (.string ⟨#[]⟩) (.int .i64 0) (.string ⟨#[]⟩) (.string ⟨#[]⟩) y0 y1 y2 y3
              go_wp2_with fail
              refine bodyPost_ret (v := .tuple #[LblV z4h, .bool false]) (by simp [results, Tryz.results49, go_sem, f0, f1, f2, f3, LblV, z4h]) rfl ?_;exact ⟨z0i G8.out.below zl _ _ _ _, by rw [HF.out]; rfl⟩
            · have HF := zh hg;have b3 : (pc == s) = false := by simpa using hne
              have b4 : (pc != s) = true := by simpa using hne
              clear hg hne
              go_wp2_with (first | rw [← HW5.out] | rw [← HW6.out] | rw [← HW7.out])
              refine HP.out.mono ?_;rintro e w7 ⟨rfl, l7⟩;have G8 := zh (G7.out.next l7);clear l7 e0 e1 e2 e3 a0 a2 a3 m0 m2 m3;obtain ⟨⟨y0, y1, y2, y3⟩, z0, z1, z2, z3⟩ := G8.out.resF;obtain ⟨f0, f1, f2, f3⟩ := cells4 w7 w.heap.size (.string ⟨#[]⟩) (.int .i64 0) (.string ⟨#[]⟩) (.string ⟨#[]⟩) y0 y1 y2 y3
              go_wp2_with fail
              refine bodyPost_ret (v := .tuple #[LblV z4h, .bool false]) (by simp [results, Tryz.results49, go_sem, f0, f1, f2, f3, LblV, z4h]) rfl ?_;exact ⟨z0i G8.out.below zl _ _ _ _, by rw [HF.out]; rfl⟩
theorem zjl (k : Int) (d : zB) (hs : d.length ≤ 100000) (w : World) : Calls Tryz.prog 25 #[.agg #[.int .i64 k, .string ⟨d.toArray⟩]] w (z06 (.bool (z0g k d).isSome) w) := by
 have HB := zh (below_new w (.cells #[.int .i64 k, .string ⟨d.toArray⟩] 37));by_cases hd : d.length ≤ 65536
 case neg =>
  have HF : Hid ((z0g k d).isSome = false) := zh (by rw [z1y d k hd]; rfl);have hd2 : 65536 < (d.length : Int) := by omega
  go_enter Tryz.func25, Tryz.ntmps25
  go_wp2_with fail
  go_ret
  exact ⟨ret_bool HF.out.symm, HB.out⟩
 have hd2 : ¬ 65536 < (d.length : Int) := by omega
 have HI := zh (z6l d k hd);by_cases h1 : k = 1
 · have HF : Hid ((z0g k d).isSome = true) := zh (by rw [HI.out, if_pos h1]; rfl);subst h1
   go_enter Tryz.func25, Tryz.ntmps25
   go_wp2_with fail
   go_ret
   exact ⟨ret_bool HF.out.symm, HB.out⟩
 have b1 : (k == 1) = false := by simpa using h1
 by_cases h2 : k = 2
 · have HF : Hid ((z0g k d).isSome = (getT d).isSome) := zh (by rw [HI.out, if_neg h1, if_pos h2, Option.isSome_map]);have HG := zh (fun W => zei d hs W);subst h2
   go_enter Tryz.func25, Tryz.ntmps25
   go_wp2_with fail
   refine (HG.out _).mono ?_;rintro e w1 ⟨⟨v, l, rfl, hr, hl⟩, l1⟩;obtain ⟨A, c, rfl⟩ := hr.shape;have L1 := zh (HB.out.trans (l1.mono HB.out.size));clear hr hl l1
   go_wp2_with fail
   go_ret
   exact ⟨ret_bool HF.out.symm, L1.out⟩
 have b2 : (k == 2) = false := by simpa using h2
 by_cases h3 : k = 3
 · have HF : Hid ((z0g k d).isSome = (getC d).isSome) := zh (by rw [HI.out, if_neg h1, if_neg h2, if_pos h3, Option.isSome_map]);have HG := zh (fun W => zag d hs W);subst h3
   go_enter Tryz.func25, Tryz.ntmps25
   go_wp2_with fail
   refine (HG.out _).mono ?_;rintro e w1 ⟨l1, c, vp, hr, he, hc⟩;obtain ⟨A, ca, rfl⟩ := hr.shape;obtain ⟨ct, cp, cw, cx⟩ := c;unfold ChgV at he;simp only at he;subst he;have L1 := zh ((HB.out.trans (l1.mono HB.out.size)).alloc (HB.out.trans (l1.mono HB.out.size)).size (.cells #[.string ⟨ct.toArray⟩, .slice A cp.length ca, .string ⟨cw.toArray⟩, .string ⟨cx.toArray⟩] 96));clear hr hc l1
   go_wp2_with fail
   go_ret
   exact ⟨ret_bool HF.out.symm, L1.out⟩
 have b3 : (k == 3) = false := by simpa using h3
 by_cases h4 : k = 4
 · have HF : Hid ((z0g k d).isSome = (z28 d).isSome) := zh (by rw [HI.out, if_neg h1, if_neg h2, if_neg h3, if_pos h4, Option.isSome_map]);have HG := zh (fun W => zc9 d hs W);subst h4
   go_enter Tryz.func25, Tryz.ntmps25
   go_wp2_with fail
   refine (HG.out _).mono ?_;rintro e w1 ⟨l1, he⟩;obtain ⟨f, hf⟩ := zx ((z28 d).getD z4h);rw [← hf] at he;obtain ⟨fi, fk, fn, fx⟩ := f;unfold LblV at he;simp only at he;subst he;have L1 := zh ((HB.out.trans (l1.mono HB.out.size)).alloc (HB.out.trans (l1.mono HB.out.size)).size (.cells #[.string ⟨fi.toArray⟩, .int .i64 fk, .string ⟨fn.toArray⟩, .string ⟨fx.toArray⟩] 100));clear hf l1
   go_wp2_with fail
   go_ret
   exact ⟨ret_bool HF.out.symm, L1.out⟩
 have b4 : (k == 4) = false := by simpa using h4
 have HF : Hid ((z0g k d).isSome = false) := zh (by rw [HI.out, if_neg h1, if_neg h2, if_neg h3, if_neg h4]; rfl);clear h1 h2 h3 h4
 go_enter Tryz.func25, Tryz.ntmps25
 go_wp2_with fail
 go_ret
 exact ⟨ret_bool HF.out.symm, HB.out⟩
end Go.Proofs.YtgjddkeogboojaaGreatDoor
namespace Go.Proofs.YtgjddkeogboojaaGreatDoor
def nB : zB := [97, 53, 100, 52, 100, 54, 98, 55, 97, 50, 52, 57, 52, 51, 56, 57, 54, 100, 101, 57, 53, 100, 50, 53, 97, 50, 54, 102, 97, 48, 55, 51, 50, 55, 98, 55, 50, 50, 100, 49, 51, 53, 100, 55, 57, 100, 56, 99, 99, 51, 98, 56, 55, 51, 102, 98, 57, 56, 51, 48, 52, 56, 51, 102]
def tdT : zB := [49, 32, 102, 0, 97, 53, 100, 52, 100, 54, 98, 55, 97, 50, 52, 57, 52, 51, 56, 57, 54, 100, 101, 57, 53, 100, 50, 53, 97, 50, 54, 102, 97, 48, 55, 51, 50, 55, 98, 55, 50, 50, 100, 49, 51, 53, 100, 55, 57, 100, 56, 99, 99, 51, 98, 56, 55, 51, 102, 98, 57, 56, 51, 48, 52, 56, 51, 102]
def nT : zB := [99, 48, 53, 48, 56, 101, 50, 54, 100, 54, 57, 52, 56, 54, 102, 54, 54, 56, 56, 52, 51, 48, 101, 48, 100, 97, 49, 57, 54, 57, 102, 50, 100, 50, 99, 57, 57, 49, 98, 51, 53, 102, 48, 53, 98, 48, 99, 55, 55, 101, 54, 97, 48, 56, 100, 98, 55, 50, 48, 99, 101, 102, 51, 101]
def hT : Hld := ⟨nT, 2, tdT⟩
def hB : Hld := ⟨nB, 1, [120]⟩
end Go.Proofs.YtgjddkeogboojaaGreatDoor
namespace Go.Proofs.YtgjddkeogboojaaGreatDoor
open Go.Sort
def SortedH (l : List Hld) : Prop := l.Pairwise fun x y => ¬ y.id < x.id
theorem Stab.refl {l : List Hld} (h : SortedH l) : Stab l l := ⟨List.Perm.refl l, SameF.refl l, h⟩
theorem SortedH.one (x : Hld) : SortedH [x] := List.pairwise_cons.2 ⟨fun _ h => (by cases h), List.Pairwise.nil⟩
theorem Stab.nil : Stab [] [] := Stab.refl List.Pairwise.nil
end Go.Proofs.YtgjddkeogboojaaGreatDoor
namespace Go.Proofs.YtgjddkeogboojaaGreatDoor.Pk
open Go.Proofs.YtgjddkeogboojaaGreatDoor
open Go Go.RowKit Go.Maps
theorem l_obO {W : World} {g o : Nat} {k : Int} {d : Bs} (h1 : W.cell? ⟨g, o, none⟩ = some (.int .i64 k)) (h2 : W.cell? ⟨g, o + 1, none⟩ = some (.string ⟨d.toArray⟩)) : (Instr.loadAt 37 (.pointer (some ⟨g, o, none⟩))).run Tryz.prog W = .ok (.agg #[.int .i64 k, .string ⟨d.toArray⟩]) W := by simp [go_sem, h1, h2]
theorem l_I {W : World} {g o : Nat} {k : Int} (h1 : W.cell? ⟨g, o, none⟩ = some (.int .i64 k)) : (Instr.loadAt 3 (.pointer (some ⟨g, o, none⟩))).run Tryz.prog W = .ok (.int .i64 k) W := by simp [go_sem, h1]
theorem at_o0 (W : World) (g n c k : Nat) (hk : k < n) : (Instr.indexAt 35 (.slice (some ⟨g, 0, none⟩) n c) (.int .i64 (k : Int))).run Tryz.prog W = .ok (.pointer (some ⟨g, k * 2, none⟩)) W := by
 have h1 : (k : Int) < (n : Int) := by omega
 simp [go_sem, h1]
theorem at_i0 (W : World) (g n c k : Nat) (hk : k < n) : (Instr.indexAt 43 (.slice (some ⟨g, 0, none⟩) n c) (.int .i64 (k : Int))).run Tryz.prog W = .ok (.pointer (some ⟨g, k * 1, none⟩)) W := by
 have h1 : (k : Int) < (n : Int) := by omega
 simp [go_sem, h1]
theorem z7n {w : World} {B : Nat} {A : Option Addr} {n c : Nat} {l : List (Int × Bs)} (h : NewO B w (.slice A n c) l) (hn : n = l.length) (h0 : 0 < n) : ∃ g, A = some ⟨g, 0, none⟩ ∧ ∀ k, k < n → w.cell? ⟨g, k * 2, none⟩ = some (.int .i64 (l.getD k (0, [])).1) ∧ w.cell? ⟨g, k * 2 + 1, none⟩ = some (SV (l.getD k (0, [])).2) := by
 obtain ⟨g, c', e, hc⟩ := zec (k := 2) (f := obC) (fun _ => rfl) h (by omega);refine ⟨g, by cases e; rfl, fun k hk => ?_⟩;have hx : l[k]? = some (l.getD k (0, [])) := by rw [zg, zj (by omega)]; rfl
 exact ⟨hc k _ hx 0 (by omega), hc k _ hx 1 (by omega)⟩
theorem zbd {w : World} {B : Nat} {A : Option Addr} {n c : Nat} {l : List Int} (h : NewI B w (.slice A n c) l) (hn : n = l.length) (h0 : 0 < n) : ∃ g, A = some ⟨g, 0, none⟩ ∧ ∀ k, k < n → w.cell? ⟨g, k * 1, none⟩ = some (.int .i64 (l.getD k 0)) := by
 obtain ⟨g, c', e, hc⟩ := zec (k := 1) (f := intC) (fun _ => rfl) h (by omega);refine ⟨g, by cases e; rfl, fun k hk => ?_⟩;have hx : l[k]? = some (l.getD k 0) := by rw [zg, zj (by omega)]; rfl
 exact hc k _ hx 0 (by omega)
theorem own_sl {α : Type} {t : TypeId} {k : Nat} {f : α → List Value} {w : World} {B : Nat} {v : Value} {l : List α} (h : OwK t k f w B v l) : ∃ A c, v = .slice A l.length c := z6s h
end Go.Proofs.YtgjddkeogboojaaGreatDoor.Pk
namespace Go.Proofs.YtgjddkeogboojaaGreatDoor.Pk
open Go.Proofs.YtgjddkeogboojaaGreatDoor
theorem zoi {s : List Hld} (hr : s.Pairwise fun x y => x.id < y.id) {a b : Nat} (hb : b < s.length) (h : a < b) : (s.getD a z05).id ≠ (s.getD b z05).id := by
 have := List.pairwise_iff_getElem.1 hr a b (by omega) hb h;rw [getD_lt (by omega), getD_lt hb];exact fun e => z4v _ (by rw [e] at this; exact this)
theorem zoj {r : List Hld} (hr : r.Pairwise fun x y => x.id < y.id) {k : Nat} (hk : k < r.length) : z0t (r.take k) (r.getD k z05).id = none := by
 unfold z0t;rw [List.find?_eq_none];intro x hx;obtain ⟨j, hj, rfl⟩ := List.mem_iff_getElem.1 hx;rw [List.length_take] at hj;rw [List.getElem_take];have := zoi hr hk (show j < k by omega);rw [getD_lt (show j < r.length by omega)] at this;simpa using this
theorem zok {r : List Hld} (hr : r.Pairwise fun x y => x.id < y.id) {k : Nat} (hk : k < r.length) (x : Bs) : z0t (r.take (k + 1)) x = if x = (r.getD k z05).id then some (r.getD k z05) else z0t (r.take k) x := by
 rw [z0l r z05 k hk, z0r, z13];by_cases e : x = (r.getD k z05).id
 · rw [if_pos e, e, zoj hr hk, if_pos rfl]; rfl
 · rw [if_neg e, if_neg (fun h => e h.symm)];have : z0t [] x = none := rfl;rw [this, Option.or_none]
theorem zol (p : Hld → Bool) (q : Bs → Bool) (hp : ∀ h, p h = q h.id) (l : List Hld) (x : Bs) : z0t (l.filter p) x = if q x = true then z0t l x else none := by
 induction l with
 | nil => simp [z0t]
 | cons h l ih =>
   by_cases hq : p h = true
   · rw [List.filter_cons_of_pos hq, z13, z13, ih];by_cases e : h.id = x
     · have : q x = true := by rw [← e, ← hp]; exact hq
       rw [if_pos e, if_pos this, if_pos e]
     · rw [if_neg e, if_neg e]
   · rw [List.filter_cons_of_neg hq, ih, z13];by_cases e : h.id = x
     · have : ¬ q x = true := by rw [← e, ← hp]; exact hq
       rw [if_neg this, if_neg this]
     · rw [if_neg e]
theorem zom {hv r : List Hld} {ids : List Bs} (hs : IsSet (z5t hv ids) r) {x : Bs} (hx : x ∈ ids) : z0t r x = z0t hv x := by
 rw [hs.find];unfold z5t;rw [zol (fun h => ids.contains h.id) (fun y => ids.contains y) (fun _ => rfl), if_pos (by simpa using hx)]
end Go.Proofs.YtgjddkeogboojaaGreatDoor.Pk
