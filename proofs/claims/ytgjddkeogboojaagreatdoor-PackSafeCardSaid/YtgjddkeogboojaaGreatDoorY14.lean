/-
  Steps: number, nextCopy, next, head. The reader: fail, text, number, byte. The reader: byte, entry.
-/
import Derived.Test.YtgjddkeogboojaaGreatDoorY13
set_option maxHeartbeats 16000000
set_option maxRecDepth 100000
namespace Go.Proofs.YtgjddkeogboojaaGreatDoor.Dl
open Go Go.RowKit
theorem zm5 (W : World) : (sizeOf 5).run Tryz.prog W = .ok 1 W := by kernel_rfl
theorem run_cut2 (W : World) (a : Option Addr) (n c lo hi : Nat) (h1 : lo ≤ hi) (h2 : hi ≤ c) : (Instr.sliceAt 23 (.slice a n c) (some (.int .i64 (lo : Int))) (some (.int .i64 (hi : Int))) none).run Tryz.prog W = .ok (.slice (if c = lo then a else a.map (·.add (lo * 1))) (hi - lo) (c - lo)) W := by
 have he : Tryz.prog.elem 23 = 5 := by kernel_rfl
 have hu : Tryz.prog.underlying 23 = some (.slice (Tryz.prog.elem 23)) := by rw [he]; exact Tryz.underlying23
 rw [run_sliceAt_slice W _ _ _ _ _ hu];refine (run_slice_lh W _ _ _ _ hu .i64 .i64 (lo : Int) (hi : Int) (by omega) (by omega) (by omega)).trans ?_;rw [he, zm5];simp only [Result.andThen, sliced, Int.toNat_natCast]
theorem run_cut1 (W : World) (a : Option Addr) (n c lo : Nat) (h1 : lo ≤ n) : (Instr.sliceAt 23 (.slice a n c) (some (.int .i64 (lo : Int))) none none).run Tryz.prog W = .ok (.slice (if c = lo then a else a.map (·.add (lo * 1))) (n - lo) (c - lo)) W := by
 have he : Tryz.prog.elem 23 = 5 := by kernel_rfl
 have hu : Tryz.prog.underlying 23 = some (.slice (Tryz.prog.elem 23)) := by rw [he]; exact Tryz.underlying23
 rw [run_sliceAt_slice W _ _ _ _ _ hu];refine (run_slice_l W _ _ _ _ hu .i64 (lo : Int) (by omega) (by omega)).trans ?_;rw [he, zm5];simp only [Result.andThen, sliced, Int.toNat_natCast]
theorem Rb.cut {w : World} {b : Bs} {a : Option Addr} {c : Nat} (h : Rb w (.slice a b.length c) b) (lo hi : Nat) (h1 : lo ≤ hi) (h2 : hi ≤ b.length) : Rb w (.slice (if c = lo then a else a.map (·.add (lo * 1))) (hi - lo) (c - lo)) ((b.take hi).drop lo) := by
 have hlen : ((b.take hi).drop lo).length = hi - lo := by simp [Nat.min_eq_left h2]
 rcases h with ⟨⟨A, e⟩, rfl⟩ | ⟨g, o, c', e, hc, hg, hcell⟩
 · cases e;have hz : hi = 0 := by simpa using h2
   exact .inl ⟨⟨_, by rw [hz, Nat.zero_sub]⟩, by simp⟩
 · cases e;by_cases hcl : c = lo
   · have hz : hi = lo := by omega
     exact .inl ⟨⟨_, by rw [hz, hcl, Nat.sub_self]⟩, List.length_eq_zero_iff.1 (by omega)⟩
   · rw [if_neg hcl];refine .inr ⟨g, o + lo, c - lo, ?_, by omega, hg, fun j hj => ?_⟩
     · rw [hlen, Nat.mul_one]; simp [Addr.add]
     · rw [hlen] at hj;rw [Nat.add_assoc, hcell (lo + j) (by omega)]
       congr 4
       rw [zg, zg, List.getElem?_drop, List.getElem?_take, if_pos (by omega)]
theorem Rb.from' {w : World} {b : Bs} {a : Option Addr} {c : Nat} (h : Rb w (.slice a b.length c) b) (lo : Nat) (h1 : lo ≤ b.length) : Rb w (.slice (if c = lo then a else a.map (·.add (lo * 1))) (b.length - lo) (c - lo)) (b.drop lo) := by
 have := h.cut lo b.length h1 zl
 rwa [List.take_length] at this
def OwnB (x v : Value) : Prop := ∀ g, x.ownBlock = some g → v.ownBlock = some g
theorem OwnB.trans {x y z : Value} (h : OwnB x y) (k : OwnB y z) : OwnB x z := fun g hg => k g (h g hg)
theorem ownB_cut (a : Option Addr) (n c lo m d : Nat) : OwnB (.slice (if c = lo then a else a.map (·.add (lo * 1))) m d) (.slice a n c) := by
 intro g hg;cases a with
 | none =>
   have e : (if c = lo then (none : Option Addr) else (none : Option Addr).map (fun z => z.add (lo * 1))) = none := by split <;> rfl
   rw [e] at hg; cases hg
 | some x =>
   have e : ∃ y : Addr, (if c = lo then some x else (some x).map (fun z => z.add (lo * 1))) = some y ∧ y.block = x.block := by
    split
    · exact ⟨x, rfl, rfl⟩
    · exact ⟨_, rfl, by unfold Addr.add; split <;> rfl⟩
   obtain ⟨y, e1, e2⟩ := e;rw [e1] at hg;simp only [Value.ownBlock] at hg ⊢;rw [← e2]; exact hg
def NumP (v : Value) (b : Bs) (w : World) (e : Ending) (w' : World) : Prop := Below w.heap.size w w' ∧ ((getL b = none ∧ ∃ ev, e = .returned (.tuple #[.int .i64 0, .slice none 0 0, ev]) ∧ FaultIn w' ev 3) ∨
 (∃ n k A N c, getL b = some (n, k) ∧ N = (b.drop k).length ∧ e = .returned (.tuple #[.int .i64 (n : Int), .slice A N c, .nilIface]) ∧ Rb w' (.slice A N c) (b.drop k) ∧ OwnB (.slice A N c) v))
theorem number_any {w : World} {v : Value} {b : Bs} (h : Rb w v b) (hl : b.length ≤ 100000000) : Calls Tryz.prog 161 #[v] w (NumP v b w) := by
 have HG := zh (Get_any w v b (by unfold maxLen; omega) h);obtain ⟨A, c, rfl, hc⟩ := h.shape;have HR := zh h;have HW := zh (z58 [110, 117, 109, 98, 101, 114] w);obtain ⟨N, hN⟩ := zx b.length;have HN := zh hN;rw [← hN] at HG hc hl ⊢;clear h hN;cases hg : getL b with
 | none =>
   rw [hg, gotV_none] at HG;have Hg := zh hg;clear hg
   go_enter Tryz.func161, Tryz.ntmps161
   go_wp2_with fail
   refine HG.out.mono ?_;intro e w' hh;rw [hh.1, ← hh.2];clear hh e w' HG
   go_wp2_with fail
   refine HW.out.mono ?_;rintro e w' ⟨ev, rfl, hf, hb⟩;have HF := zh (And.intro hf hb);clear hf hb HW
   go_wp2
   go_ret3
   exact ⟨HF.out.2, .inl ⟨Hg.out, _, rfl, HF.out.1⟩⟩
 | some x =>
   obtain ⟨n, k⟩ := x;rw [hg, gotV_some] at HG;obtain ⟨_, hk1, hk, _⟩ := getL_some hg;rw [← HN.out] at hk;have Hg := zh hg
   obtain ⟨A1, c1, hs1, hr1, ho1⟩ : ∃ A1 c1, (∀ W, (Instr.sliceAt 23 (.slice A N c) (some (.int .i64 (k : Int))) none none).run Tryz.prog W = .ok (.slice A1 (N - k) c1) W) ∧ Rb w (.slice A1 (N - k) c1) (b.drop k) ∧ OwnB (.slice A1 (N - k) c1) (.slice A N c) :=
    ⟨_, _, fun W => run_cut1 W A N c k hk, by have := HR.out.from' k (by rw [← HN.out]; exact hk); rw [← HN.out] at this; exact this, ownB_cut _ _ _ _ _ _⟩
   have HR' := zh (And.intro hr1 ho1); have HS := zh hs1;clear hr1 hs1 ho1;have hkI : (k : Int) ≤ (N : Int) := by omega
   clear hg
   go_enter Tryz.func161, Tryz.ntmps161
   go_wp2_with fail
   refine HG.out.mono ?_;intro e w' hh;rw [hh.1, ← hh.2];clear hh e w' HG
   go_upto_region 4 with fail
   refine held_start (fun _ : World => True) (by kernel_rfl) ?_;refine held_take 0 (.int .i64 (n : Int)) rfl (by kernel_rfl) (by kernel_rfl) (by kernel_rfl) (fun _ _ _ h => h) (by kernel_rfl) (fun W hW => by kernel_rfl) (trivial) ?_;refine held_take 1 (.slice A N c) rfl (by kernel_rfl) (by kernel_rfl) (by kernel_rfl) (fun _ _ _ h => h) (by kernel_rfl) (fun W hW => by kernel_rfl) (trivial) ?_;refine held_take 2 (.int .i64 (k : Int)) rfl (by kernel_rfl) (by kernel_rfl) (by kernel_rfl) (fun _ _ _ h => h) (by kernel_rfl) (fun W hW => by kernel_rfl) (trivial) ?_;refine held_take 3 (.slice A1 (N - k) c1) rfl (by kernel_rfl) (by kernel_rfl) (by kernel_rfl) (fun _ _ _ h => h) (by kernel_rfl) (fun W hW => y_slice (xv := .slice A N c) (lv := some (.int .i64 (k : Int))) (hv := none) (mv := none) rfl (by kernel_rfl) (by kernel_rfl) (by kernel_rfl) (by kernel_rfl) (HS.out W)) (trivial) ?_;refine held_take 4 (.int .i64 (n : Int)) rfl (by kernel_rfl) (by kernel_rfl) (by kernel_rfl) (fun _ _ _ h => h) (by kernel_rfl) (fun W hW => by kernel_rfl) (trivial) ?_;refine held_take 5 (.slice A1 (N - k) c1) rfl (by kernel_rfl) (by kernel_rfl) (by kernel_rfl) (fun _ _ _ h => h) (by kernel_rfl) (fun W hW => by kernel_rfl) (trivial) ?_;refine held_take 6 (.nilIface) rfl (by kernel_rfl) (by kernel_rfl) (by kernel_rfl) (fun _ _ _ h => h) (by kernel_rfl) (fun W hW => by kernel_rfl) (trivial) ?_;refine held_done _ (by kernel_rfl) ?_;go_simp
   go_wp2
   go_ret3
   exact ⟨(Below.refl _ _).drew, .inr ⟨n, k, _, _, _, Hg.out, by rw [List.length_drop, ← HN.out], rfl, HR'.out.1, HR'.out.2⟩⟩
def NextP (v : Value) (o : Option (Bs × Bs)) (w : World) (e : Ending) (w' : World) : Prop := Below w.heap.size w w' ∧ ((o = none ∧ ∃ ev, e = .returned (.tuple #[.string ⟨#[]⟩, .slice none 0 0, ev]) ∧ FaultIn w' ev 3) ∨
 (∃ p r A N c, o = some (p, r) ∧ N = r.length ∧ e = .returned (.tuple #[.string ⟨p.toArray⟩, .slice A N c, .nilIface]) ∧ Rb w' (.slice A N c) r ∧ OwnB (.slice A N c) v))
theorem NextP.own {v u : Value} {o : Option (Bs × Bs)} {w w' : World} {e : Ending} (h : NextP v o w e w') (k : OwnB v u) : NextP u o w e w' :=
 ⟨h.1, h.2.imp id fun ⟨p, r, A, N, c, h1, h2, h3, h4, h5⟩ => ⟨p, r, A, N, c, h1, h2, h3, h4, h5.trans k⟩⟩
def z7i (base r : Bs) : Option (Bs × Bs) :=
 match getL r with
 | none => none
 | some (f, k) =>
   match getL (r.drop k) with
   | none => none
   | some (n, j) => if n = 0 ∨ base.length < f + n then none else some ((base.drop f).take n, (r.drop k).drop j)
theorem z98 (base r : Bs) : z2n base (128 :: r) = z7i base r := by rw [z2n, if_pos rfl]; rfl
theorem neqFN (v : Value) (w : World) : (binOp .neq 64 (.iface 271 v) .nilIface).run Tryz.prog w = .ok (.bool true) w := by
 go_simp
theorem z7x {w : World} {v : Value} {base b : Bs} (h : Rb w v b) (hl : b.length ≤ 100000000) (hb : base.length ≤ 100000000) : Calls Tryz.prog 174 #[.string ⟨base.toArray⟩, v] w (NextP v (z7i base b) w) := by
 have H1 := zh (number_any h hl);have q1 := neqFN;have HL := zh hl
 go_enter Tryz.func174, Tryz.ntmps174
 go_wp2_with fail
 refine H1.out.mono ?_;clear H1 h hl;rintro e w1 ⟨b1, ⟨hn, ev, rfl, hf⟩ | ⟨f, k, A, N, c, hn, hN, rfl, hr, ho⟩⟩
 · have hf' := hf;obtain ⟨a, x, rfl, _⟩ := hf';have HF : Hid (NextP v (z7i base b) w (.returned (.tuple #[.string ⟨#[]⟩, .slice none 0 0, .iface 271 (.pointer (some ⟨a, 0, none⟩))])) w1) := zh ⟨b1, .inl ⟨by unfold z7i; rw [hn], _, rfl, hf⟩⟩;clear b1 hn hf
   go_wp2
   go_ret3
   exact HF.out
 · have hfle := (getL_some hn).1;have H2 := zh (number_any hr (by rw [List.length_drop]; have := HL.out; omega));have HB1 := zh b1; have Hn := zh hn; have HO1 := zh ho;clear b1 hn hN hr ho
   go_wp2_with fail
   refine H2.out.mono ?_;clear H2;rintro e w2 ⟨b2, ⟨hn2, ev, rfl, hf⟩ | ⟨n, j, A2, N2, c2, hn2, hN2, rfl, hr2, ho2⟩⟩
   · have hf' := hf;obtain ⟨a, x, rfl, _⟩ := hf';have HF : Hid (NextP v (z7i base b) w (.returned (.tuple #[.string ⟨#[]⟩, .slice none 0 0, .iface 271 (.pointer (some ⟨a, 0, none⟩))])) w2) := zh ⟨HB1.out.trans (b2.mono HB1.out.size), .inl ⟨by unfold z7i; rw [Hn.out]; simp only; rw [hn2], _, rfl, hf⟩⟩;clear b2 hn2 hf
     go_wp2
     go_ret3
     exact HF.out
   · have hnle := (getL_some hn2).1;have HC : Hid (z7i base b = if n = 0 ∨ base.length < f + n then none else some ((base.drop f).take n, (b.drop k).drop j)) := zh (by unfold z7i; rw [Hn.out]; simp only; rw [hn2]);have HB2 : Hid (Below w.heap.size w w2) := zh (HB1.out.trans (b2.mono HB1.out.size));have HR2 := zh hr2; have HN2 := zh hN2; have HO2 := zh (ho2.trans HO1.out);clear hn2 b2 hr2 hN2 ho2;by_cases hbad : n = 0 ∨ base.length < f + n
     · have HW := zh (z58 [99, 111, 112, 121] w2);have HC' : Hid (z7i base b = none) := zh (by rw [HC.out, if_pos hbad]);rcases Nat.eq_zero_or_pos n with h0 | h0
       · have d1 : ((n : Int) == 0) = true := by simp only [beq_iff_eq]; omega
         clear hbad h0
         go_wp2_with fail
         refine HW.out.mono ?_;rintro e w3 ⟨ev, rfl, hf, hb3⟩;have HF : Hid (NextP v (z7i base b) w (.returned (.tuple #[.string ⟨#[]⟩, .slice none 0 0, ev])) w3) := zh ⟨HB2.out.trans (hb3.mono HB2.out.size), .inl ⟨HC'.out, _, rfl, hf⟩⟩;clear hf hb3
         go_wp2
         go_ret3
         exact HF.out
       · have d1 : ((n : Int) == 0) = false := by simp only [beq_eq_false_iff_ne, ne_eq]; omega
         have hbg : (base.length : Int) < (f : Int) + (n : Int) := by omega
         clear hbad
         go_wp2_with fail
         refine HW.out.mono ?_;rintro e w3 ⟨ev, rfl, hf, hb3⟩;have HF : Hid (NextP v (z7i base b) w (.returned (.tuple #[.string ⟨#[]⟩, .slice none 0 0, ev])) w3) := zh ⟨HB2.out.trans (hb3.mono HB2.out.size), .inl ⟨HC'.out, _, rfl, hf⟩⟩;clear hf hb3
         go_wp2
         go_ret3
         exact HF.out
     · have d1 : ((n : Int) == 0) = false := by simp only [beq_eq_false_iff_ne, ne_eq]; omega
       have hle : f + n ≤ base.length := by omega
       have hbg : ¬ (base.length : Int) < (f : Int) + (n : Int) := by omega
       have HC' : Hid (z7i base b = some ((base.drop f).take n, (b.drop k).drop j)) := zh (by rw [HC.out, if_neg hbad]);have HX : Hid ((⟨base.toArray⟩ : ByteArray).extract f (f + n) = ⟨((base.drop f).take n).toArray⟩) := zh (by rw [extract_S]; congr 2; rw [List.drop_take]; congr 1; omega);have HS := zh (fun W => cut_two W base ((base.drop f).take n) f (f + n) (by omega) hle HX.out)
       have hs : ∀ W, (Instr.sliceAt 9 (.string ⟨base.toArray⟩) (some (.int .i64 (f : Int))) (some (.int .i64 ((f : Int) + (n : Int)))) none).run Tryz.prog W = .ok (.string ⟨((base.drop f).take n).toArray⟩) W := fun W => by
        have := HS.out W; rwa [Int.natCast_add] at this
       have HF : Hid (NextP v (z7i base b) w (.returned (.tuple #[.string ⟨((base.drop f).take n).toArray⟩, .slice A2 N2 c2, .nilIface])) w2) := zh ⟨HB2.out, .inr ⟨_, _, A2, N2, c2, HC'.out, HN2.out, rfl, HR2.out, HO2.out⟩⟩;clear hbad
       go_wp2_with fail
       go_ret3
       exact HF.out
theorem next_any {w : World} {v : Value} {base b : Bs} (h : Rb w v b) (hne : b ≠ []) (hl : b.length ≤ 100000000) (hb : base.length ≤ 100000000) : Calls Tryz.prog 166 #[.string ⟨base.toArray⟩, v] w (NextP v (z2n base b) w) := by
 obtain ⟨A, c, rfl, hc⟩ := h.shape;obtain ⟨x, r, rfl⟩ : ∃ x r, b = x :: r := by cases b with | nil => exact absurd rfl hne | cons x r => exact ⟨x, r, rfl⟩
 obtain ⟨g, o, hA, cx⟩ : ∃ g o, A = some ⟨g, o, none⟩ ∧ w.cell? ⟨g, o, none⟩ = some (.int .u8 (x.toNat : Int)) := by
  rcases h with ⟨⟨A', e⟩, e2⟩ | ⟨g, o, c', e, _, _, hcell⟩
  · cases e2
  · cases e; exact ⟨g, o, rfl, by have := hcell 0 (by simp); simpa using this⟩
 subst hA;obtain ⟨N, hN⟩ := zx ((x :: r).length);have hNr : N = r.length + 1 := by rw [hN]; simp
 have HR := zh h; have HN := zh hN;rw [← hN] at hc hl ⊢;clear h hne hN;have hN0 : 0 < N := by omega
 have hxl := x.toNat_lt;by_cases hc1 : x = 128
 · subst hc1;have cx : w.cell? ⟨g, o, none⟩ = some (.int .u8 128) := cx;have hr1 := HR.out.from' 1 (by simp);rw [← HN.out] at hr1;rw [show (128 :: r).drop 1 = r from rfl] at hr1;have HNr := zh hNr;by_cases hcc : c = 1
   · subst hcc;obtain rfl : N = 1 := by omega
     have H2 : Hid (Calls Tryz.prog 174 #[.string ⟨base.toArray⟩, .slice (some ⟨g, o, none⟩) 0 0] w (NextP (.slice (some ⟨g, o, none⟩) 0 0) (z2n base (128 :: r)) w)) := zh (by rw [z98]; exact z7x hr1 (by have := HNr.out; omega) hb);have HOv : Hid (OwnB (.slice (some ⟨g, o, none⟩) 0 0) (.slice (some ⟨g, o, none⟩) 1 1)) := zh (fun g hg => hg);clear hr1 hxl hNr
     go_enter Tryz.func166, Tryz.ntmps166
     go_wp2_with fail
     refine H2.out.mono ?_;clear H2;rintro e w1 hh;have HH := zh (hh.own HOv.out);rcases hh with ⟨-, ⟨-, ev, rfl, -⟩ | ⟨p, r2, A2, N2, c2, -, -, rfl, -, -⟩⟩
     · go_wp2
       go_ret3
       exact HH.out
     · go_wp2
       go_ret3
       exact HH.out
   · rw [if_neg hcc] at hr1;have H2 : Hid (Calls Tryz.prog 174 #[.string ⟨base.toArray⟩, .slice (some ⟨g, o + 1, none⟩) (N - 1) (c - 1)] w (NextP (.slice (some ⟨g, o + 1, none⟩) (N - 1) (c - 1)) (z2n base (128 :: r)) w)) := zh (by rw [z98]; exact z7x hr1 (by have := HNr.out; omega) hb);have HOv : Hid (OwnB (.slice (some ⟨g, o + 1, none⟩) (N - 1) (c - 1)) (.slice (some ⟨g, o, none⟩) N c)) := zh (fun g hg => hg);clear hr1 hxl hNr
     go_enter Tryz.func166, Tryz.ntmps166
     go_wp2_with fail
     refine H2.out.mono ?_;clear H2;rintro e w1 hh;have HH := zh (hh.own HOv.out);rcases hh with ⟨-, ⟨-, ev, rfl, -⟩ | ⟨p, r2, A2, N2, c2, -, -, rfl, -, -⟩⟩
     · go_wp2
       go_ret3
       exact HH.out
     · go_wp2
       go_ret3
       exact HH.out
 · have b1 : ((x.toNat : Int) == 128) = false := by simp only [beq_eq_false_iff_ne, ne_eq]; intro e; exact hc1 (UInt8.toNat_inj.1 (by have : (128 : UInt8).toNat = 128 := rfl; omega))
   have hx128 : ¬ x.toNat = 128 := fun e => hc1 (UInt8.toNat_inj.1 e);have hst : z2n base (x :: r) = if x = 0 ∨ 127 < x.toNat ∨ r.length < x.toNat then none else some (r.take x.toNat, r.drop x.toNat) := by rw [z2n, if_neg hc1]
   have HW := zh (z58 [105, 110, 115, 101, 114, 116] w);by_cases hbad : x = 0 ∨ 127 < x.toNat ∨ r.length < x.toNat
   · have HE : Hid (z2n base (x :: r) = none) := zh (by rw [hst, if_pos hbad])
     have hcase : x.toNat = 0 ∨ (x.toNat ≠ 0 ∧ 127 < x.toNat) ∨ (x.toNat ≠ 0 ∧ ¬ 127 < x.toNat ∧ r.length < x.toNat) := by
      have hz : x = 0 ↔ x.toNat = 0 := ⟨fun h => by rw [h]; rfl, fun h => UInt8.toNat_inj.1 h⟩
      rw [hz] at hbad;omega
     obtain ⟨y, hy⟩ := zx x.toNat;rw [← hy] at cx b1 hcase hx128 hxl;clear hst hbad hc1 hy;rcases hcase with h0 | ⟨h0, h1⟩ | ⟨h0, h1, h2⟩
     · subst h0;have cx : w.cell? ⟨g, o, none⟩ = some (.int .u8 0) := cx
       go_enter Tryz.func166, Tryz.ntmps166
       go_wp2_with fail
       refine HW.out.mono ?_;rintro e w3 ⟨ev, rfl, hf, hb3⟩;have HF : Hid (NextP (.slice (some ⟨g, o, none⟩) N c) (z2n base (x :: r)) w (.returned (.tuple #[.string ⟨#[]⟩, .slice none 0 0, ev])) w3) := zh ⟨hb3, .inl ⟨HE.out, _, rfl, hf⟩⟩;clear hf hb3
       go_wp2
       go_ret3
       exact HF.out
     · have d1 : ((y : Int) == 0) = false := by simp only [beq_eq_false_iff_ne, ne_eq]; omega
       go_enter Tryz.func166, Tryz.ntmps166
       go_wp2_with fail
       refine HW.out.mono ?_;rintro e w3 ⟨ev, rfl, hf, hb3⟩;have HF : Hid (NextP (.slice (some ⟨g, o, none⟩) N c) (z2n base (x :: r)) w (.returned (.tuple #[.string ⟨#[]⟩, .slice none 0 0, ev])) w3) := zh ⟨hb3, .inl ⟨HE.out, _, rfl, hf⟩⟩;clear hf hb3
       go_wp2
       go_ret3
       exact HF.out
     · have d1 : ((y : Int) == 0) = false := by simp only [beq_eq_false_iff_ne, ne_eq]; omega
       have d2 : ¬ (127 : Int) < (y : Int) := by omega
       have d3 : (N : Int) < 1 + (y : Int) := by omega
       go_enter Tryz.func166, Tryz.ntmps166
       go_wp2_with fail
       refine HW.out.mono ?_;rintro e w3 ⟨ev, rfl, hf, hb3⟩;have HF : Hid (NextP (.slice (some ⟨g, o, none⟩) N c) (z2n base (x :: r)) w (.returned (.tuple #[.string ⟨#[]⟩, .slice none 0 0, ev])) w3) := zh ⟨hb3, .inl ⟨HE.out, _, rfl, hf⟩⟩;clear hf hb3
       go_wp2
       go_ret3
       exact HF.out
   · obtain ⟨y, hy⟩ := zx x.toNat;have hz : x.toNat ≠ 0 := fun h => hbad (.inl (UInt8.toNat_inj.1 h));have h1 : y ≤ 127 := by omega
     have h2 : y ≤ r.length := by omega
     have h3 : 0 < y := by omega
     obtain ⟨m, hm⟩ := zx (1 + y);have HE : Hid (z2n base (x :: r) = some (r.take y, r.drop y)) := zh (by rw [hst, if_neg hbad, ← hy]);obtain ⟨pc, hpc⟩ := zx (r.take y)
     obtain ⟨A1, c1, hs1, hr1⟩ : ∃ A1 c1, (∀ W, (Instr.sliceAt 23 (.slice (some ⟨g, o, none⟩) N c) (some (.int .i64 1)) (some (.int .i64 (m : Int))) none).run Tryz.prog W = .ok (.slice A1 (m - 1) c1) W) ∧ Rb w (.slice A1 (m - 1) c1) pc :=
      ⟨_, _, fun W => run_cut2 W _ N c 1 m (by omega) (by omega), by
        have := HR.out.cut 1 m (by omega) (by rw [← HN.out]; omega);rw [hm, show 1 + y = y + 1 from Nat.add_comm _ _, List.take_succ_cons, List.drop_succ_cons, List.drop_zero, ← hpc] at this;rw [hm, show 1 + y = y + 1 from Nat.add_comm _ _]; exact this⟩
     obtain ⟨A2, c2, hs2, hr2, ho2⟩ : ∃ A2 c2, (∀ W, (Instr.sliceAt 23 (.slice (some ⟨g, o, none⟩) N c) (some (.int .i64 (m : Int))) none none).run Tryz.prog W = .ok (.slice A2 (N - m) c2) W) ∧ Rb w (.slice A2 (N - m) c2) (r.drop y) ∧ OwnB (.slice A2 (N - m) c2) (.slice (some ⟨g, o, none⟩) N c) :=
      ⟨_, _, fun W => run_cut1 W _ N c m (by omega), by
        have := HR.out.from' m (by rw [← HN.out]; omega);rw [← HN.out] at this;have e : (x :: r).drop m = r.drop y := by rw [hm, show 1 + y = y + 1 from Nat.add_comm _ _, List.drop_succ_cons]
        rw [e] at this;exact this, ownB_cut _ _ _ _ _ _⟩
     have hconv : ∀ W, Rb W (.slice A1 (m - 1) c1) pc → (convert 23 9 (.slice A1 (m - 1) c1)).run Tryz.prog W = .ok (.string ⟨pc.toArray⟩) W := fun W h => h.conv;have HRp : Hid (Rb w.drew (.slice A1 (m - 1) c1) pc) := zh (hr1.below ((Below.refl w.heap.size w).drew) zl);have HF : Hid (NextP (.slice (some ⟨g, o, none⟩) N c) (z2n base (x :: r)) w (.returned (.tuple #[.string ⟨pc.toArray⟩, .slice A2 (N - m) c2, .nilIface])) w.drew) := zh ⟨(Below.refl _ _).drew, .inr ⟨_, _, A2, N - m, c2, by rw [HE.out, hpc], by rw [List.length_drop]; omega, rfl, hr2.below ((Below.refl w.heap.size w).drew) zl, ho2⟩⟩;have HS1 := zh hs1; have HS2 := zh hs2;have d1 : ((y : Int) == 0) = false := by simp only [beq_eq_false_iff_ne, ne_eq]; omega
     have d2 : ¬ (127 : Int) < (y : Int) := by omega
     have d3 : ¬ (N : Int) < 1 + (y : Int) := by omega
     have hmI : (1 : Int) + (y : Int) = (m : Int) := by omega
     rw [← hy] at cx b1;clear hst hbad hc1 hy hz hr1 hr2 ho2 hs1 hs2 hpc hm hx128 hxl hNr
     go_enter Tryz.func166, Tryz.ntmps166
     go_upto_region 6 with fail
     clear cx b1 d1 d2 d3;refine held_start (fun W : World => Rb W (.slice A1 (m - 1) c1) pc) (by kernel_rfl) ?_;refine held_take 0 (.slice (some ⟨g, o, none⟩) N c) rfl (by kernel_rfl) (by kernel_rfl) (by kernel_rfl) (fun _ _ _ h => h) (by kernel_rfl) (fun W hW => by kernel_rfl) (HRp.out) ?_;refine held_take 1 (.int .i64 (m : Int)) rfl (by kernel_rfl) (by kernel_rfl) (by kernel_rfl) (fun _ _ _ h => h) (by kernel_rfl) (fun W hW => by kernel_rfl) (HRp.out) ?_;refine held_take 2 (.slice A1 (m - 1) c1) rfl (by kernel_rfl) (by kernel_rfl) (by kernel_rfl) (fun _ _ _ h => h) (by kernel_rfl) (fun W hW => y_slice (xv := .slice (some ⟨g, o, none⟩) N c) (lv := some (.int .i64 1)) (hv := some (.int .i64 (m : Int))) (mv := none) rfl (by kernel_rfl) (by kernel_rfl) (by kernel_rfl) (by kernel_rfl) (HS1.out W)) (HRp.out) ?_;refine held_take 3 (.string ⟨pc.toArray⟩) rfl (by kernel_rfl) (by kernel_rfl) (by kernel_rfl) (fun _ _ _ h => h) (by kernel_rfl) (fun W hW => y_conv (x := .slice A1 (m - 1) c1) rfl (by kernel_rfl) (hconv W hW)) (HRp.out) ?_;refine held_take 4 (.slice (some ⟨g, o, none⟩) N c) rfl (by kernel_rfl) (by kernel_rfl) (by kernel_rfl) (fun _ _ _ h => h) (by kernel_rfl) (fun W hW => by kernel_rfl) (HRp.out) ?_;refine held_take 5 (.int .i64 (m : Int)) rfl (by kernel_rfl) (by kernel_rfl) (by kernel_rfl) (fun _ _ _ h => h) (by kernel_rfl) (fun W hW => by kernel_rfl) (HRp.out) ?_;refine held_take 6 (.slice A2 (N - m) c2) rfl (by kernel_rfl) (by kernel_rfl) (by kernel_rfl) (fun _ _ _ h => h) (by kernel_rfl) (fun W hW => y_slice (xv := .slice (some ⟨g, o, none⟩) N c) (lv := some (.int .i64 (m : Int))) (hv := none) (mv := none) rfl (by kernel_rfl) (by kernel_rfl) (by kernel_rfl) (by kernel_rfl) (HS2.out W)) (HRp.out) ?_;refine held_take 7 (.string ⟨pc.toArray⟩) rfl (by kernel_rfl) (by kernel_rfl) (by kernel_rfl) (fun _ _ _ h => h) (by kernel_rfl) (fun W hW => by kernel_rfl) (HRp.out) ?_;refine held_take 8 (.slice A2 (N - m) c2) rfl (by kernel_rfl) (by kernel_rfl) (by kernel_rfl) (fun _ _ _ h => h) (by kernel_rfl) (fun W hW => by kernel_rfl) (HRp.out) ?_;refine held_take 9 (.nilIface) rfl (by kernel_rfl) (by kernel_rfl) (by kernel_rfl) (fun _ _ _ h => h) (by kernel_rfl) (fun W hW => by kernel_rfl) (HRp.out) ?_;refine held_done _ (by kernel_rfl) ?_;go_simp
     go_wp2
     go_ret3
     exact HF.out
end Go.Proofs.YtgjddkeogboojaaGreatDoor.Dl
namespace Go.Proofs.YtgjddkeogboojaaGreatDoor.Pk
open Go.Proofs.YtgjddkeogboojaaGreatDoor
open Go Go.RowKit
theorem blk_setCell {W : World} {b i : Nat} {cs : Array Value} {t : TypeId} {fr : Nat × Nat} (h : W.heap[b]? = some (.cells cs t fr)) (v : Value) : (W.setCell ⟨b, i, none⟩ v).heap[b]? = some (.cells (cs.setIfInBounds i v) t fr) := Joins.block_setCell h v
theorem but_setCell (W : World) (A i : Nat) (v : Value) : Dl.But (fun k => k = A) W (W.setCell ⟨A, i, none⟩ v) := (Dl.But.refl (fun k => k = A) W).setCell (p := ⟨A, i, none⟩) rfl v
theorem zm6 {w : World} {a : Option Addr} {N c n : Nat} {s : Bs} (h : Dl.Rb w (.slice a N c) s) (hN : N = s.length) (hn : n ≤ N) : Dl.Rb w (.slice a n c) (s.take n) := by
 have hl : (s.take n).length = n := by rw [List.length_take]; omega
 rcases h with ⟨⟨A, e⟩, rfl⟩ | ⟨g, o, c', e, hc, hg, hcell⟩
 · cases e;obtain rfl : n = 0 := by omega
   exact .inl ⟨⟨_, rfl⟩, by simp⟩
 · cases e;refine .inr ⟨g, o, c, by rw [hl], by omega, hg, fun j hj => ?_⟩;rw [hl] at hj;rw [hcell j (by omega)]
   congr 4
   rw [zg, zg, List.getElem?_take, if_pos hj]
theorem zh1 (W : World) (a : Option Addr) (n c hi : Nat) (h : hi ≤ c) : (Instr.sliceAt 23 (.slice a n c) none (some (.int .i64 (hi : Int))) none).run Tryz.prog W = .ok (.slice a hi c) W := by
 have h1 : (hi : Int) ≤ (c : Int) := by omega
 have h2 : ¬ (c : Int) < (hi : Int) := by omega
 cases a <;> simp [go_sem, h1]
def Rdr (w : World) (r : Nat) (s : Bs) (bad : Bool) : Prop := ∃ A N c, N = s.length ∧ w.heap[r]? = some (.cells #[.slice A N c, .bool bad] 161 (0, 0)) ∧ Dl.Rb w (.slice A N c) s ∧ (0 < N → ∀ g, (Value.slice A N c).ownBlock = some g → g < r)
def RdP (r : Nat) (v : Value) (s : Bs) (bad : Bool) (w : World) (e : Ending) (w' : World) : Prop := e = .returned v ∧ Rdr w' r s bad ∧ Dl.But (fun k => k = r) w w'
theorem Rdr.lt {w : World} {r : Nat} {s : Bs} {bad : Bool} (h : Rdr w r s bad) : r < w.heap.size := by obtain ⟨A, N, c, _, h, _⟩ := h; exact lt_heap h
theorem Rdr.cut {w w' : World} {r N c : Nat} {A : Option Addr} {t : Bs} {bad : Bool} (hk : w.heap[r]? = some (.cells #[.slice A N c, .bool bad] 161 (0, 0))) (ho : 0 < N → ∀ g, (Value.slice A N c).ownBlock = some g → g < r)
 {A1 : Option Addr} {N1 c1 : Nat} (hle : N1 ≤ N) (hN1 : N1 = t.length) (hr : Dl.Rb w (.slice A1 N1 c1) t) (hb : Dl.OwnB (.slice A1 N1 c1) (.slice A N c)) (hw : w' = w.setCell ⟨r, 0, none⟩ (.slice A1 N1 c1)) : Rdr w' r t bad := by
 subst hw;refine ⟨A1, N1, c1, hN1, (blk_setCell hk _).trans rfl, ?_, fun h0 g hg => ho (by omega) g (hb g hg)⟩;rcases Nat.eq_zero_or_pos N1 with h0 | h0
 · have ht : t = [] := List.length_eq_zero_iff.1 (by omega);rcases hr with hr | ⟨g, o, c', e, hc, hg, hcell⟩
   · exact .inl hr
   · cases e;exact .inr ⟨g, o, c1, by rw [← hN1], by omega, by simpa [World.setCell] using hg, fun j hj => by rw [← hN1, h0] at hj; omega⟩
 · rcases hr with hr | ⟨g, o, c', e, hc, hg, hcell⟩
   · exact .inl hr
   · cases e;have hgr : g < r := ho (by omega) g (hb g rfl);refine .inr ⟨g, o, c1, by rw [← hN1], by omega, by simpa [World.setCell] using hg, fun j hj => ?_⟩;rw [(but_setCell w r 0 _).cell (p := ⟨g, o + j, none⟩) hg (show ¬ g = r by omega)];exact hcell j hj
theorem zh2 {w : World} {r : Nat} {s : Bs} {bad : Bool} (h : Rdr w r s bad) : Calls Tryz.prog 97 #[.pointer (some ⟨r, 0, none⟩)] w (RdP r (.tuple #[]) [] true w) := by
 obtain ⟨A, N, c, hN, hk, hr, ho⟩ := h;have c0 : w.cell? ⟨r, 0, none⟩ = some (.slice A N c) := (cell_of_row w r 0 _ _ _ hk).trans rfl;have c1 : w.cell? ⟨r, 1, none⟩ = some (.bool bad) := (cell_of_row w r 1 _ _ _ hk).trans rfl;have f0 : w.frozen? ⟨r, 0, none⟩ = false := by simp [World.frozen?, hk]
 have f1 : w.frozen? ⟨r, 1, none⟩ = false := by simp [World.frozen?, hk]
 have HF : Hid (RdP r (.tuple #[]) [] true w (.returned (.tuple #[])) ((w.setCell ⟨r, 0, none⟩ (.slice none 0 0)).setCell ⟨r, 1, none⟩ (.bool true))) := Lib.hid
  ⟨rfl, ⟨none, 0, 0, rfl, (blk_setCell (blk_setCell hk _) _).trans rfl, .inl ⟨⟨_, rfl⟩, rfl⟩, fun h => by omega⟩, (but_setCell w r 0 _).trans (but_setCell _ r 1 _)⟩
 clear hN hk hr ho
 go_enter Tryz.func97, Tryz.ntmps97
 go_wp2
 go_end0
 exact HF.out
def TxP (r : Nat) (s : Bs) (bad : Bool) (n : Nat) (w : World) (e : Ending) (w' : World) : Prop := (n ≤ s.length ∧ RdP r (SV (s.take n)) (s.drop n) bad w e w') ∨ (s.length < n ∧ RdP r (SV []) [] true w e w')
theorem zh3 {w : World} {r : Nat} {s : Bs} {bad : Bool} (h : Rdr w r s bad) (n : Nat) : Calls Tryz.prog 80 #[.pointer (some ⟨r, 0, none⟩), .int .i64 (n : Int)] w (TxP r s bad n w) := by
 have HFl := zh (zh2 h);obtain ⟨A, N, c, hN, hk, hr, ho⟩ := h;have c0 : w.cell? ⟨r, 0, none⟩ = some (.slice A N c) := (cell_of_row w r 0 _ _ _ hk).trans rfl;have f0 : w.frozen? ⟨r, 0, none⟩ = false := by simp [World.frozen?, hk]
 by_cases hn : n ≤ N
 · have hnI : ¬ (N : Int) < (n : Int) := by omega
   have hc : N ≤ c := by
    obtain ⟨A', c', e, h2⟩ := hr.shape;cases e; omega
   have hs0 := fun W => zh1 W A N c n (by omega);have hrt := zm6 hr hN hn;have hcv := hrt.conv;obtain ⟨t, ht⟩ := zx (s.take n)
   obtain ⟨A1, N1, c1, hs1, hF⟩ : ∃ A1 N1 c1, (∀ W, (Instr.sliceAt 23 (.slice A N c) (some (.int .i64 (n : Int))) none none).run Tryz.prog W = .ok (.slice A1 N1 c1) W) ∧ TxP r s bad n w (.returned (SV t)) (w.setCell ⟨r, 0, none⟩ (.slice A1 N1 c1)) := by
    refine ⟨_, _, _, fun W => Dl.run_cut1 W A N c n hn, .inl ⟨by omega, by rw [ht], ?_, but_setCell w r 0 _⟩⟩;have h1 := Dl.Rb.from' (b := s) (a := A) (c := c) (by rw [← hN]; exact hr) n (by omega);rw [← hN] at h1;exact Rdr.cut hk ho (by omega) (by rw [List.length_drop]; omega) h1 (Dl.ownB_cut _ _ _ _ _ _) rfl
   rw [← ht] at hcv;have HF := zh hF;unfold SV at HF;clear hk hr ho hrt ht hF hc hn HFl hN
   go_enter Tryz.func80, Tryz.ntmps80
   go_wp2
   go_ret
   exact HF.out
 · have hnI : (N : Int) < (n : Int) := by omega
   have Hlt : Hid (s.length < n) := zh (by omega);clear hk hr ho hn hN
   go_enter Tryz.func80, Tryz.ntmps80
   go_wp2_with fail
   refine HFl.out.mono ?_;rintro e w1 ⟨rfl, h1, h2⟩;have HR := zh (And.intro h1 h2);clear h1 h2 HFl c0 f0
   go_wp2_with fail
   go_ret
   exact .inr ⟨Hlt.out, rfl, HR.out.1, HR.out.2⟩
def NmP (r : Nat) (s : Bs) (bad : Bool) (w : World) (e : Ending) (w' : World) : Prop := (∃ n k, Dl.getL s = some (n, k) ∧ RdP r (.int .i64 (n : Int)) (s.drop k) bad w e w') ∨ (Dl.getL s = none ∧ RdP r (.int .i64 0) [] true w e w')
theorem number_any {w : World} {r : Nat} {s : Bs} {bad : Bool} (h : Rdr w r s bad) (hl : s.length ≤ 1000000) : Calls Tryz.prog 81 #[.pointer (some ⟨r, 0, none⟩)] w (NmP r s bad w) := by
 have HFl := zh (zh2 h);obtain ⟨A, N, c, hN, hk, hr, ho⟩ := h;have c0 : w.cell? ⟨r, 0, none⟩ = some (.slice A N c) := (cell_of_row w r 0 _ _ _ hk).trans rfl;have f0 : w.frozen? ⟨r, 0, none⟩ = false := by simp [World.frozen?, hk]
 have HG := zh (Dl.Get_any w _ s (by unfold maxLen; omega) hr);cases hg : Dl.getL s with
 | none =>
   rw [hg, Dl.gotV_none] at HG;have Hg := zh hg;clear hk hr ho hg hN
   go_enter Tryz.func81, Tryz.ntmps81
   go_wp2_with fail
   refine HG.out.mono ?_;intro e w' hh;rw [hh.1, ← hh.2];clear hh e w' HG
   go_wp2_with fail
   refine HFl.out.mono ?_;rintro e w1 ⟨rfl, h1, h2⟩;have HR := zh (And.intro h1 h2);clear h1 h2 HFl c0 f0
   go_wp2_with fail
   go_ret
   exact .inr ⟨Hg.out, rfl, HR.out.1, HR.out.2⟩
 | some x =>
   obtain ⟨n, k⟩ := x;rw [hg, Dl.gotV_some] at HG;obtain ⟨_, hk1, hkl, _⟩ := Dl.getL_some hg;have hkN : k ≤ N := by omega
   obtain ⟨A1, N1, c1, hs1, hF⟩ : ∃ A1 N1 c1, (∀ W, (Instr.sliceAt 23 (.slice A N c) (some (.int .i64 (k : Int))) none none).run Tryz.prog W = .ok (.slice A1 N1 c1) W) ∧ NmP r s bad w (.returned (.int .i64 (n : Int))) (w.setCell ⟨r, 0, none⟩ (.slice A1 N1 c1)) := by
    refine ⟨_, _, _, fun W => Dl.run_cut1 W A N c k hkN, .inl ⟨n, k, hg, rfl, ?_, but_setCell w r 0 _⟩⟩;have h1 := Dl.Rb.from' (b := s) (a := A) (c := c) (by rw [← hN]; exact hr) k (by omega);rw [← hN] at h1;exact Rdr.cut hk ho (by omega) (by rw [List.length_drop]; omega) h1 (Dl.ownB_cut _ _ _ _ _ _) rfl
   have HF := zh hF;clear hk hr ho hg hN hF HFl hkl hk1
   go_enter Tryz.func81, Tryz.ntmps81
   go_wp2_with fail
   refine HG.out.mono ?_;intro e w' hh;rw [hh.1, ← hh.2];clear hh e w' HG
   go_wp2_with fail
   go_ret
   exact HF.out
def numF (s : Bs) (b : Bool) : Nat × Bs × Bool := match Dl.getL s with
 | some (n, k) => (n, s.drop k, b)
 | none => (0, [], true)
def z2q (n : Nat) (s : Bs) (b : Bool) : Bs × Bs × Bool := if n ≤ s.length then (s.take n, s.drop n, b) else ([], [], true)
def z4t : Bs → Nat × Bs × Bool
 | [] => (0, [], true)
 | c :: t => (c.toNat, t, false)
def midF (c : Nat) (s : Bs) (b : Bool) : Nat × Bs × Bs × Bool :=
 if c = 6 then ((numF s b).1, [], (numF s b).2.1, (numF s b).2.2)
 else if c = 7 then (0, (z2q 64 s b).1, (z2q 64 s b).2.1, (z2q 64 s b).2.2)
 else (0, [], s, b)
def entF (s : Bs) : Ent × Bs × Bool :=
 let p1 := z4t s;let p2 := numF p1.2.1 p1.2.2;let p3 := midF p1.1 p2.2.1 p2.2.2;let p4 := z2q p2.1 p3.2.2.1 p3.2.2.2
 (⟨(p1.1 : Int), (p3.1 : Int), p3.2.1, p4.1⟩, p4.2.1, p4.2.2)
theorem z5m (n : Nat) : (z2q n [] true).2.1 = [] ∧ (z2q n [] true).2.2 = true := by
 unfold z2q;by_cases h : n ≤ ([] : Bs).length
 · rw [if_pos h]; simp
 · rw [if_neg h]; simp
theorem zh4 : Dl.getL [] = none := rfl
theorem z6o (c : Nat) : (midF c [] true).2.2.1 = [] ∧ (midF c [] true).2.2.2 = true := by
 unfold midF;by_cases h6 : c = 6
 · rw [if_pos h6]; unfold numF; rw [zh4]; exact ⟨rfl, rfl⟩
 · rw [if_neg h6];by_cases h7 : c = 7
   · rw [if_pos h7]; exact z5m 64
   · rw [if_neg h7]; exact ⟨rfl, rfl⟩
theorem zdj {c : UInt8} {r : Bs} {m : Nat} {x q : Bs} (h : midE c r = some (m, x, q)) : midF c.toNat r false = (m, x, q, false) := by
 unfold midE at h;unfold midF;have e6 : c.toNat = 6 ↔ c = 6 := ⟨fun h => UInt8.toNat_inj.1 (h.trans rfl), fun h => by rw [h]; rfl⟩
 have e7 : c.toNat = 7 ↔ c = 7 := ⟨fun h => UInt8.toNat_inj.1 (h.trans rfl), fun h => by rw [h]; rfl⟩
 by_cases h6 : c = 6
 · rw [if_pos h6] at h;rw [if_pos (e6.2 h6)];unfold numF;cases hg : Dl.getL r with
   | none => rw [hg] at h; cases h
   | some p =>
     obtain ⟨n, k⟩ := p;rw [hg] at h;simp only [Option.map_some, Option.some.injEq, Prod.mk.injEq] at h;obtain ⟨rfl, rfl, rfl⟩ := h;rfl
 · rw [if_neg h6] at h;rw [if_neg (fun h => h6 (e6.1 h))];by_cases h7 : c = 7
   · rw [if_pos h7] at h;rw [if_pos (e7.2 h7)];unfold z2q;split at h
     · cases h
     · rw [if_pos (by omega)];simp only [Option.some.injEq, Prod.mk.injEq] at h;obtain ⟨rfl, rfl, rfl⟩ := h;rfl
   · rw [if_neg h7] at h;rw [if_neg (fun h => h7 (e7.1 h))];simp only [Option.some.injEq, Prod.mk.injEq] at h;obtain ⟨rfl, rfl, rfl⟩ := h;rfl
theorem zm7 {c : UInt8} {r : Bs} (h : midE c r = none) : (midF c.toNat r false).2.2.1 = [] ∧ (midF c.toNat r false).2.2.2 = true := by
 unfold midE at h;unfold midF;have e6 : c.toNat = 6 ↔ c = 6 := ⟨fun h => UInt8.toNat_inj.1 (h.trans rfl), fun h => by rw [h]; rfl⟩
 have e7 : c.toNat = 7 ↔ c = 7 := ⟨fun h => UInt8.toNat_inj.1 (h.trans rfl), fun h => by rw [h]; rfl⟩
 by_cases h6 : c = 6
 · rw [if_pos h6] at h;rw [if_pos (e6.2 h6)];unfold numF;cases hg : Dl.getL r with
   | none => exact ⟨rfl, rfl⟩
   | some p => rw [hg] at h; cases h
 · rw [if_neg h6] at h;rw [if_neg (fun h => h6 (e6.1 h))];by_cases h7 : c = 7
   · rw [if_pos h7] at h;rw [if_pos (e7.2 h7)];unfold z2q;split at h
     · rw [if_neg (by omega)]; exact ⟨rfl, rfl⟩
     · cases h
   · rw [if_neg h7] at h; cases h
theorem zm8 {s : Bs} {e : Ent} {q : Bs} (h : za3 s = some (e, q)) : entF s = (e, q, false) := by
 cases s with
 | nil => cases h
 | cons c r =>
   rw [z5f] at h;cases hg : Dl.getL r with
   | none => rw [hg] at h; cases h
   | some p =>
     obtain ⟨n, k⟩ := p;rw [hg] at h;simp only at h;cases hm : midE c (r.drop k) with
     | none => rw [hm] at h; cases h
     | some p =>
       obtain ⟨m, x, q2⟩ := p;rw [hm] at h;simp only at h;split at h
       · cases h
       · simp only [Option.some.injEq, Prod.mk.injEq] at h;obtain ⟨rfl, rfl⟩ := h;have h1 : numF r false = (n, r.drop k, false) := by unfold numF; rw [hg]
         have h3 : z2q n q2 false = (q2.take n, q2.drop n, false) := by unfold z2q; rw [if_pos (by omega)]
         unfold entF;simp only [z4t, h1, zdj hm, h3]
theorem zm9 {s : Bs} (h : za3 s = none) : (entF s).2.1 = [] ∧ (entF s).2.2 = true := by
 cases s with
 | nil =>
   have h1 : numF [] true = (0, [], true) := by unfold numF; rw [zh4]
   unfold entF;simp only [z4t, h1, (z6o 0).1, (z6o 0).2];exact z5m 0
 | cons c r =>
   rw [z5f] at h;unfold entF;cases hg : Dl.getL r with
   | none =>
     have h1 : numF r false = (0, [], true) := by unfold numF; rw [hg]
     simp only [z4t, h1, (z6o _).1, (z6o _).2];exact z5m 0
   | some p =>
     obtain ⟨n, k⟩ := p;rw [hg] at h;simp only at h;have h1 : numF r false = (n, r.drop k, false) := by unfold numF; rw [hg]
     cases hm : midE c (r.drop k) with
     | none =>
       simp only [z4t, h1, (zm7 hm).1, (zm7 hm).2];exact z5m n
     | some p =>
       obtain ⟨m, x, q2⟩ := p;rw [hm] at h;simp only at h;split at h
       · have h3 : z2q n q2 false = ([], [], true) := by unfold z2q; rw [if_neg (by omega)]
         simp only [z4t, h1, zdj hm, h3];exact ⟨trivial, trivial⟩
       · cases h
theorem Rdr.but {w w' : World} {r : Nat} {s : Bs} {bad : Bool} {S : Nat → Prop} (h : Rdr w r s bad) (hb : Dl.But S w w') (hS : ∀ k, k ≤ r → ¬ S k) : Rdr w' r s bad := by
 obtain ⟨A, N, c, hN, hk, hr, ho⟩ := h;refine ⟨A, N, c, hN, (hb.block r (lt_heap hk) (hS r zl)).trans hk, ?_, ho⟩;rcases hr with hr | ⟨g, o, c', e, hc, hg, hcell⟩
 · exact .inl hr
 · cases e;refine .inr ⟨g, o, c, rfl, hc, Nat.lt_of_lt_of_le hg hb.size, fun j hj => ?_⟩;have := ho (by omega) g rfl;rw [hb.cell (p := ⟨g, o + j, none⟩) hg (hS g (by omega))];exact hcell j hj
theorem zdk {w : World} {r : Nat} {s : Bs} {bad : Bool} (h : Rdr w r s bad) (n : Nat) : Calls Tryz.prog 80 #[.pointer (some ⟨r, 0, none⟩), .int .i64 (n : Int)] w (RdP r (SV (z2q n s bad).1) (z2q n s bad).2.1 (z2q n s bad).2.2 w) :=
 (zh3 h n).mono fun e w' hh => by
   unfold z2q;rcases hh with ⟨hn, hh⟩ | ⟨hn, hh⟩
   · rw [if_pos hn]; exact hh
   · rw [if_neg (by omega)]; exact hh
theorem num_F {w : World} {r : Nat} {s : Bs} {bad : Bool} (h : Rdr w r s bad) (hl : s.length ≤ 1000000) : Calls Tryz.prog 81 #[.pointer (some ⟨r, 0, none⟩)] w (RdP r (.int .i64 ((numF s bad).1 : Int)) (numF s bad).2.1 (numF s bad).2.2 w) :=
 (number_any h hl).mono fun e w' hh => by
   unfold numF;rcases hh with ⟨n, k, hg, hh⟩ | ⟨hg, hh⟩
   · rw [hg]; exact hh
   · rw [hg]; exact hh
theorem byte_any {w : World} {r : Nat} {s : Bs} (h : Rdr w r s false) : Calls Tryz.prog 99 #[.pointer (some ⟨r, 0, none⟩)] w (RdP r (.int .i64 ((z4t s).1 : Int)) (z4t s).2.1 (z4t s).2.2 w) := by
 have HT := zh (zh3 h 1);cases s with
 | nil =>
   clear h
   go_enter Tryz.func99, Tryz.ntmps99
   go_wp2_with fail
   refine HT.out.mono ?_;rintro e w1 (⟨h0, _⟩ | ⟨_, rfl, hr, hb⟩)
   · simp at h0
   · have hr' := hr;obtain ⟨A, N, c, _, hk, _, _⟩ := hr';have c1 : w1.cell? ⟨r, 1, none⟩ = some (.bool true) := (cell_of_row w1 r 1 _ _ _ hk).trans rfl;have HF : Hid (RdP r (.int .i64 ((z4t []).1 : Int)) (z4t []).2.1 (z4t []).2.2 w (.returned (.int .i64 0)) w1) := zh ⟨rfl, hr, hb⟩;unfold SV;clear hr hb hk HT
     go_wp2
     go_ret
     exact HF.out
 | cons x t =>
   clear h
   go_enter Tryz.func99, Tryz.ntmps99
   go_wp2_with fail
   refine HT.out.mono ?_;rintro e w1 (⟨h0, rfl, hr, hb⟩ | ⟨h0, _⟩)
   · have hr' := hr;obtain ⟨A, N, c, _, hk, _, _⟩ := hr';have c1 : w1.cell? ⟨r, 1, none⟩ = some (.bool false) := (cell_of_row w1 r 1 _ _ _ hk).trans rfl;have HF : Hid (RdP r (.int .i64 ((z4t (x :: t)).1 : Int)) (z4t (x :: t)).2.1 (z4t (x :: t)).2.2 w (.returned (.int .i64 (x.toNat : Int))) w1) := zh ⟨rfl, hr, hb⟩;rw [show (x :: t).take 1 = [x] from rfl];unfold SV;clear hr hb hk HT h0
     go_wp2
     go_ret
     have hf := HF.out;rw [← IntWalk.wrap64_in (x.toNat : Int) (by have := x.toNat_lt; omega)] at hf;exact hf
   · simp at h0
end Go.Proofs.YtgjddkeogboojaaGreatDoor.Pk
