/-
  The document's Make.
-/
import Derived.Test.YtbgnemephcbgeaaRIn
import Derived.Test.YtbgnemephcbgeaaRLo
import Derived.Test.YtbgnemephcbgeaaMk
namespace Go.Proofs.Ytbgnemephcbgeaa
open Go Go.RowKit

set_option maxRecDepth 100000 in
set_option maxHeartbeats 1000000 in
theorem RPutO_any (n : Nat) (hn : n ≤ 1099511627776) (w : World) : Calls Try.prog 23 #[.int .i64 (n : Int)] w (InsP w (putL n)) := by
  have O0 := Lib.hid (Ow.nil w w.heap.size)
  have H6 := Lib.hid (putL_len6 hn)
  go_enter Try.func23, Try.ntmps23
  go_wp2
  go_loopw [0, 3] (fun vn b wr => ∃ (m K : Nat) (A : Option Addr) (c : Nat) (pre : List UInt8), m ≤ n ∧ vn = .int .i64 m ∧ b = .slice A K c ∧ Hid (K = pre.length) ∧ Hid (pre ++ putL m = putL n) ∧ Ow wr w.heap.size (.slice A K c) pre ∧ Below w.heap.size w wr) (fun vn _ _ => (intOf vn).toNat)
  case atStart => exact ⟨n, 0, none, 0, [], Nat.le_refl _, rfl, rfl, rfl, rfl, O0.out, Below.refl _ _⟩
  case round =>
    clear O0
    obtain ⟨m, K, A, c, pre, hm, rfl, rfl, hK, hp, ho, hb⟩ := hrel
    have hlen : pre.length + (putL m).length ≤ 6 := by have h := H6.out; rw [← hp.out, List.length_append] at h; exact h
    have hK6 : K ≤ 6 := by rw [hK.out]; omega
    by_cases hlt : 128 ≤ m
    · obtain ⟨x, hx⟩ : ∃ x, x = UInt8.ofNat (m % 128 + 128) := ⟨_, rfl⟩
      have gx : (m : Int) % 128 + 128 = (x.toNat : Int) := by rw [hx, byte_of (by omega)]; omega
      have hpx : (pre ++ [x]) ++ putL (m / 128) = putL n := by rw [← hp.out, putL_hi hlt, hx, List.append_assoc]; rfl
      have Hpx := Lib.hid hpx
      have O1 : Hid (Ow (wr.alloc (.cells #[.int .u8 (x.toNat : Int)] 5)) w.heap.size (.slice A K c) pre) := Lib.hid (ho.below (below_new wr _) (Nat.le_refl _))
      have R1 : Hid (Rb (wr.alloc (.cells #[.int .u8 (x.toNat : Int)] 5)) (.slice (some ⟨wr.heap.size, 0, none⟩) 1 1) [x]) := Lib.hid (rb_one wr x)
      have Q1 : Hid (pre.length + ([x] : List UInt8).length ≤ 140737488355328) := Lib.hid (by simp; omega)
      have L1 : Hid (Below w.heap.size w (wr.alloc (.cells #[.int .u8 (x.toNat : Int)] 5))) := Lib.hid (hb.alloc hb.size _)
      have S1 : Hid (w.heap.size ≤ (wr.alloc (.cells #[.int .u8 (x.toNat : Int)] 5)).heap.size) := Lib.hid L1.out.size
      have HK := Lib.hid hK.out
      clear hx hpx ho hb hlen hp hK
      go_wp2_with (refine wpList_app (o := ⟨some 19, _, _, _, _, _⟩) rfl _ _ rfl w.heap.size _ _ pre [x] rfl rfl O1.out R1.out Q1.out S1.out ?_)
      intro v2 w2 o2 l2
      have L2 := L1.out.trans l2
      obtain ⟨A2, c2, rfl, _⟩ := o2.rb.shape
      clear O1 R1 Q1 S1 L1 l2 gx
      go_wp2
      go_roundw
      case rel => exact ⟨m / 128, _, A2, c2, pre ++ [x], by omega, by go_num, rfl, rfl, Hpx.out, o2, L2⟩
      case measure => simp [intOf]; omega
    · obtain ⟨x, hx⟩ : ∃ x, x = UInt8.ofNat m := ⟨_, rfl⟩
      have gx : IntKind.u8.wrap (m : Int) = (x.toNat : Int) := by rw [hx, byte_of (by omega), IntKind.wrap_u8']; omega
      have hpx : pre ++ [x] = putL n := by rw [← hp.out, putL_lo (by omega), hx]
      have Hpx := Lib.hid hpx
      have O1 : Hid (Ow (wr.alloc (.cells #[.int .u8 (x.toNat : Int)] 5)) w.heap.size (.slice A K c) pre) := Lib.hid (ho.below (below_new wr _) (Nat.le_refl _))
      have R1 : Hid (Rb (wr.alloc (.cells #[.int .u8 (x.toNat : Int)] 5)) (.slice (some ⟨wr.heap.size, 0, none⟩) 1 1) [x]) := Lib.hid (rb_one wr x)
      have Q1 : Hid (pre.length + ([x] : List UInt8).length ≤ 140737488355328) := Lib.hid (by simp; omega)
      have L1 : Hid (Below w.heap.size w (wr.alloc (.cells #[.int .u8 (x.toNat : Int)] 5))) := Lib.hid (hb.alloc hb.size _)
      have S1 : Hid (w.heap.size ≤ (wr.alloc (.cells #[.int .u8 (x.toNat : Int)] 5)).heap.size) := Lib.hid L1.out.size
      clear hx hpx ho hb hlen hp hK
      go_wp2_with (refine wpList_app (o := ⟨some 26, _, _, _, _, _⟩) rfl _ _ rfl w.heap.size _ _ pre [x] rfl rfl O1.out R1.out Q1.out S1.out ?_)
      intro v2 w2 o2 l2
      have L2 := L1.out.trans l2
      rw [Hpx.out] at o2
      obtain ⟨A2, c2, rfl, _⟩ := o2.rb.shape
      have R2 := Lib.hid o2
      clear O1 R1 Q1 S1 L1 l2 gx o2
      go_wp2
      go_ret
      exact ⟨_, rfl, R2.out, L2⟩


theorem pre_len {base text pre m : Bs} (hb : base.length ≤ 10000) (ht : text.length ≤ 10000) (h : pre ++ m = makeL base text) : pre.length ≤ 10000000 := by
  have := makeL_len base text hb ht
  rw [← h, List.length_append] at this; omega

set_option maxHeartbeats 4000000 in
set_option maxRecDepth 100000 in
theorem RMake_any (base text : Bs) (hb : base.length ≤ 10000) (ht : text.length ≤ 10000) (w : World) : Calls Try.prog 13 #[SV base, SV text] w fun e w' => e = .returned (SV (makeL base text)) ∧ Below w.heap.size w w' := by
  have HP := Lib.hid (fun (n : Nat) (hn : n ≤ 1099511627776) W => RPutO_any n hn W)
  have H1 := Lib.hid (HP.out base.length (by omega) w)
  have H2 := Lib.hid (fun W => HP.out text.length (by omega) W)
  have HI := Lib.hid (fun (s : Bs) (hs : s.length ≤ 1000000) W => RInserts_any s hs W)
  have HL := Lib.hid (fun (left : Bs) (hl : left.length ≤ 100000) W => RLongest_any base left (by omega) hl W)
  unfold SV
  go_enter Try.func13, Try.ntmps13
  go_wp2_with fail
  refine H1.out.mono ?_
  rintro e w1 ⟨v1, rfl, o1, b1⟩
  have O1 := Lib.hid o1; have B1 := Lib.hid b1
  clear o1 b1 H1
  go_wp2_with fail
  refine (H2.out _).mono ?_
  rintro e w2 ⟨v2, rfl, o2, b2⟩
  have O2 := Lib.hid (O1.out.below b2 (Nat.le_refl _)); have R2 := Lib.hid o2.rb; have B2 : Hid (Below w.heap.size w w2) := Lib.hid (B1.out.trans (b2.mono B1.out.size))
  have Q2 : Hid ((putL base.length).length + (putL text.length).length ≤ 140737488355328) := Lib.hid (by have := putL_len6 (n := base.length) (by omega); have := putL_len6 (n := text.length) (by omega); omega)
  have S2 : Hid (w.heap.size ≤ w2.heap.size) := Lib.hid B2.out.size
  clear o2 b2 H2 O1 B1
  go_wp2_with (refine wpList_app (o := ⟨some 16, _, _, _, _, _⟩) rfl _ _ rfl w.heap.size _ _ _ _ rfl rfl O2.out R2.out Q2.out S2.out ?_)
  intro v3 w3 o3 b3
  have O3 := Lib.hid o3; have B3 := Lib.hid (B2.out.trans b3)
  clear o3 b3 O2 R2 Q2 S2 B2
  go_wp2
  go_loopw [5, 6, 7, 8, 9] (fun v5 v6 v7 _ _ wr => ∃ (u : Value) (pre off : Bs) (i : Nat), u = v5 ∧ v6 = .string ⟨off.toArray⟩ ∧ v7 = .int .i64 (i : Int) ∧ i ≤ text.length ∧ off.length ≤ i ∧ Hid (pre ++ mkS base off (text.drop i) = makeL base text) ∧ Hid (Ow wr w.heap.size v5 pre) ∧ Hid (Below w.heap.size w wr)) (fun _ _ v7 _ _ _ => text.length - (intOf v7).toNat)
  case atStart => exact ⟨_, _, [], 0, rfl, rfl, rfl, Nat.zero_le _, Nat.zero_le _, Lib.hid rfl, O3, B3⟩
  case round =>
    clear O3 B3
    obtain ⟨u, pre, off, i, h0, rfl, rfl, hi, hoff, HM, HO, HB⟩ := hrel
    subst h0
    have Hpl := Lib.hid (pre_len hb ht HM.out)
    by_cases hlt : i < text.length
    · obtain ⟨left, hleft⟩ : ∃ left, left = text.drop i := ⟨_, rfl⟩
      have hll : left.length = text.length - i := by rw [hleft, List.length_drop]
      have hne : left ≠ [] := by intro e; rw [e] at hll; simp at hll; omega
      have hc0 : ∀ W, (Instr.sliceAt 9 (.string ⟨text.toArray⟩) (some (.int .i64 (i : Int))) none none).run Try.prog W = .ok (.string ⟨left.toArray⟩) W := fun W => cut_from W text left i hi (by rw [extract_S, List.take_length, hleft])
      obtain ⟨x, hx⟩ : ∃ x, x = text[i] := ⟨_, rfl⟩
      have htake : left.take 1 = [x] := by rw [hleft, hx, List.drop_eq_getElem_cons hlt]; rfl
      have hc1 : ∀ W, (Instr.sliceAt 9 (.string ⟨text.toArray⟩) (some (.int .i64 (i : Int))) (some (.int .i64 ((i : Int) + 1))) none).run Try.prog W = .ok (.string ⟨[x].toArray⟩) W := fun W => by
        have := cut_two W text [x] i (i + 1) (by omega) hlt (by rw [extract_S, ← htake, hleft, List.drop_take]; congr 2; congr 1; omega)
        rwa [Int.natCast_add] at this
      have HC1 := Lib.hid hc1
      have HM2 := HM.out
      rw [← hleft] at HM2
      obtain ⟨f, hf⟩ : ∃ f, f = (lng base left).1 := ⟨_, rfl⟩
      obtain ⟨n, hn⟩ : ∃ n, n = (lng base left).2 := ⟨_, rfl⟩
      have hnl := lng_le base left
      have hfn := lng_in base left
      have HLi : Hid (∀ W, Calls Try.prog 24 #[.string ⟨base.toArray⟩, .string ⟨left.toArray⟩] W fun e w' => e = .returned (.tuple #[.int .i64 (f : Int), .int .i64 (n : Int)]) ∧ Below W.heap.size W w') := Lib.hid fun W => by rw [hf, hn]; exact HL.out left (by omega) W
      rw [← hn] at hnl hfn
      rw [← hf] at hfn
      by_cases h5 : n < 5
      · have HG : Hid (pre ++ mkS base (off ++ [x]) (text.drop (i + 1)) = makeL base text) := Lib.hid (by
          rw [← HM2, mkS_lo hne (by rw [← hn]; exact h5), htake, hleft, List.drop_drop])
        clear HM HM2 hleft hll hne hx htake hc1 hf hn
        go_wp2_with fail
        refine (HLi.out _).mono ?_
        rintro e w4 ⟨rfl, b4⟩
        have B4 : Hid (Below w.heap.size w w4) := Lib.hid (HB.out.trans (b4.mono HB.out.size))
        have O4 := Lib.hid (HO.out.below b4 (Nat.le_refl _))
        clear b4 HB HO HLi hc0
        have hc1 := HC1.out
        go_wp2
        go_roundw
        case rel => exact ⟨_, pre, off ++ [x], i + 1, rfl, by rw [← append_S], by go_num, hlt, by simp; omega, HG, O4, B4⟩
        case measure => simp [intOf]; omega
      · have HG : Hid (pre ++ ins off ++ [128] ++ putL f ++ putL n ++ mkS base [] (text.drop (i + n)) = makeL base text) := Lib.hid (by
          rw [← HM2, mkS_hi (left := left) (by rw [← hn]; omega), ← hf, ← hn, hleft, List.drop_drop]; simp)
        have HPf := Lib.hid (fun W => HP.out f (by omega) W)
        have HPn := Lib.hid (fun W => HP.out n (by omega) W)
        have HIo := Lib.hid (fun W => HI.out off (by omega) W)
        have hlo := ins_len _ off (Nat.le_refl _)
        have hlf := putL_len6 (n := f) (by omega)
        have hln := putL_len6 (n := n) (by omega)
        have hin : i + n ≤ text.length := by omega
        have Q5 : Hid (pre.length + (ins off).length ≤ 140737488355328) := Lib.hid (by have := Hpl.out; omega)
        have Q6 : Hid ((pre ++ ins off).length + ([128] : Bs).length ≤ 140737488355328) := Lib.hid (by have := Hpl.out; simp only [List.length_append, List.length_singleton]; omega)
        have Q7 : Hid ((pre ++ ins off ++ [128]).length + (putL f).length ≤ 140737488355328) := Lib.hid (by have := Hpl.out; simp only [List.length_append, List.length_singleton]; omega)
        have Q8 : Hid ((pre ++ ins off ++ [128] ++ putL f).length + (putL n).length ≤ 140737488355328) := Lib.hid (by have := Hpl.out; simp only [List.length_append, List.length_singleton]; omega)
        clear HM HM2 hleft hll hne hx htake hc1 hf hn hlo hlf hln HC1
        go_wp2_with fail
        refine (HLi.out _).mono ?_
        rintro e w4 ⟨rfl, b4⟩
        have B4 : Hid (Below w.heap.size w w4) := Lib.hid (HB.out.trans (b4.mono HB.out.size))
        have O4 := Lib.hid (HO.out.below b4 (Nat.le_refl _))
        clear b4 HB HO HLi hc0
        go_wp2_with fail
        refine (HIo.out _).mono ?_
        rintro e w5 ⟨v5, rfl, o5, b5⟩
        have B5 : Hid (Below w.heap.size w w5) := Lib.hid (B4.out.trans (b5.mono B4.out.size))
        have O5 := Lib.hid (O4.out.below b5 (Nat.le_refl _)); have R5 := Lib.hid o5.rb
        have S5 : Hid (w.heap.size ≤ w5.heap.size) := Lib.hid B5.out.size
        clear o5 b5 B4 O4 HIo
        go_wp2_with (refine wpList_app (o := ⟨some 43, _, _, _, _, _⟩) rfl _ _ rfl w.heap.size _ _ _ _ rfl rfl O5.out R5.out Q5.out S5.out ?_)
        intro v6 w6 o6 b6
        have B6 : Hid (Below w.heap.size w w6) := Lib.hid (B5.out.trans b6)
        obtain ⟨w7, hw7⟩ : ∃ z, z = w6.alloc (.cells #[.int .u8 128] 5) := ⟨_, rfl⟩
        have b7 : Below w6.heap.size w6 w7 := by rw [hw7]; exact below_new _ _
        have B7 : Hid (Below w.heap.size w w7) := Lib.hid (B6.out.trans (b7.mono B6.out.size))
        have O7 := Lib.hid (o6.below b7 (Nat.le_refl _))
        have R7 : Hid (Rb w7 (.slice (some ⟨w6.heap.size, 0, none⟩) 1 1) [128]) := Lib.hid (by rw [hw7]; exact rb_one w6 128)
        have S7 : Hid (w.heap.size ≤ w7.heap.size) := Lib.hid B7.out.size
        clear o6 b6 b7 B5 O5 R5 S5 Q5 B6
        subst hw7
        go_wp2_with (refine wpList_app (o := ⟨some 46, _, _, _, _, _⟩) rfl _ _ rfl w.heap.size _ _ _ _ rfl rfl O7.out R7.out Q6.out S7.out ?_)
        intro v8 w8 o8 b8
        have B8 : Hid (Below w.heap.size w w8) := Lib.hid (B7.out.trans b8)
        have O8 : Hid (Ow w8 w.heap.size v8 (pre ++ ins off ++ [128])) := Lib.hid (by simpa only [List.append_assoc, List.cons_append, List.nil_append, List.singleton_append] using o8)
        clear o8 b8 B7 O7 R7 S7 Q6
        go_wp2_with fail
        refine (HPf.out _).mono ?_
        rintro e w9 ⟨v9, rfl, o9, b9⟩
        have B9 : Hid (Below w.heap.size w w9) := Lib.hid (B8.out.trans (b9.mono B8.out.size))
        have O9 := Lib.hid (O8.out.below b9 (Nat.le_refl _)); have R9 := Lib.hid o9.rb
        have S9 : Hid (w.heap.size ≤ w9.heap.size) := Lib.hid B9.out.size
        clear o9 b9 B8 O8 HPf
        go_wp2_with (refine wpList_app (o := ⟨some 50, _, _, _, _, _⟩) rfl _ _ rfl w.heap.size _ _ _ _ rfl rfl O9.out R9.out Q7.out S9.out ?_)
        intro va wa oa ba
        have Ba : Hid (Below w.heap.size w wa) := Lib.hid (B9.out.trans ba)
        have Oa : Hid (Ow wa w.heap.size va (pre ++ ins off ++ [128] ++ putL f)) := Lib.hid (by simpa only [List.append_assoc, List.cons_append, List.nil_append, List.singleton_append] using oa)
        clear oa ba B9 O9 R9 S9 Q7
        go_wp2_with fail
        refine (HPn.out _).mono ?_
        rintro e wb ⟨vb, rfl, ob, bb⟩
        have Bb : Hid (Below w.heap.size w wb) := Lib.hid (Ba.out.trans (bb.mono Ba.out.size))
        have Ob := Lib.hid (Oa.out.below bb (Nat.le_refl _)); have Rb' := Lib.hid ob.rb
        have Sb : Hid (w.heap.size ≤ wb.heap.size) := Lib.hid Bb.out.size
        clear ob bb Ba Oa HPn
        go_wp2_with (refine wpList_app (o := ⟨some 54, _, _, _, _, _⟩) rfl _ _ rfl w.heap.size _ _ _ _ rfl rfl Ob.out Rb'.out Q8.out Sb.out ?_)
        intro vc wc oc bc
        have Bc : Hid (Below w.heap.size w wc) := Lib.hid (Bb.out.trans bc)
        have Oc : Hid (Ow wc w.heap.size vc (pre ++ ins off ++ [128] ++ putL f ++ putL n)) := Lib.hid (by simpa only [List.append_assoc, List.cons_append, List.nil_append, List.singleton_append] using oc)
        clear oc bc Bb Ob Rb' Sb Q8
        go_wp2
        go_roundw
        case rel => exact ⟨_, _, [], i + n, rfl, rfl, by go_num, hin, Nat.zero_le _, HG, Oc, Bc⟩
        case measure => simp [intOf]; omega
    · have hie : text.drop i = [] := List.drop_eq_nil_of_le (by omega)
      have HG : Hid (pre ++ ins off = makeL base text) := Lib.hid (by rw [← HM.out, hie, mkS_nil])
      have HIo := Lib.hid (fun W => HI.out off (by omega) W)
      have hlo := ins_len _ off (Nat.le_refl _)
      have Q5 : Hid (pre.length + (ins off).length ≤ 140737488355328) := Lib.hid (by have := Hpl.out; omega)
      clear hie HM hlo
      go_wp2_with fail
      refine (HIo.out _).mono ?_
      rintro e w5 ⟨v5, rfl, o5, b5⟩
      have B5 : Hid (Below w.heap.size w w5) := Lib.hid (HB.out.trans (b5.mono HB.out.size))
      have O5 := Lib.hid (HO.out.below b5 (Nat.le_refl _)); have R5 := Lib.hid o5.rb
      have S5 : Hid (w.heap.size ≤ w5.heap.size) := Lib.hid B5.out.size
      clear o5 b5 HB HO HIo
      go_wp2_with (refine wpList_app (o := ⟨some 61, _, _, _, _, _⟩) rfl _ _ rfl w.heap.size _ _ _ _ rfl rfl O5.out R5.out Q5.out S5.out ?_)
      intro v6 w6 o6 b6
      have B6 : Hid (Below w.heap.size w w6) := Lib.hid (B5.out.trans b6)
      have cv := o6.rb.conv
      rw [HG.out] at cv
      clear o6 b6 B5 O5 R5 S5 Q5 HG
      go_wp2
      go_ret
      exact ⟨rfl, B6.out⟩
end Go.Proofs.Ytbgnemephcbgeaa
