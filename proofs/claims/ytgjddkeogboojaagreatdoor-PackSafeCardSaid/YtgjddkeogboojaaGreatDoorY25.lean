/-
  The document's Make. The head: a live question, whose answer is fixed. What comes in: objects with their names, objects, texts, as they read.
  Plain: whole entries of a set's objects, and one of them made a delta of another one.
  Write
-/
import Derived.Test.YtgjddkeogboojaaGreatDoorY24
import Derived.Test.YtgjddkeogboojaaGreatDoorY13
import Derived.Test.YtgjddkeogboojaaGreatDoorY18
import Derived.Test.YtgjddkeogboojaaGreatDoorY19
import Derived.Deep.Slices
import Derived.ChangeArms
import Derived.DataShut
import Derived.SizedLaws
import Derived.Test.YtgjddkeogboojaaGreatDoorY21
import Derived.Shelf.Strings.BuilderK
set_option maxHeartbeats 16000000
set_option maxRecDepth 100000
namespace Go.Proofs.YtgjddkeogboojaaGreatDoor.Dl
open Go Go.RowKit
theorem zo3 (n : Nat) (hn : n ≤ 1099511627776) (w : World) : Calls Tryz.prog 31 #[.int .i64 (n : Int)] w (InsP w (putL n)) := by
 have O0 := zh (Ow.nil w w.heap.size);have H6 := zh (putL_len6 hn)
 go_enter Tryz.func31, Tryz.ntmps31
 go_wp2
 go_loopw [0, 3] (fun vn b wr => ∃ (m K : Nat) (A : Option Addr) (c : Nat) (pre : zB), m ≤ n ∧ vn = .int .i64 m ∧ b = .slice A K c ∧ Hid (K = pre.length) ∧ Hid (pre ++ putL m = putL n) ∧ Ow wr w.heap.size (.slice A K c) pre ∧ Below w.heap.size w wr) (fun vn _ _ => (intOf vn).toNat)
 case atStart => exact ⟨n, 0, none, 0, [], Nat.le_refl _, rfl, rfl, rfl, rfl, O0.out, Below.refl _ _⟩
 case round =>
  clear O0;obtain ⟨m, K, A, c, pre, hm, rfl, rfl, hK, hp, ho, hb⟩ := hrel;have hlen : pre.length + (putL m).length ≤ 6 := by have h := H6.out; rw [← hp.out, List.length_append] at h; exact h
  have hK6 : K ≤ 6 := by rw [hK.out]; omega
  by_cases hlt : 128 ≤ m
  · obtain ⟨x, hx⟩ := zx (UInt8.ofNat (m % 128 + 128));have gx : (m : Int) % 128 + 128 = (x.toNat : Int) := by rw [hx, byte_of (by omega)]; omega
    have hpx : (pre ++ [x]) ++ putL (m / 128) = putL n := by rw [← hp.out, z8n hlt, hx, List.append_assoc]; rfl
    have Hpx := zh hpx;have O1 : Hid (Ow (wr.alloc (.cells #[.int .u8 (x.toNat : Int)] 5)) w.heap.size (.slice A K c) pre) := zh (ho.below (below_new wr _) zl);have R1 : Hid (Rb (wr.alloc (.cells #[.int .u8 (x.toNat : Int)] 5)) (.slice (some ⟨wr.heap.size, 0, none⟩) 1 1) [x]) := zh (rb_one wr x);have Q1 : Hid (pre.length + ([x] : zB).length ≤ 140737488355328) := zh (by simp; omega);have L1 : Hid (Below w.heap.size w (wr.alloc (.cells #[.int .u8 (x.toNat : Int)] 5))) := zh (hb.alloc hb.size _);have S1 : Hid (w.heap.size ≤ (wr.alloc (.cells #[.int .u8 (x.toNat : Int)] 5)).heap.size) := zh L1.out.size;have HK := zh hK.out;clear hx hpx ho hb hlen hp hK
    go_wp2_with (refine wpList_app (o := ⟨some 19, _, _, _, _, _⟩) rfl _ _ rfl w.heap.size _ _ pre [x] rfl rfl O1.out R1.out Q1.out S1.out ?_)
    intro v2 w2 o2 l2;have L2 := L1.out.trans l2;obtain ⟨A2, c2, rfl, _⟩ := o2.rb.shape;clear O1 R1 Q1 S1 L1 l2 gx
    go_wp2
    go_roundw
    case rel => exact ⟨m / 128, _, A2, c2, pre ++ [x], by omega, by go_num, rfl, rfl, Hpx.out, o2, L2⟩
    case measure => simp [intOf]; omega
  · obtain ⟨x, hx⟩ := zx (UInt8.ofNat m);have gx : IntKind.u8.wrap (m : Int) = (x.toNat : Int) := by rw [hx, byte_of (by omega), IntKind.wrap_u8']; omega
    have hpx : pre ++ [x] = putL n := by rw [← hp.out, z8m (by omega), hx]
    have Hpx := zh hpx;have O1 : Hid (Ow (wr.alloc (.cells #[.int .u8 (x.toNat : Int)] 5)) w.heap.size (.slice A K c) pre) := zh (ho.below (below_new wr _) zl);have R1 : Hid (Rb (wr.alloc (.cells #[.int .u8 (x.toNat : Int)] 5)) (.slice (some ⟨wr.heap.size, 0, none⟩) 1 1) [x]) := zh (rb_one wr x);have Q1 : Hid (pre.length + ([x] : zB).length ≤ 140737488355328) := zh (by simp; omega);have L1 : Hid (Below w.heap.size w (wr.alloc (.cells #[.int .u8 (x.toNat : Int)] 5))) := zh (hb.alloc hb.size _);have S1 : Hid (w.heap.size ≤ (wr.alloc (.cells #[.int .u8 (x.toNat : Int)] 5)).heap.size) := zh L1.out.size;clear hx hpx ho hb hlen hp hK
    go_wp2_with (refine wpList_app (o := ⟨some 26, _, _, _, _, _⟩) rfl _ _ rfl w.heap.size _ _ pre [x] rfl rfl O1.out R1.out Q1.out S1.out ?_)
    intro v2 w2 o2 l2;have L2 := L1.out.trans l2;rw [Hpx.out] at o2;obtain ⟨A2, c2, rfl, _⟩ := o2.rb.shape;have R2 := zh o2;clear O1 R1 Q1 S1 L1 l2 gx o2
    go_wp2
    go_ret
    exact ⟨_, rfl, R2.out, L2⟩
theorem pre_len {base text pre m : Bs} (hb : base.length ≤ 10000) (ht : text.length ≤ 10000) (h : pre ++ m = makeL base text) : pre.length ≤ 10000000 := by
 have := zm3 base text hb ht;rw [← h, List.length_append] at this; omega
theorem RMake_any (base text : Bs) (hb : base.length ≤ 10000) (ht : text.length ≤ 10000) (w : World) : Calls Tryz.prog 23 #[SV base, SV text] w fun e w' => e = .returned (SV (makeL base text)) ∧ Below w.heap.size w w' := by
 have HP := zh (fun (n : Nat) (hn : n ≤ 1099511627776) W => zo3 n hn W);have H1 := zh (HP.out base.length (by omega) w);have H2 := zh (fun W => HP.out text.length (by omega) W);have HI := zh (fun (s : Bs) (hs : s.length ≤ 1000000) W => zea s hs W);have HL := zh (fun (left : Bs) (hl : left.length ≤ 100000) W => zeb base left (by omega) hl W);unfold SV
 go_enter Tryz.func23, Tryz.ntmps23
 go_wp2_with fail
 refine H1.out.mono ?_;rintro e w1 ⟨v1, rfl, o1, b1⟩;have O1 := zh o1; have B1 := zh b1;clear o1 b1 H1
 go_wp2_with fail
 refine (H2.out _).mono ?_;rintro e w2 ⟨v2, rfl, o2, b2⟩;have O2 := zh (O1.out.below b2 zl); have R2 := zh o2.rb; have B2 : Hid (Below w.heap.size w w2) := zh (B1.out.trans (b2.mono B1.out.size));have Q2 : Hid ((putL base.length).length + (putL text.length).length ≤ 140737488355328) := zh (by have := putL_len6 (n := base.length) (by omega); have := putL_len6 (n := text.length) (by omega); omega);have S2 : Hid (w.heap.size ≤ w2.heap.size) := zh B2.out.size;clear o2 b2 H2 O1 B1
 go_wp2_with (refine wpList_app (o := ⟨some 16, _, _, _, _, _⟩) rfl _ _ rfl w.heap.size _ _ _ _ rfl rfl O2.out R2.out Q2.out S2.out ?_)
 intro v3 w3 o3 b3;have O3 := zh o3; have B3 := zh (B2.out.trans b3);clear o3 b3 O2 R2 Q2 S2 B2
 go_wp2
 go_loopw [5, 6, 7, 8, 9] (fun v5 v6 v7 _ _ wr => ∃ (u : Value) (pre off : Bs) (i : Nat), u = v5 ∧ v6 = .string ⟨off.toArray⟩ ∧ v7 = .int .i64 (i : Int) ∧ i ≤ text.length ∧ off.length ≤ i ∧ Hid (pre ++ mkS base off (text.drop i) = makeL base text) ∧ Hid (Ow wr w.heap.size v5 pre) ∧ Hid (Below w.heap.size w wr)) (fun _ _ v7 _ _ _ => text.length - (intOf v7).toNat)
 case atStart => exact ⟨_, _, [], 0, rfl, rfl, rfl, Nat.zero_le _, Nat.zero_le _, zh rfl, O3, B3⟩
 case round =>
  clear O3 B3;obtain ⟨u, pre, off, i, h0, rfl, rfl, hi, hoff, HM, HO, HB⟩ := hrel;subst h0;have Hpl := zh (pre_len hb ht HM.out);by_cases hlt : i < text.length
  · obtain ⟨left, hleft⟩ := zx (text.drop i);have hll : left.length = text.length - i := by rw [hleft, List.length_drop]
    have hne : left ≠ [] := by intro e; rw [e] at hll; simp at hll; omega
    have hc0 : ∀ W, (Instr.sliceAt 9 (.string ⟨text.toArray⟩) (some (.int .i64 (i : Int))) none none).run Tryz.prog W = .ok (.string ⟨left.toArray⟩) W := fun W => cut_from W text left i hi (by rw [extract_S, List.take_length, hleft]);obtain ⟨x, hx⟩ := zx (text[i]);have htake : left.take 1 = [x] := by rw [hleft, hx, List.drop_eq_getElem_cons hlt]; rfl
    have hc1 : ∀ W, (Instr.sliceAt 9 (.string ⟨text.toArray⟩) (some (.int .i64 (i : Int))) (some (.int .i64 ((i : Int) + 1))) none).run Tryz.prog W = .ok (.string ⟨[x].toArray⟩) W := fun W => by
     have := cut_two W text [x] i (i + 1) (by omega) hlt (by rw [extract_S, ← htake, hleft, List.drop_take]; congr 2; congr 1; omega)
     rwa [Int.natCast_add] at this
    have HC1 := zh hc1;have HM2 := HM.out;rw [← hleft] at HM2;obtain ⟨f, hf⟩ := zx ((lng base left).1);obtain ⟨n, hn⟩ := zx ((lng base left).2);have hnl := zk2 base left;have hfn := zk3 base left;have HLi : Hid (∀ W, Calls Tryz.prog 45 #[.string ⟨base.toArray⟩, .string ⟨left.toArray⟩] W fun e w' => e = .returned (.tuple #[.int .i64 (f : Int), .int .i64 (n : Int)]) ∧ Below W.heap.size W w') := zh fun W => by rw [hf, hn]; exact HL.out left (by omega) W
    rw [← hn] at hnl hfn;rw [← hf] at hfn;by_cases h5 : n < 5
    · have HG : Hid (pre ++ mkS base (off ++ [x]) (text.drop (i + 1)) = makeL base text) := zh (by
       rw [← HM2, zk4 hne (by rw [← hn]; exact h5), htake, hleft, List.drop_drop])
      clear HM HM2 hleft hll hne hx htake hc1 hf hn
      go_wp2_with fail
      refine (HLi.out _).mono ?_;rintro e w4 ⟨rfl, b4⟩;have B4 : Hid (Below w.heap.size w w4) := zh (HB.out.trans (b4.mono HB.out.size));have O4 := zh (HO.out.below b4 zl);clear b4 HB HO HLi hc0;have hc1 := HC1.out
      go_wp2
      go_roundw
      case rel => exact ⟨_, pre, off ++ [x], i + 1, rfl, by rw [← append_S], by go_num, hlt, by simp; omega, HG, O4, B4⟩
      case measure => simp [intOf]; omega
    · have HG : Hid (pre ++ ins off ++ [128] ++ putL f ++ putL n ++ mkS base [] (text.drop (i + n)) = makeL base text) := zh (by
       rw [← HM2, zk5 (left := left) (by rw [← hn]; omega), ← hf, ← hn, hleft, List.drop_drop]; simp)
      have HPf := zh (fun W => HP.out f (by omega) W);have HPn := zh (fun W => HP.out n (by omega) W);have HIo := zh (fun W => HI.out off (by omega) W);have hlo := z5y _ off zl;have hlf := putL_len6 (n := f) (by omega);have hln := putL_len6 (n := n) (by omega);have hin : i + n ≤ text.length := by omega
      have Q5 : Hid (pre.length + (ins off).length ≤ 140737488355328) := zh (by have := Hpl.out; omega);have Q6 : Hid ((pre ++ ins off).length + ([128] : Bs).length ≤ 140737488355328) := zh (by have := Hpl.out; simp only [List.length_append, List.length_singleton]; omega);have Q7 : Hid ((pre ++ ins off ++ [128]).length + (putL f).length ≤ 140737488355328) := zh (by have := Hpl.out; simp only [List.length_append, List.length_singleton]; omega);have Q8 : Hid ((pre ++ ins off ++ [128] ++ putL f).length + (putL n).length ≤ 140737488355328) := zh (by have := Hpl.out; simp only [List.length_append, List.length_singleton]; omega);clear HM HM2 hleft hll hne hx htake hc1 hf hn hlo hlf hln HC1
      go_wp2_with fail
      refine (HLi.out _).mono ?_;rintro e w4 ⟨rfl, b4⟩;have B4 : Hid (Below w.heap.size w w4) := zh (HB.out.trans (b4.mono HB.out.size));have O4 := zh (HO.out.below b4 zl);clear b4 HB HO HLi hc0
      go_wp2_with fail
      refine (HIo.out _).mono ?_;rintro e w5 ⟨v5, rfl, o5, b5⟩;have B5 : Hid (Below w.heap.size w w5) := zh (B4.out.trans (b5.mono B4.out.size));have O5 := zh (O4.out.below b5 zl); have R5 := zh o5.rb;have S5 : Hid (w.heap.size ≤ w5.heap.size) := zh B5.out.size;clear o5 b5 B4 O4 HIo
      go_wp2_with (refine wpList_app (o := ⟨some 43, _, _, _, _, _⟩) rfl _ _ rfl w.heap.size _ _ _ _ rfl rfl O5.out R5.out Q5.out S5.out ?_)
      intro v6 w6 o6 b6;have B6 : Hid (Below w.heap.size w w6) := zh (B5.out.trans b6);obtain ⟨w7, hw7⟩ := zx (w6.alloc (.cells #[.int .u8 128] 5));have b7 : Below w6.heap.size w6 w7 := by rw [hw7]; exact below_new _ _
      have B7 : Hid (Below w.heap.size w w7) := zh (B6.out.trans (b7.mono B6.out.size));have O7 := zh (o6.below b7 zl);have R7 : Hid (Rb w7 (.slice (some ⟨w6.heap.size, 0, none⟩) 1 1) [128]) := zh (by rw [hw7]; exact rb_one w6 128);have S7 : Hid (w.heap.size ≤ w7.heap.size) := zh B7.out.size;clear o6 b6 b7 B5 O5 R5 S5 Q5 B6;subst hw7
      go_wp2_with (refine wpList_app (o := ⟨some 46, _, _, _, _, _⟩) rfl _ _ rfl w.heap.size _ _ _ _ rfl rfl O7.out R7.out Q6.out S7.out ?_)
      intro v8 w8 o8 b8;have B8 : Hid (Below w.heap.size w w8) := zh (B7.out.trans b8);have O8 : Hid (Ow w8 w.heap.size v8 (pre ++ ins off ++ [128])) := zh (by simpa only [List.append_assoc, List.cons_append, List.nil_append, List.singleton_append] using o8);clear o8 b8 B7 O7 R7 S7 Q6
      go_wp2_with fail
      refine (HPf.out _).mono ?_;rintro e w9 ⟨v9, rfl, o9, b9⟩;have B9 : Hid (Below w.heap.size w w9) := zh (B8.out.trans (b9.mono B8.out.size));have O9 := zh (O8.out.below b9 zl); have R9 := zh o9.rb;have S9 : Hid (w.heap.size ≤ w9.heap.size) := zh B9.out.size;clear o9 b9 B8 O8 HPf
      go_wp2_with (refine wpList_app (o := ⟨some 50, _, _, _, _, _⟩) rfl _ _ rfl w.heap.size _ _ _ _ rfl rfl O9.out R9.out Q7.out S9.out ?_)
      intro va wa oa ba;have Ba : Hid (Below w.heap.size w wa) := zh (B9.out.trans ba);have Oa : Hid (Ow wa w.heap.size va (pre ++ ins off ++ [128] ++ putL f)) := zh (by simpa only [List.append_assoc, List.cons_append, List.nil_append, List.singleton_append] using oa);clear oa ba B9 O9 R9 S9 Q7
      go_wp2_with fail
      refine (HPn.out _).mono ?_;rintro e wb ⟨vb, rfl, ob, bb⟩;have Bb : Hid (Below w.heap.size w wb) := zh (Ba.out.trans (bb.mono Ba.out.size));have Ob := zh (Oa.out.below bb zl); have Rb' := zh ob.rb;have Sb : Hid (w.heap.size ≤ wb.heap.size) := zh Bb.out.size;clear ob bb Ba Oa HPn
      go_wp2_with (refine wpList_app (o := ⟨some 54, _, _, _, _, _⟩) rfl _ _ rfl w.heap.size _ _ _ _ rfl rfl Ob.out Rb'.out Q8.out Sb.out ?_)
      intro vc wc oc bc;have Bc : Hid (Below w.heap.size w wc) := zh (Bb.out.trans bc);have Oc : Hid (Ow wc w.heap.size vc (pre ++ ins off ++ [128] ++ putL f ++ putL n)) := zh (by simpa only [List.append_assoc, List.cons_append, List.nil_append, List.singleton_append] using oc);clear oc bc Bb Ob Rb' Sb Q8
      go_wp2
      go_roundw
      case rel => exact ⟨_, _, [], i + n, rfl, rfl, by go_num, hin, Nat.zero_le _, HG, Oc, Bc⟩
      case measure => simp [intOf]; omega
  · have hie : text.drop i = [] := List.drop_eq_nil_of_le (by omega);have HG : Hid (pre ++ ins off = makeL base text) := zh (by rw [← HM.out, hie, zeo]);have HIo := zh (fun W => HI.out off (by omega) W);have hlo := z5y _ off zl;have Q5 : Hid (pre.length + (ins off).length ≤ 140737488355328) := zh (by have := Hpl.out; omega);clear hie HM hlo
    go_wp2_with fail
    refine (HIo.out _).mono ?_;rintro e w5 ⟨v5, rfl, o5, b5⟩;have B5 : Hid (Below w.heap.size w w5) := zh (HB.out.trans (b5.mono HB.out.size));have O5 := zh (HO.out.below b5 zl); have R5 := zh o5.rb;have S5 : Hid (w.heap.size ≤ w5.heap.size) := zh B5.out.size;clear o5 b5 HB HO HIo
    go_wp2_with (refine wpList_app (o := ⟨some 61, _, _, _, _, _⟩) rfl _ _ rfl w.heap.size _ _ _ _ rfl rfl O5.out R5.out Q5.out S5.out ?_)
    intro v6 w6 o6 b6;have B6 : Hid (Below w.heap.size w w6) := zh (B5.out.trans b6);have cv := o6.rb.conv;rw [HG.out] at cv;clear o6 b6 B5 O5 R5 S5 Q5 HG
    go_wp2
    go_ret
    exact ⟨rfl, B6.out⟩
end Go.Proofs.YtgjddkeogboojaaGreatDoor.Dl
namespace Go.Proofs.YtgjddkeogboojaaGreatDoor.Pk
open Go.Proofs.YtgjddkeogboojaaGreatDoor
open Go Go.RowKit Go.Maps
theorem u8_all {p : UInt8 → Bool} (h : ∀ n : Fin 256, p (UInt8.ofFin n) = true) (c : UInt8) : p c = true := by have := h c.toFin; simpa using this
theorem zbb (c : UInt8) : isD (hexD (c / 16)) = true ∧ isD (hexD (c % 16)) = true := by
 have h : (isD (hexD (c / 16)) && isD (hexD (c % 16))) = true := u8_all (p := fun c => isD (hexD (c / 16)) && isD (hexD (c % 16))) (by decide +kernel) c;simpa using h
theorem z9s (l : zB) : z0c (z3u l) = true := by
 unfold z0c;rw [z4u];simp only [beq_self_eq_true, Bool.true_and];unfold z3u;generalize sumL l = s
 induction s with
 | nil => rfl
 | cons c s ih => simp only [List.flatMap_cons, List.all_append, ih, List.all_cons, List.all_nil, (zbb c).1, (zbb c).2, Bool.and_true]
structure Wd (w : World) : Prop where
 ob : Ob w
 et : Et w
theorem Wd.below {w w' : World} (h : Wd w) (hb : Below w.heap.size w w') : Wd w' := ⟨h.ob.below hb, z6n h.et hb⟩
theorem z5p {l : List Ent} (h : ∀ e ∈ l, e.base.length ≤ 1000000) : ∀ x ∈ z0x l, x.length ≤ 1000000 := fun x hx => by
 obtain ⟨e, he, rfl⟩ := List.mem_map.1 hx;exact h e (List.mem_filter.1 he).1
theorem z9t {w : World} {v : Value} {l : List Ent} (h : EntsR w v l) (hs : Smal l) (hd : ∀ e ∈ l, e.data.length ≤ 10000) (hw : Wd w) : Calls Tryz.prog 21 #[v, .slice none 0 0] w (RsOP l [] w) :=
 z9p h hs hd (fun x hx => by cases hx) hw.ob hw.et fun hr w1 b1 => zb5 (h.below b1 zl) (z0h.1 hr).1 (z5p fun e he => (hs.2 e he).1)
theorem Deep_nil {w : World} {v : Value} {l : List Ent} (h : EntsR w v l) (hs : Smal l) (hd : ∀ e ∈ l, e.data.length ≤ 10000) (hw : Wd w) : Calls Tryz.prog 22 #[v, .slice none 0 0] w (RsIP l [] w) :=
 zhl h hs hd (fun x hx => by cases hx) hw.ob hw.et fun hr w1 b1 => zb5 (h.below b1 zl) (z0h.1 hr).1 (z5p fun e he => (hs.2 e he).1)
theorem zhn (W : World) (a : Ent) : EntsR (W.alloc (.cells #[.int .i64 a.kind, .int .i64 a.back, .string ⟨a.base.toArray⟩, .string ⟨a.data.toArray⟩] 51)) (.slice (some ⟨W.heap.size, 0, none⟩) 1 1) [a] :=
 .inr ⟨W.heap.size, 0, 1, rfl, Nat.le_refl _, by simp, fun j hj z hz i hi => by
  rw [Nat.zero_add, cell_of_row (W.alloc _) W.heap.size (j * 4 + i) _ _ _ (heap_alloc_new W _)]
  match j, hj with
  | 0, _ =>
    cases hz
    match i, hi with
    | 0, _ => rfl
    | 1, _ => rfl
    | 2, _ => rfl
    | 3, _ => rfl⟩
theorem ents_two (W : World) (a b : Ent) : EntsR (W.alloc (.cells #[.int .i64 a.kind, .int .i64 a.back, .string ⟨a.base.toArray⟩, .string ⟨a.data.toArray⟩, .int .i64 b.kind, .int .i64 b.back, .string ⟨b.base.toArray⟩, .string ⟨b.data.toArray⟩] 51)) (.slice (some ⟨W.heap.size, 0, none⟩) 2 2) [a, b] :=
 .inr ⟨W.heap.size, 0, 2, rfl, Nat.le_refl _, by simp, fun j hj z hz i hi => by
  rw [Nat.zero_add, cell_of_row (W.alloc _) W.heap.size (j * 4 + i) _ _ _ (heap_alloc_new W _)]
  match j, hj with
  | 0, _ =>
    cases hz
    match i, hi with
    | 0, _ => rfl
    | 1, _ => rfl
    | 2, _ => rfl
    | 3, _ => rfl
  | 1, _ =>
    cases hz
    match i, hi with
    | 0, _ => rfl
    | 1, _ => rfl
    | 2, _ => rfl
    | 3, _ => rfl⟩
theorem zo4 (W : World) (a : Hld) : HldsR (W.alloc (.cells #[.string ⟨a.id.toArray⟩, .int .i64 a.kind, .string ⟨a.data.toArray⟩] 47)) (.slice (some ⟨W.heap.size, 0, none⟩) 1 1) [a] :=
 .inr ⟨W.heap.size, 0, 1, rfl, Nat.le_refl _, by simp, fun j hj z hz i hi => by
  rw [Nat.zero_add, cell_of_row (W.alloc _) W.heap.size (j * 3 + i) _ _ _ (heap_alloc_new W _)]
  match j, hj with
  | 0, _ =>
    cases hz
    match i, hi with
    | 0, _ => rfl
    | 1, _ => rfl
    | 2, _ => rfl⟩
structure HeadF (d x : Bs) : Prop where
 made : ∀ W, Calls Tryz.prog 23 #[.string ⟨#[97, 98, 99, 100, 101, 102]⟩, .string ⟨#[120, 97, 98, 99, 100, 101, 102]⟩] W (z06 (.string ⟨d.toArray⟩) W)
 put : ∀ W (v : Value), Wd W → EntsR W v (z1p h6 d 1) → Calls Tryz.prog 12 #[v] W fun e w' => ∃ A N c b, e = .returned (.tuple #[.slice A N c, .int .i64 0]) ∧ 36 < N ∧ N = b.length ∧ N ≤ 40000 ∧ getP b = some (z1p h6 d 1) ∧ getP (b.drop 1) = none ∧ Dl.Rb w' (.slice A N c) b ∧ Below W.heap.size W w'
 res : ∀ W (v : Value), Wd W → EntsR W v (z1p h6 d 1) → Calls Tryz.prog 21 #[v, .slice none 0 0] W fun e w' => ∃ g c, e = .returned (.tuple #[.slice (some ⟨g, 0, none⟩) 2 c, .int .i64 0]) ∧ w'.cell? ⟨g, 3, none⟩ = some (.string ⟨#[120, 97, 98, 99, 100, 101, 102]⟩) ∧ Below W.heap.size W w'
 deep : ∀ W (v : Value), Wd W → EntsR W v (z1p h6 d 1) → Calls Tryz.prog 22 #[v, .slice none 0 0] W fun e w' => ∃ g c, e = .returned (.tuple #[.slice (some ⟨g, 0, none⟩) 2 c, .int .i64 0]) ∧ w'.cell? ⟨g, 1, none⟩ = some (.int .i64 1) ∧ Below W.heap.size W w'
 nm : ∀ W, Calls Tryz.prog 26 #[.slice none 0 0] W (z06 (.string ⟨x.toArray⟩) W)
 lack : ∀ W, Wd W → Calls Tryz.prog 21 #[.slice (some ⟨W.heap.size, 0, none⟩) 1 1, .slice none 0 0] (W.alloc (.cells #[.int .i64 7, .int .i64 0, .string ⟨x.toArray⟩, .string ⟨#[]⟩] 51)) (z06 (.tuple #[.slice none 0 0, .int .i64 51]) W)
 right : ∀ W (v : Value), EntsR W v (z1p h6 d 1) → Calls Tryz.prog 16 #[v] W (z06 (.bool true) W)
 whole : ∀ W, Calls Tryz.prog 20 #[.slice (some ⟨W.heap.size, 0, none⟩) 1 1] (W.alloc (.cells #[.string ⟨#[]⟩, .int .i64 0, .string ⟨#[]⟩] 47)) fun e w' => ∃ A c, e = .returned (.slice A 1 c) ∧ Below W.heap.size W w'
theorem z5q {l : List Ent} (h : SmallE l) : ∀ e ∈ l, e.data.length ≤ 10000 := fun e he => by have := h.mem he; omega
theorem zec {α : Type} {t : TypeId} {k : Nat} {f : α → List Value} {w : World} {B : Nat} {v : Value} {l : List α} (hf : ∀ x, (f x).length = k) (h : OwK t k f w B v l) (hl : 0 < l.length) : ∃ g c, v = .slice (some ⟨g, 0, none⟩) l.length c ∧ ∀ (j : Nat) (x : α), l[j]? = some x → ∀ i, i < k → w.cell? ⟨g, j * k + i, none⟩ = (f x)[i]? := by
 obtain ⟨h1, h2⟩ := h;rcases h2 with ⟨rfl, h2⟩ | ⟨g, cap, cur, rfl, hb, hg, hn, hm, hs, ht⟩
 · omega
 · refine ⟨g, cap, rfl, fun j x hx i hi => ?_⟩;obtain ⟨hj, -⟩ := List.getElem?_eq_some_iff.1 hx;rw [cell_of_row w g (j * k + i) _ _ _ hg]
   have hlt : j * k + i < l.length * k := by
    have : (j + 1) * k ≤ l.length * k := Nat.mul_le_mul_right k hj;rw [Nat.add_mul] at this; omega
   have h3 : (cur.toList.take (l.length * k))[j * k + i]? = (l.flatMap f)[j * k + i]? := by rw [ht]
   rw [List.getElem?_take, if_pos hlt, Array.getElem?_toList, z6f hf l j x hx i hi] at h3;exact h3
set_option linter.constructorNameAsVariable false in
theorem headF : HeadF hd (z3u []) where
 made W := Dl.RMake_any h6 h7 (by decide) (by decide) W
 put W v hw h := by
  refine (Put_any h head_small.smal (fun hr => zb7 head_small hr) hw.ob.pr hw.et).mono ?_;rintro e w' ⟨b, ⟨hr, -⟩ | ⟨hr, A, N, c, rfl, hN, ho⟩⟩
  · rw [zba] at hr; cases hr
  · have hl := ze7 hr;have hs := zb7 head_small hr;have hrb := ho.rb;exact ⟨A, N, c, z23 (z1p h6 hd 1), rfl, by omega, hN, by omega, zgc.2 ⟨hr, rfl, by omega⟩, get_rest _, hrb, b⟩
 res W v hw h := by
  refine (z9t h head_small.smal (z5q head_small) hw).mono ?_;rintro e w' ⟨b, hh⟩;rw [zhm] at hh;obtain ⟨u, rfl, ho⟩ := hh;obtain ⟨g, c, rfl, hc⟩ := zec (k := 2) (f := obC) (fun _ => rfl) ho (by show 0 < 2; omega);exact ⟨g, c, rfl, hc 1 (1, h7) rfl 1 (by omega), b⟩
 deep W v hw h := by
  refine (Deep_nil h head_small.smal (z5q head_small) hw).mono ?_;rintro e w' ⟨b, hh⟩;rw [zhm] at hh;obtain ⟨u, rfl, ho⟩ := hh;obtain ⟨g, c, rfl, hc⟩ := zec (k := 1) (f := intC) (fun _ => rfl) ho (by show 0 < 2; omega);exact ⟨g, c, rfl, hc 1 1 rfl 0 Nat.zero_lt_one, b⟩
 nm W := zdu W (.slice none 0 0) [] (by decide) (.inl ⟨⟨_, rfl⟩, rfl⟩)
 lack W hw := by
  have he := zhn W ⟨7, 0, z3u [], []⟩;have hl := z4u [];refine (z9t he ⟨by simp, fun e h => by rw [List.mem_singleton.1 h]; simp [hl]⟩ (fun e h => by rw [List.mem_singleton.1 h]; simp) (hw.below (below_new W _))).mono ?_;rintro e w' ⟨b, hh⟩;rw [zc4 (z9s _) (by simp) rfl] at hh;exact ⟨hh, (below_new W _).trans (b.mono (by simp))⟩
 right W v h := by
  refine (zjc h head_small.smal).mono ?_;rintro e w' ⟨rfl, b⟩;exact ⟨by rw [zba], b⟩
 whole W := by
  refine (zny (zo4 W ⟨[], 0, []⟩) (by simp)).mono ?_;rintro e w' ⟨u, rfl, hn, b⟩;obtain ⟨g, c, rfl, -⟩ := zec (f := entC) (fun _ => rfl) hn (by simp);exact ⟨_, c, rfl, (below_new W _).trans (b.mono (by simp))⟩
theorem head_any (w : World) (hw : Wd w) : Calls Tryz.prog 10 #[] w (z06 (.bool true) w) := by
 have HF := zh headF;have Hw := zh hw;obtain ⟨d, hd⟩ := zx hd;obtain ⟨x, hx⟩ := zx (z3u []);rw [← hd, ← hx] at HF;clear hd hx hw
 go_enter Tryz.func10, Tryz.ntmps10
 go_wp2_with fail
 refine (HF.out.made _).mono ?_;rintro e w1 ⟨rfl, b1⟩;obtain ⟨w2, hw2⟩ := zx (w1.alloc (.cells #[.int .i64 1, .int .i64 0, .string ⟨#[]⟩, .string ⟨#[97, 98, 99, 100, 101, 102]⟩, .int .i64 6, .int .i64 1, .string ⟨#[]⟩, .string ⟨d.toArray⟩] 51));have hL : EntsR w2 (.slice (some ⟨w1.heap.size, 0, none⟩) 2 2) (z1p h6 d 1) := by rw [hw2]; exact ents_two w1 ⟨1, 0, [], h6⟩ ⟨6, 1, [], d⟩
 have b2 : Below w.heap.size w w2 := b1.trans (by rw [hw2]; exact (below_new w1 _).mono b1.size);have HW2 := zh hw2; have HB2 := zh b2; have HL := zh hL;have HPut := zh (HF.out.put w2 _ (Hw.out.below b2) hL);clear b1 hw2 b2 hL
 go_upto_region 2 with fail
 rw [← HW2.out];clear HW2
 go_wp2_with fail
 refine HPut.out.mono ?_;rintro e w3 ⟨A, N, c, b, rfl, hn, hN, hN2, hg, hg1, hr, b3⟩;have HB3 := zh (HB2.out.trans (b3.mono HB2.out.size)); have HL3 := zh (HL.out.below b3 zl);have HGet := zh (Get_any hr (by omega) (Hw.out.below HB3.out).ob.pr (Hw.out.below HB3.out).et);have hN0 : ((N : Int) == 0) = false := by rw [beq_eq_false_iff_ne]; omega
 have HG1 := zh (And.intro hg1 (And.intro hn (And.intro hN hN2))); have HR := zh hr; have Hg := zh hg;clear b3 hg hg1 hr HPut hN HB2 HL hN2 hn
 go_wp2_with fail
 refine HGet.out.mono ?_;rintro e w4 ⟨b4, ⟨l, v, hg, rfl, hv⟩ | ⟨hg, rfl⟩⟩
 rotate_left
 · rw [Hg.out] at hg; cases hg
 obtain rfl : z1p h6 d 1 = l := Option.some.inj (Hg.out.symm.trans hg);have hv' := hv.rd;obtain ⟨A4, c4, rfl⟩ := hv'.shape;have HB4 := zh (HB3.out.trans (b4.mono HB3.out.size)); have HL4 := zh (HL3.out.below b4 zl); have HR4 := zh (HR.out.below b4 zl);have HRes := zh (HF.out.res w4 _ (Hw.out.below HB4.out) hv');clear b4 hg hv hv' HGet HL3 HR Hg
 go_wp2_with fail
 refine HRes.out.mono ?_;rintro e w5 ⟨g5, c5, rfl, x5, b5⟩;have HB5 := zh (HB4.out.trans (b5.mono HB4.out.size)); have HL5 := zh (HL4.out.below b5 zl); have HR5 := zh (HR4.out.below b5 zl);have HDeep := zh (HF.out.deep w5 _ (Hw.out.below HB5.out) HL5.out);clear b5 HRes HL4 HR4 HB4
 go_wp2_with fail
 refine HDeep.out.mono ?_;rintro e w6 ⟨g6, c6, rfl, x6, b6⟩;have x5 := cell_to x5 b6;have HB6 := zh (HB5.out.trans (b6.mono HB5.out.size)); have HL6 := zh (HL5.out.below b6 zl); have HR6 := HR5.out.below b6 zl;obtain ⟨hg1, hn, hN, hN2⟩ := HG1.out;have hr6 := HR6;rw [hN] at hr6;have hrc0 := hr6.from' 1 (by omega);rw [← hN] at hrc0;obtain ⟨A7, N7, c7, hcut, hrc⟩ : ∃ A7 N7 c7, (∀ W, (Instr.sliceAt 23 (.slice A N c) (some (.int .i64 1)) none none).run Tryz.prog W = .ok (.slice A7 N7 c7) W) ∧ Dl.Rb w6 (.slice A7 N7 c7) (b.drop 1) := ⟨_, _, _, fun W => Dl.run_cut1 W A N c 1 (by omega), hrc0⟩
 have HGet := zh (Get_any hrc (by rw [List.length_drop]; omega) (Hw.out.below HB6.out).ob.pr (Hw.out.below HB6.out).et);have Hg1 := zh hg1;clear b6 HDeep HL5 HR5 HB5 HR6 hr6 hrc hrc0 hg1 hn hN hN2 HG1 hN0
 go_wp2_with fail
 refine HGet.out.mono ?_;rintro e w7 ⟨b7, ⟨l, v, hg, rfl, hv⟩ | ⟨hg, rfl⟩⟩
 · rw [Hg1.out] at hg; cases hg
 have x5 := cell_to x5 b7; have x6 := cell_to x6 b7;have HB7 := zh (HB6.out.trans (b7.mono HB6.out.size)); have HL7 := zh (HL6.out.below b7 zl);clear b7 hg HGet Hg1 HB6 HL6 hcut
 go_wp2_with fail
 refine (HF.out.nm _).mono ?_;rintro e w8 ⟨rfl, b8⟩;have x5 := cell_to x5 b8; have x6 := cell_to x6 b8;have HB8 := zh (HB7.out.trans (b8.mono HB7.out.size)); have HL8 := zh (HL7.out.below b8 zl);have HLk := zh (HF.out.lack w8 (Hw.out.below HB8.out));clear b8 HB7 HL7
 go_wp2_with fail
 refine HLk.out.mono ?_;rintro e w9 ⟨rfl, b9⟩;have x5 := cell_to x5 b9; have x6 := cell_to x6 b9;have HB9 := zh (HB8.out.trans (b9.mono HB8.out.size)); have HL9 := zh (HL8.out.below b9 zl);have HRt := zh (HF.out.right w9 _ HL9.out);clear b9 HB8 HL8 HLk;have h2 : (z1p h6 d 1).length = 2 := rfl;rw [h2]
 go_wp2_with fail
 refine HRt.out.mono ?_;rintro e w10 ⟨rfl, b10⟩;have HB10 := zh (HB9.out.trans (b10.mono HB9.out.size));have HWh := zh (HF.out.whole w10);clear b10 HB9 HL9 HRt x5 x6
 go_wp2_with fail
 refine HWh.out.mono ?_;rintro e w11 ⟨A11, c11, rfl, b11⟩;have HB11 := zh (HB10.out.trans (b11.mono HB10.out.size));clear b11 HB10 HWh
 go_wp2_with fail
 go_ret
 exact ⟨rfl, HB11.out⟩
end Go.Proofs.YtgjddkeogboojaaGreatDoor.Pk
namespace Go.Proofs.YtgjddkeogboojaaGreatDoor.Pl
open Go.Proofs.YtgjddkeogboojaaGreatDoor Go.Proofs.YtgjddkeogboojaaGreatDoor.Pk
open Go Go.RowKit Go.Deep
instance : Inhabited Ent := ⟨z0p⟩
theorem zed (b off k : Nat) : (⟨b, off, none⟩ : Addr).add k = ⟨b, off + k, none⟩ := by
 unfold Addr.add; split <;> simp_all
section
variable {H : Type} {enc : TypeId × Value → H} {W : World} {base : Nat} {held : Bool}
def Fits (t : TypeId) (d : DataW H) : Prop := ∀ n ∈ d.weights Tryz.prog t, n ≤ reachBytes
theorem Fits.slice {t e : TypeId} {el sp : List (DataW H)} (h : Fits t (.slice el sp)) (hu : Tryz.prog.underlying t = some (.slice e)) : (el.length + sp.length) * Tryz.prog.bytesOf e ≤ reachBytes := h _ (by simp [DataW.weights, hu])
theorem zo5 {P : Program} {e : TypeId} {n : Nat} {d : DataW H} : ∀ {l : List (DataW H)}, d ∈ l → n ∈ d.weights P e → n ∈ DataW.weightsAll P e l
 | x :: l, hd, hn => by
   rw [DataW.weightsAll, List.mem_append];rcases List.mem_cons.1 hd with rfl | hd
   · exact .inl hn
   · exact .inr (zo5 hd hn)
theorem Fits.elem {t e : TypeId} {el sp : List (DataW H)} {d : DataW H} (h : Fits t (.slice el sp)) (hu : Tryz.prog.underlying t = some (.slice e)) (hd : d ∈ el) : Fits e d := fun n hn =>
 h _ (by simp only [DataW.weights, hu]; exact List.mem_cons_of_mem _ (List.mem_append_left _ (zo5 hd hn)))
theorem Fits.field {t : TypeId} {fs : Array Field} {xs : List (DataW H × List MemPlace)} {y : DataW H × List MemPlace} {i : Nat} {f : Field} (h : Fits t (.agg (xs.map (·.1)))) (hu : Tryz.prog.underlying t = some (.struct fs)) (hf : fs[i]? = some f) (hy : xs[i]? = some y) : Fits f.type y.1 := fun n hn =>
 h _ (by simp only [DataW.weights, hu]; exact DataW.weights_mem_each (j := i) (t := f.type) (d := y.1) (by simp [hf]) (by simp [hy]) n hn)
theorem zo6 {α : Type} [Inhabited α] {t e : TypeId} {k fuel : Nat} {v : Value} {x : DataW H × List MemPlace} (f : α → List Value) (Q : α → Prop) (ht : Tryz.prog.underlying t = some (.slice e)) (hs : Tryz.prog.cellsOf e = k)
 (h : DataW.trod enc Tryz.prog W base (fun _ => true) held fuel t [v] = some x) (h0 : 0 < k) (hF : Fits t x.1) (hby : 0 < Tryz.prog.bytesOf e)
 (hel : ∀ b off n cs y, W.cells? base ⟨b, off, none⟩ k = some cs → DataW.trod enc Tryz.prog W base (fun _ => true) held n e cs = some y → Fits e y.1 → ∃ o, Q o ∧ ∀ i, i < k → W.cell? ⟨b, off + i, none⟩ = (f o)[i]?) :
 ∃ l : List α, l.length ≤ limW ∧ (∀ o ∈ l, Q o) ∧ RdK k f W v l := by
 rcases open_slice ht h with ⟨h0, _⟩ | ⟨a, len, cap, m, n, D, Pl, h0', hb, hl, hm, hmm, rfl, hx⟩
 · cases h0;exact ⟨[], by simp, fun o ho => by simp at ho, .inl ⟨⟨_, _, rfl⟩, rfl⟩⟩
 · cases h0';have hlm : len ≤ m := by rw [hmm]; split <;> omega
   rw [hs] at hx;by_cases hl0 : len = 0
   · subst hl0;exact ⟨[], by simp, fun o ho => by simp at ho, .inl ⟨⟨_, _, rfl⟩, rfl⟩⟩
   have hsp : a.spot = none := by
    obtain ⟨cs, h1, _⟩ := hx 0 (by omega);obtain ⟨_, h3, h4⟩ := World.cells?_some h1;have hc0 := h4 0 h0;rw [zj (by omega)] at hc0;have hsp := World.cell?_spot hc0;simpa [Addr.add] using hsp
   obtain ⟨b, off, sp⟩ := a;cases hsp
   have each : ∀ i, i < len → ∃ o, Q o ∧ ∀ j, j < k → W.cell? ⟨b, off + i * k + j, none⟩ = (f o)[j]? := fun i hi => by
    obtain ⟨cs, h1, h2⟩ := hx i (by omega);rw [zed] at h1;exact hel _ _ _ _ _ h1 h2 (hF.elem ht (List.mem_map.2 ⟨i, List.mem_range.2 hi, rfl⟩))
   obtain ⟨g, hg⟩ := choose_lt each;have hlen : ((List.range len).map g).length = len := by simp
   have hw := hF.slice ht
   have hw2 : len ≤ reachBytes := by
    refine Nat.le_trans ?_ hw;simp only [List.length_map, List.length_range];exact Nat.le_trans (Nat.le_add_right _ _) (Nat.le_mul_of_pos_right _ hby)
   have hlt : b < W.heap.size := by
    obtain ⟨cs, h1, _⟩ := hx 0 (by omega);obtain ⟨_, h3, h4⟩ := World.cells?_some h1;have hc0 := h4 0 h0;rw [zj (by omega), zed, zed] at hc0;exact World.block_lt_of_cell? W _ hc0
   refine ⟨(List.range len).map g, by rw [hlen]; simp [reachBytes] at hw2; unfold limW; omega, fun o ho => ?_, .inr ⟨b, off, cap, by rw [hlen], by rw [hlen]; exact hl, hlt, fun j hj x hx i hi => ?_⟩⟩
   · obtain ⟨i, hi, rfl⟩ := List.mem_map.1 ho;exact (hg i (List.mem_range.1 hi)).1
   · rw [hlen] at hj;have eo : g j = x := by simpa [hj] using hx
     subst eo;exact (hg j hj).2 i hi
theorem zho : Tryz.prog.cellsOf 9 = 1 := by kernel_rfl
theorem zo7 : Tryz.prog.cellsOf 3 = 1 := by kernel_rfl
theorem fld {n off k : Nat} {t : TypeId} {cs : List Value} {y : Option (DataW H × List MemPlace)} (hc : Tryz.prog.cellsOf t = k) (h : DataW.trod enc Tryz.prog W base (fun _ => true) held n t ((cs.drop off).take (Tryz.prog.cellsOf t)) = y) : DataW.trod enc Tryz.prog W base (fun _ => true) held n t ((cs.drop off).take k) = y := hc ▸ h
theorem zhp {fuel : Nat} {v : Value} {x : DataW H × List MemPlace} (h : DataW.trod enc Tryz.prog W base (fun _ => true) held fuel 9 [v] = some x) (hF : Fits 9 x.1) : ∃ p : zB, p.length ≤ limW ∧ v = SV p := by
 obtain ⟨s, h1, rfl, h3⟩ := DataW.trod_string Tryz.underlying9 h;cases h1;have hw := hF s.data.toList.length (by simp [DataW.weights]);exact ⟨s.data.toList, by simp [reachBytes] at hw; rw [Array.length_toList]; unfold limW; show s.size ≤ _; omega, rfl⟩
theorem zo8 {fuel : Nat} {v : Value} {x : DataW H × List MemPlace} (h : DataW.trod enc Tryz.prog W base (fun _ => true) held fuel 3 [v] = some x) : ∃ n : Int, v = .int .i64 n := by
 obtain ⟨n, h1, _⟩ := DataW.trod_int Tryz.underlying3 h;exact ⟨n, by simpa using h1⟩
theorem open_obj {fuel : Nat} {cs : List Value} {y : DataW H × List MemPlace} (h3 : cs.length = 2) (h2 : DataW.trod enc Tryz.prog W base (fun _ => true) held fuel 37 cs = some y) (hF : Fits 37 y.1) :
 ∃ k d, d.length ≤ limW ∧ cs = [.int .i64 k, SV d] := by
 obtain ⟨xs, n', _, rfl, _, hlen, hf⟩ := DataW.trod_struct Tryz.underlying37 h2
 match cs, h3 with
 | [v0, v1], _ =>
   match xs, hlen with
   | [y0, y1], _ =>
     have f0 := fld (cs := [v0, v1]) (off := 0) zo7 (hf 0 _ rfl);have f1 := fld (cs := [v0, v1]) (off := 1) zho (hf 1 _ rfl);obtain ⟨k, rfl⟩ := zo8 (v := v0) f0;obtain ⟨p, hp, rfl⟩ := zhp (v := v1) f1 (hF.field Tryz.underlying37 (i := 1) rfl rfl);exact ⟨k, p, hp, rfl⟩
theorem cell2O : Tryz.prog.cellsOf 37 = 2 := by kernel_rfl
theorem zo9 (b off n : Nat) (cs : List Value) (y : DataW H × List MemPlace) (h1 : W.cells? base ⟨b, off, none⟩ 3 = some cs) (h2 : DataW.trod enc Tryz.prog W base (fun _ => true) held n 47 cs = some y) (hF : Fits 47 y.1) :
 ∃ o : Hld, True ∧ ∀ i, i < 3 → W.cell? ⟨b, off + i, none⟩ = (z0b o)[i]? := by
 obtain ⟨_, h3, h4⟩ := World.cells?_some h1;obtain ⟨xs, n', _, rfl, _, hlen, hf⟩ := DataW.trod_struct Tryz.underlying47 h2
 match cs, h3 with
 | [v0, v1, v2], _ =>
   match xs, hlen with
   | [y0, y1], _ =>
     have f0 := fld (cs := [v0, v1, v2]) (off := 0) zho (hf 0 _ rfl);have f1 := fld (cs := [v0, v1, v2]) (off := 1) cell2O (hf 1 _ rfl);obtain ⟨p, hp, rfl⟩ := zhp (v := v0) f0 (hF.field Tryz.underlying47 (i := 0) rfl rfl);obtain ⟨k, d, hd, e⟩ := open_obj (cs := [v1, v2]) rfl f1 (hF.field Tryz.underlying47 (i := 1) rfl rfl);cases e;refine ⟨⟨p, k, d⟩, trivial, fun i hi => ?_⟩;have c := h4 i hi;rw [zed] at c;rw [c]
     match i, hi with
     | 0, _ => rfl
     | 1, _ => rfl
     | 2, _ => rfl
theorem zje {fuel : Nat} {v : Value} {x : DataW H × List MemPlace} (h : DataW.trod enc Tryz.prog W base (fun _ => true) held fuel 38 [v] = some x) (hF : Fits 38 x.1) : ∃ l : List Hld, l.length ≤ limW ∧ HldsR W v l := by
 obtain ⟨l, h1, _, h2⟩ := zo6 z0b (fun _ => True) Tryz.underlying38 (by kernel_rfl) h (by omega) hF (of_decide_eq_true (by kernel_rfl)) zo9;exact ⟨l, h1, h2⟩
theorem zoa {fuel : Nat} {cs : List Value} {y : DataW H × List MemPlace} (h3 : cs.length = 4) (h2 : DataW.trod enc Tryz.prog W base (fun _ => true) held fuel 51 cs = some y) (hF : Fits 51 y.1) :
 ∃ k b s d, s.length ≤ limW ∧ cs = [.int .i64 k, .int .i64 b, SV s, SV d] := by
 obtain ⟨xs, n', _, rfl, _, hlen, hf⟩ := DataW.trod_struct Tryz.underlying51 h2
 match cs, h3 with
 | [v0, v1, v2, v3], _ =>
   match xs, hlen with
   | [y0, y1, y2, y3], _ =>
     have f0 := fld (cs := [v0, v1, v2, v3]) (off := 0) zo7 (hf 0 _ rfl);have f1 := fld (cs := [v0, v1, v2, v3]) (off := 1) zo7 (hf 1 _ rfl);have f2 := fld (cs := [v0, v1, v2, v3]) (off := 2) zho (hf 2 _ rfl);have f3 := fld (cs := [v0, v1, v2, v3]) (off := 3) zho (hf 3 _ rfl);obtain ⟨k, rfl⟩ := zo8 (v := v0) f0;obtain ⟨b, rfl⟩ := zo8 (v := v1) f1;obtain ⟨p, hp, rfl⟩ := zhp (v := v2) f2 (hF.field Tryz.underlying51 (i := 2) rfl rfl);obtain ⟨q, hq, rfl⟩ := zhp (v := v3) f3 (hF.field Tryz.underlying51 (i := 3) rfl rfl);exact ⟨k, b, p, q, hp, rfl⟩
theorem open_ent (b off n : Nat) (cs : List Value) (y : DataW H × List MemPlace) (h1 : W.cells? base ⟨b, off, none⟩ 4 = some cs) (h2 : DataW.trod enc Tryz.prog W base (fun _ => true) held n 51 cs = some y) (hF : Fits 51 y.1) :
 ∃ o : Ent, True ∧ ∀ i, i < 4 → W.cell? ⟨b, off + i, none⟩ = (entC o)[i]? := by
 obtain ⟨_, h3, h4⟩ := World.cells?_some h1;obtain ⟨k, bk, s, d, hs, rfl⟩ := zoa h3 h2 hF;refine ⟨⟨k, bk, s, d⟩, trivial, fun i hi => ?_⟩;have c := h4 i hi;rw [zed] at c;rw [c]
 match i, hi with
 | 0, _ => rfl
 | 1, _ => rfl
 | 2, _ => rfl
 | 3, _ => rfl
theorem zob {fuel : Nat} {v : Value} {x : DataW H × List MemPlace} (h : DataW.trod enc Tryz.prog W base (fun _ => true) held fuel 22 [v] = some x) (hF : Fits 22 x.1) : ∃ l : List Ent, l.length ≤ limW ∧ EntsR W v l := by
 obtain ⟨l, h1, _, h2⟩ := zo6 entC (fun _ => True) Tryz.underlying22 (by kernel_rfl) h (by omega) hF (of_decide_eq_true (by kernel_rfl)) open_ent;exact ⟨l, h1, h2⟩
end
end Go.Proofs.YtgjddkeogboojaaGreatDoor.Pl
namespace Go.Proofs.YtgjddkeogboojaaGreatDoor.Pk
open Go.Proofs.YtgjddkeogboojaaGreatDoor
instance decHld : DecidableEq Hld := fun a b => if h : a.id = b.id ∧ a.kind = b.kind ∧ a.data = b.data then isTrue (by cases a; cases b; simp only at h; obtain ⟨rfl, rfl, rfl⟩ := h; rfl) else isFalse (fun e => h (by rw [e]; exact ⟨rfl, rfl, rfl⟩))
theorem getD_map {α β : Type} (f : α → β) (l : List α) (k : Nat) (h : k < l.length) (d : α) (e : β) : (l.map f).getD k e = f (l.getD k d) := by
 rw [zg, zg, List.getElem?_map, zj h]; rfl
end Go.Proofs.YtgjddkeogboojaaGreatDoor.Pk
namespace Go.Proofs.YtgjddkeogboojaaGreatDoor
open Go Go.RowKit Go.Shelf
def Bd (w : World) (B b : Nat) (l : zB) : Prop := Lib.IsBuilderF 245 5 B b (Lib.byteCells l) w
theorem Bd.mono {w : World} {B B' b : Nat} {l : zB} (h : Bd w B b l) (hB : B' ≤ B) : Bd w B' b l := by
 have key : ∀ p, Lib.BuilderAtF 245 5 B b p (Lib.byteCells l) w → Lib.BuilderAtF 245 5 B' b p (Lib.byteCells l) w := fun p h => by
  obtain ⟨h1, v, h2, ⟨h3, h4⟩, h5⟩ := h;refine ⟨by omega, v, h2, ⟨h3, ?_⟩, h5⟩;rcases h4 with h4 | ⟨g, cap, cur, fz, rfl, hbg, r⟩
  · exact .inl h4
  · exact .inr ⟨g, cap, cur, fz, rfl, by omega, r⟩
 rcases h with h | h
 · exact .inl (key _ h)
 · exact .inr (key _ h)
theorem Bd.lt {w : World} {B b : Nat} {l : zB} (h : Bd w B b l) : b < w.heap.size := by
 rcases h with ⟨_, v, h, _⟩ | ⟨_, v, h, _⟩ <;> exact lt_heap h
end Go.Proofs.YtgjddkeogboojaaGreatDoor
