/-
  The document's Right.
  The document's Make. The head: a live question, whose answer is fixed. What comes in: objects with their names, objects, texts, as they read.
-/
import Derived.Test.YtgjddkeogboojaaGreatDoorT26
import Derived.Test.YtgjddkeogboojaaGreatDoorT20
import Derived.Test.YtgjddkeogboojaaGreatDoorT23
import Derived.Test.YtgjddkeogboojaaGreatDoorT14
import Derived.Test.YtgjddkeogboojaaGreatDoorT21
import Derived.Deep.Slices
import Derived.ChangeArms
import Derived.DataShut
import Derived.SizedLaws
namespace Go.Proofs.YtgjddkeogboojaaGreatDoor.Pk
open Go.Proofs.YtgjddkeogboojaaGreatDoor
open Go Go.RowKit Go.Maps
theorem okE_three {j : Nat} {kd bk : Int} {bs dt : Bs} {b nb : Bool} (hb : b = decide (bs = [])) (hnb : nb = namedB bs) : okE j ⟨kd, bk, bs, dt⟩ = (decide (dt.length ≤ 65536) && ((decide (1 ≤ kd) && (decide (kd ≤ 4) && (decide (bk = 0) && b))) || ((decide (kd = 6) && (decide (1 ≤ bk) && (decide (bk ≤ (j : Int)) && b))) || (decide (kd = 7) && (decide (bk = 0) && nb))))) := by
  subst hb hnb
  unfold okE standsB
  simp only
  congr 1
  by_cases a1 : kd = 1 ∨ kd = 2 ∨ kd = 3 ∨ kd = 4
  · rw [if_pos a1]
    rcases a1 with rfl | rfl | rfl | rfl <;> simp
  · rw [if_neg a1]
    have a2 : ¬ (1 ≤ kd ∧ kd ≤ 4) := by omega
    by_cases a6 : kd = 6
    · subst a6; simp
    · rw [if_neg a6]
      by_cases a7 : kd = 7
      · subst a7; simp
      · rw [if_neg a7]
        have a3 : (decide (1 ≤ kd) && (decide (kd ≤ 4) && (decide (bk = 0) && decide (bs = [])))) = false := by
          by_cases z1 : 1 ≤ kd
          · have z4 : ¬ kd ≤ 4 := fun z => a2 ⟨z1, z⟩
            simp [z4]
          · simp [z1]
        rw [a3]
        simp [a6, a7]
set_option maxHeartbeats 16000000 in
set_option maxRecDepth 100000 in
theorem RRight_any' {w : World} {v : Value} {l : List Ent} (h : EntsR w v l) (hs : Smal l) : Calls Tryz.prog 17 #[v] w (RetBelow (.bool (rightL l)) w) := by
  obtain ⟨A, c, rfl⟩ := h.shape
  have Hx := Lib.hid h; have HS := Lib.hid hs.2
  have hl := hs.1
  obtain ⟨R, hR⟩ : ∃ R, R = rightL l := ⟨_, rfl⟩
  rw [← hR]
  have HR := Lib.hid hR
  clear h hs hR
  go_enter Tryz.func17, Tryz.ntmps17
  go_wp2_with fail
  go_loopw [3] (fun i wr => ∃ k : Nat, k ≤ l.length ∧ i = .int .i64 k ∧ Hid (Below w.heap.size w wr) ∧ Hid (∀ j, j < k → okE j (l.getD j noEnt) = true)) (fun i _ => l.length - (intOf i).toNat)
  case atStart => exact ⟨0, Nat.zero_le _, rfl, Lib.hid (Below.refl _ _), Lib.hid fun j hj => absurd hj (Nat.not_lt_zero _)⟩
  case round =>
    obtain ⟨k, hk, rfl, hB, hA⟩ := hrel
    by_cases hlt : k < l.length
    · obtain ⟨g, o, c', e, _, hg⟩ := Hx.out.pos (by omega)
      cases e
      obtain ⟨q0, q1, q2, q3⟩ := EntsR.cells (Hx.out.below hB.out (Nat.le_refl _)) k hlt
      have hmem := getD_mem l noEnt k hlt
      have hsm := HS.out _ hmem
      obtain ⟨x, hx⟩ : ∃ x, x = l.getD k noEnt := ⟨_, rfl⟩
      rw [← hx] at q0 q1 q2 q3 hsm
      have Hxx := Lib.hid hx
      obtain ⟨kd, bk, bs, dt⟩ := x
      unfold SV at q2 q3
      simp only at q0 q1 q2 q3 hsm
      obtain ⟨wz, hwz⟩ : ∃ z, z = wr.alloc (.cells #[.int .i64 kd, .int .i64 bk, .string ⟨bs.toArray⟩, .string ⟨dt.toArray⟩] 51) := ⟨_, rfl⟩
      have b4 : Below wr.heap.size wr wz := by rw [hwz]; exact below_new wr _
      have km4 : wz.heap[wr.heap.size]? = some (.cells #[.int .i64 kd, .int .i64 bk, .string ⟨bs.toArray⟩, .string ⟨dt.toArray⟩] 51 (0, 0)) := by rw [hwz]; exact heap_alloc_new wr _
      obtain ⟨p0, p1, p2, p3⟩ := cells4 km4
      obtain ⟨p, hp⟩ : ∃ p, p = wr.heap.size := ⟨_, rfl⟩
      rw [← hp] at p0 p1 p2 p3
      have HP : Hid (wr.heap.size = p) := Lib.hid hp.symm
      have HWz := Lib.hid hwz
      have HB4 := Lib.hid (hB.out.trans (b4.mono hB.out.size))
      obtain ⟨b, hb⟩ : ∃ b, b = decide (bs = []) := ⟨_, rfl⟩
      have hnd := nil_dec bs
      rw [← hb] at hnd
      obtain ⟨nb, hnb⟩ : ∃ nb, nb = namedB bs := ⟨_, rfl⟩
      have HNm := Lib.hid (fun W => RNamed_any bs W (by unfold maxLen; omega))
      rw [← hnb] at HNm
      unfold SV at HNm
      have HOk := Lib.hid (okE_three (j := k) (kd := kd) (bk := bk) (dt := dt) hb hnb)
      have HDl := Lib.hid hsm.2
      clear hb hnb hx hwz b4 km4 hp hB hmem hsm
      go_upto_region 5 with fail
      rw [← HWz.out, HP.out]
      clear HWz q0 q1 q2 q3
      go_cut [5] from 18 to 35 (fun v5 wx => v5 = .bool (decide (1 ≤ kd) && (decide (kd ≤ 4) && (decide (bk = 0) && b))) ∧ wz = wx)
      case first =>
        by_cases k1 : 1 ≤ kd
        · by_cases k4 : kd ≤ 4
          · by_cases k0 : bk = 0
            · have e0 : (bk == 0) = true := by simpa using k0
              have HE := Lib.hid (show (decide (1 ≤ kd) && (decide (kd ≤ 4) && (decide (bk = 0) && b))) = b by simp [k1, k4, k0])
              clear k0
              go_wp2
              go_meet
              case rel => exact ⟨by rw [HE.out], rfl⟩
            · have e0 : (bk == 0) = false := by simpa using k0
              have HE := Lib.hid (show (decide (1 ≤ kd) && (decide (kd ≤ 4) && (decide (bk = 0) && b))) = false by simp [k0])
              clear k0
              go_wp2
              go_meet
              case rel => exact ⟨by rw [HE.out], rfl⟩
          · skip
            have HE := Lib.hid (show (decide (1 ≤ kd) && (decide (kd ≤ 4) && (decide (bk = 0) && b))) = false by simp [k4])
            go_wp2
            go_meet
            case rel => exact ⟨by rw [HE.out], rfl⟩
        · skip
          have HE := Lib.hid (show (decide (1 ≤ kd) && (decide (kd ≤ 4) && (decide (bk = 0) && b))) = false by simp [k1])
          go_wp2
          go_meet
          case rel => exact ⟨by rw [HE.out], rfl⟩
      case rest =>
      obtain ⟨rfl, hz⟩ := hcut
      subst hz
      obtain ⟨wh, hwh⟩ : ∃ wh, wh = (decide (1 ≤ kd) && (decide (kd ≤ 4) && (decide (bk = 0) && b))) := ⟨_, rfl⟩
      rw [← hwh] at HOk
      rw [← hwh]
      clear hwh
      go_upto_region 6 with fail
      go_cut [6] from 36 to 54 (fun v6 wx => v6 = .bool (decide (kd = 6) && (decide (1 ≤ bk) && (decide (bk ≤ (k : Int)) && b))) ∧ wz = wx)
      case first =>
        by_cases k6 : kd = 6
        · have e6 : (kd == 6) = true := by simpa using k6
          by_cases k1 : 1 ≤ bk
          · by_cases k2 : bk ≤ (k : Int)
            · skip
              have HE := Lib.hid (show (decide (kd = 6) && (decide (1 ≤ bk) && (decide (bk ≤ (k : Int)) && b))) = b by simp [k6, k1, k2])
              clear k6
              go_wp2
              go_meet
              case rel => exact ⟨by rw [HE.out], rfl⟩
            · skip
              have HE := Lib.hid (show (decide (kd = 6) && (decide (1 ≤ bk) && (decide (bk ≤ (k : Int)) && b))) = false by simp [k2])
              clear k6
              go_wp2
              go_meet
              case rel => exact ⟨by rw [HE.out], rfl⟩
          · skip
            have HE := Lib.hid (show (decide (kd = 6) && (decide (1 ≤ bk) && (decide (bk ≤ (k : Int)) && b))) = false by simp [k1])
            clear k6
            go_wp2
            go_meet
            case rel => exact ⟨by rw [HE.out], rfl⟩
        · have e6 : (kd == 6) = false := by simpa using k6
          have HE := Lib.hid (show (decide (kd = 6) && (decide (1 ≤ bk) && (decide (bk ≤ (k : Int)) && b))) = false by simp [k6])
          clear k6
          go_wp2
          go_meet
          case rel => exact ⟨by rw [HE.out], rfl⟩
      case rest =>
      obtain ⟨rfl, hz⟩ := hcut
      subst hz
      obtain ⟨bc, hbc⟩ : ∃ bc, bc = (decide (kd = 6) && (decide (1 ≤ bk) && (decide (bk ≤ (k : Int)) && b))) := ⟨_, rfl⟩
      rw [← hbc] at HOk
      rw [← hbc]
      clear hbc
      go_upto_region 7 with fail
      go_cut [7] from 55 to 67 (fun v7 wx => v7 = .bool (decide (kd = 7) && (decide (bk = 0) && nb)) ∧ wz = wx)
      case first =>
        by_cases k7 : kd = 7
        · have e7 : (kd == 7) = true := by simpa using k7
          by_cases k0 : bk = 0
          · have e0 : (bk == 0) = true := by simpa using k0
            have HE := Lib.hid (show (decide (kd = 7) && (decide (bk = 0) && nb)) = nb by simp [k7, k0])
            clear k7 k0
            go_wp2_with fail
            refine (HNm.out _).mono ?_
            rintro e wn ⟨rfl, rfl⟩
            go_wp2
            go_meet
            case rel => exact ⟨by rw [HE.out], rfl⟩
          · have e0 : (bk == 0) = false := by simpa using k0
            have HE := Lib.hid (show (decide (kd = 7) && (decide (bk = 0) && nb)) = false by simp [k0])
            clear k7 k0
            go_wp2
            go_meet
            case rel => exact ⟨by rw [HE.out], rfl⟩
        · have e7 : (kd == 7) = false := by simpa using k7
          have HE := Lib.hid (show (decide (kd = 7) && (decide (bk = 0) && nb)) = false by simp [k7])
          clear k7
          go_wp2
          go_meet
          case rel => exact ⟨by rw [HE.out], rfl⟩
      case rest =>
      obtain ⟨rfl, hz⟩ := hcut
      subst hz
      obtain ⟨ba, hba⟩ : ∃ ba, ba = (decide (kd = 7) && (decide (bk = 0) && nb)) := ⟨_, rfl⟩
      rw [← hba] at HOk
      rw [← hba]
      clear hba hnd HNm p0 p1 p2
      by_cases hd : dt.length ≤ 65536
      · have hdI : ¬ (65536 : Int) < (dt.length : Int) := by omega
        have HOk2 := Lib.hid (HOk.out.trans (by rw [decide_eq_true hd, Bool.true_and]))
        clear hd HOk
        cases wh <;> cases bc <;> cases ba
        case false.false.false =>
          have hno : R = false := by rw [HR.out]; exact rightL_no hlt (by rw [← Hxx.out]; exact HOk2.out)
          have HNo := Lib.hid hno
          clear hno HR
          go_wp2
          go_ret
          rw [HNo.out]
          exact ⟨rfl, HB4.out⟩
        all_goals
          have hA2 : ∀ j, j < k + 1 → okE j (l.getD j noEnt) = true := fun j hj => by
            rcases Nat.lt_or_ge j k with h | h
            · exact hA.out j h
            · obtain rfl : j = k := by omega
              rw [← Hxx.out]; exact HOk2.out
          have HA2 := Lib.hid hA2
          clear hA2 hA HOk2
          go_wp2
          go_roundw
          case rel => exact ⟨k + 1, hlt, by go_num, HB4, HA2⟩
          case measure => simp [intOf]; omega
      · have hdI : (65536 : Int) < (dt.length : Int) := by omega
        have hno : R = false := by rw [HR.out]; exact rightL_no hlt (by rw [← Hxx.out, HOk.out, decide_eq_false hd]; rfl)
        have HNo := Lib.hid hno
        clear hno HR hd
        go_wp2
        go_ret
        rw [HNo.out]
        exact ⟨rfl, HB4.out⟩
    · obtain rfl : k = l.length := by omega
      by_cases h5 : l.length ≤ 512
      · have h5I : (l.length : Int) ≤ 512 := by omega
        have hyes : R = true := by rw [HR.out]; exact rightL_iff.2 ⟨h5, hA.out⟩
        have HY := Lib.hid hyes
        clear hyes HR hA h5
        go_wp2
        go_ret
        rw [HY.out]
        exact ⟨rfl, hB.out⟩
      · have h5I : ¬ (l.length : Int) ≤ 512 := by omega
        have hno : R = false := by rw [HR.out]; exact rightL_many (by omega)
        have HNo := Lib.hid hno
        clear hno HR hA h5
        go_wp2
        go_ret
        rw [HNo.out]
        exact ⟨rfl, hB.out⟩
end Go.Proofs.YtgjddkeogboojaaGreatDoor.Pk
namespace Go.Proofs.YtgjddkeogboojaaGreatDoor.Dl
open Go Go.RowKit
set_option maxRecDepth 100000 in
set_option maxHeartbeats 1000000 in
theorem RPutO_any (n : Nat) (hn : n ≤ 1099511627776) (w : World) : Calls Tryz.prog 31 #[.int .i64 (n : Int)] w (InsP w (putL n)) := by
  have O0 := Lib.hid (Ow.nil w w.heap.size)
  have H6 := Lib.hid (putL_len6 hn)
  go_enter Tryz.func31, Tryz.ntmps31
  go_wp2
  go_loopw [0, 3] (fun vn b wr => ∃ (m K : Nat) (A : Option Addr) (c : Nat) (pre : List UInt8), m ≤ n ∧ vn = .int .i64 m ∧ b = .slice A K c ∧ Hid (K = pre.length) ∧ Hid (pre ++ putL m = putL n) ∧ Ow wr w.heap.size (.slice A K c) pre ∧ Below w.heap.size w wr) (fun vn _ _ => (intOf vn).toNat)
  case atStart => exact ⟨n, 0, none, 0, [], Nat.le_refl _, rfl, rfl, rfl, rfl, O0.out, Below.refl _ _⟩
  case round =>
    clear O0
    obtain ⟨m, K, A, c, pre, hm, rfl, rfl, hK, hp, ho, hb⟩ := hrel
    have hlen : pre.length + (putL m).length ≤ 6 := by have h := H6.out; rw [← hp.out, List.length_append] at h; exact h
    have hK6 : K ≤ 6 := by rw [hK.out]; omega
    by_cases hlt : 128 ≤ m
    · obtain ⟨x, hx⟩ : ∃ x, x = UInt8.ofNat (m % 128 + 128) := ⟨_, rfl⟩
      have gx : (m : Int) % 128 + 128 = (x.toNat : Int) := by rw [hx, byte_of (by omega)]; omega
      have hpx : (pre ++ [x]) ++ putL (m / 128) = putL n := by rw [← hp.out, putL_hi hlt, hx, List.append_assoc]; rfl
      have Hpx := Lib.hid hpx
      have O1 : Hid (Ow (wr.alloc (.cells #[.int .u8 (x.toNat : Int)] 5)) w.heap.size (.slice A K c) pre) := Lib.hid (ho.below (below_new wr _) (Nat.le_refl _))
      have R1 : Hid (Rb (wr.alloc (.cells #[.int .u8 (x.toNat : Int)] 5)) (.slice (some ⟨wr.heap.size, 0, none⟩) 1 1) [x]) := Lib.hid (rb_one wr x)
      have Q1 : Hid (pre.length + ([x] : List UInt8).length ≤ 140737488355328) := Lib.hid (by simp; omega)
      have L1 : Hid (Below w.heap.size w (wr.alloc (.cells #[.int .u8 (x.toNat : Int)] 5))) := Lib.hid (hb.alloc hb.size _)
      have S1 : Hid (w.heap.size ≤ (wr.alloc (.cells #[.int .u8 (x.toNat : Int)] 5)).heap.size) := Lib.hid L1.out.size
      have HK := Lib.hid hK.out
      clear hx hpx ho hb hlen hp hK
      go_wp2_with (refine wpList_app (o := ⟨some 19, _, _, _, _, _⟩) rfl _ _ rfl w.heap.size _ _ pre [x] rfl rfl O1.out R1.out Q1.out S1.out ?_)
      intro v2 w2 o2 l2
      have L2 := L1.out.trans l2
      obtain ⟨A2, c2, rfl, _⟩ := o2.rb.shape
      clear O1 R1 Q1 S1 L1 l2 gx
      go_wp2
      go_roundw
      case rel => exact ⟨m / 128, _, A2, c2, pre ++ [x], by omega, by go_num, rfl, rfl, Hpx.out, o2, L2⟩
      case measure => simp [intOf]; omega
    · obtain ⟨x, hx⟩ : ∃ x, x = UInt8.ofNat m := ⟨_, rfl⟩
      have gx : IntKind.u8.wrap (m : Int) = (x.toNat : Int) := by rw [hx, byte_of (by omega), IntKind.wrap_u8']; omega
      have hpx : pre ++ [x] = putL n := by rw [← hp.out, putL_lo (by omega), hx]
      have Hpx := Lib.hid hpx
      have O1 : Hid (Ow (wr.alloc (.cells #[.int .u8 (x.toNat : Int)] 5)) w.heap.size (.slice A K c) pre) := Lib.hid (ho.below (below_new wr _) (Nat.le_refl _))
      have R1 : Hid (Rb (wr.alloc (.cells #[.int .u8 (x.toNat : Int)] 5)) (.slice (some ⟨wr.heap.size, 0, none⟩) 1 1) [x]) := Lib.hid (rb_one wr x)
      have Q1 : Hid (pre.length + ([x] : List UInt8).length ≤ 140737488355328) := Lib.hid (by simp; omega)
      have L1 : Hid (Below w.heap.size w (wr.alloc (.cells #[.int .u8 (x.toNat : Int)] 5))) := Lib.hid (hb.alloc hb.size _)
      have S1 : Hid (w.heap.size ≤ (wr.alloc (.cells #[.int .u8 (x.toNat : Int)] 5)).heap.size) := Lib.hid L1.out.size
      clear hx hpx ho hb hlen hp hK
      go_wp2_with (refine wpList_app (o := ⟨some 26, _, _, _, _, _⟩) rfl _ _ rfl w.heap.size _ _ pre [x] rfl rfl O1.out R1.out Q1.out S1.out ?_)
      intro v2 w2 o2 l2
      have L2 := L1.out.trans l2
      rw [Hpx.out] at o2
      obtain ⟨A2, c2, rfl, _⟩ := o2.rb.shape
      have R2 := Lib.hid o2
      clear O1 R1 Q1 S1 L1 l2 gx o2
      go_wp2
      go_ret
      exact ⟨_, rfl, R2.out, L2⟩
theorem pre_len {base text pre m : Bs} (hb : base.length ≤ 10000) (ht : text.length ≤ 10000) (h : pre ++ m = makeL base text) : pre.length ≤ 10000000 := by
  have := makeL_len base text hb ht
  rw [← h, List.length_append] at this; omega
set_option maxHeartbeats 4000000 in
set_option maxRecDepth 100000 in
theorem RMake_any (base text : Bs) (hb : base.length ≤ 10000) (ht : text.length ≤ 10000) (w : World) : Calls Tryz.prog 23 #[SV base, SV text] w fun e w' => e = .returned (SV (makeL base text)) ∧ Below w.heap.size w w' := by
  have HP := Lib.hid (fun (n : Nat) (hn : n ≤ 1099511627776) W => RPutO_any n hn W)
  have H1 := Lib.hid (HP.out base.length (by omega) w)
  have H2 := Lib.hid (fun W => HP.out text.length (by omega) W)
  have HI := Lib.hid (fun (s : Bs) (hs : s.length ≤ 1000000) W => RInserts_any s hs W)
  have HL := Lib.hid (fun (left : Bs) (hl : left.length ≤ 100000) W => RLongest_any base left (by omega) hl W)
  unfold SV
  go_enter Tryz.func23, Tryz.ntmps23
  go_wp2_with fail
  refine H1.out.mono ?_
  rintro e w1 ⟨v1, rfl, o1, b1⟩
  have O1 := Lib.hid o1; have B1 := Lib.hid b1
  clear o1 b1 H1
  go_wp2_with fail
  refine (H2.out _).mono ?_
  rintro e w2 ⟨v2, rfl, o2, b2⟩
  have O2 := Lib.hid (O1.out.below b2 (Nat.le_refl _)); have R2 := Lib.hid o2.rb; have B2 : Hid (Below w.heap.size w w2) := Lib.hid (B1.out.trans (b2.mono B1.out.size))
  have Q2 : Hid ((putL base.length).length + (putL text.length).length ≤ 140737488355328) := Lib.hid (by have := putL_len6 (n := base.length) (by omega); have := putL_len6 (n := text.length) (by omega); omega)
  have S2 : Hid (w.heap.size ≤ w2.heap.size) := Lib.hid B2.out.size
  clear o2 b2 H2 O1 B1
  go_wp2_with (refine wpList_app (o := ⟨some 16, _, _, _, _, _⟩) rfl _ _ rfl w.heap.size _ _ _ _ rfl rfl O2.out R2.out Q2.out S2.out ?_)
  intro v3 w3 o3 b3
  have O3 := Lib.hid o3; have B3 := Lib.hid (B2.out.trans b3)
  clear o3 b3 O2 R2 Q2 S2 B2
  go_wp2
  go_loopw [5, 6, 7, 8, 9] (fun v5 v6 v7 _ _ wr => ∃ (u : Value) (pre off : Bs) (i : Nat), u = v5 ∧ v6 = .string ⟨off.toArray⟩ ∧ v7 = .int .i64 (i : Int) ∧ i ≤ text.length ∧ off.length ≤ i ∧ Hid (pre ++ mkS base off (text.drop i) = makeL base text) ∧ Hid (Ow wr w.heap.size v5 pre) ∧ Hid (Below w.heap.size w wr)) (fun _ _ v7 _ _ _ => text.length - (intOf v7).toNat)
  case atStart => exact ⟨_, _, [], 0, rfl, rfl, rfl, Nat.zero_le _, Nat.zero_le _, Lib.hid rfl, O3, B3⟩
  case round =>
    clear O3 B3
    obtain ⟨u, pre, off, i, h0, rfl, rfl, hi, hoff, HM, HO, HB⟩ := hrel
    subst h0
    have Hpl := Lib.hid (pre_len hb ht HM.out)
    by_cases hlt : i < text.length
    · obtain ⟨left, hleft⟩ : ∃ left, left = text.drop i := ⟨_, rfl⟩
      have hll : left.length = text.length - i := by rw [hleft, List.length_drop]
      have hne : left ≠ [] := by intro e; rw [e] at hll; simp at hll; omega
      have hc0 : ∀ W, (Instr.sliceAt 9 (.string ⟨text.toArray⟩) (some (.int .i64 (i : Int))) none none).run Tryz.prog W = .ok (.string ⟨left.toArray⟩) W := fun W => cut_from W text left i hi (by rw [extract_S, List.take_length, hleft])
      obtain ⟨x, hx⟩ : ∃ x, x = text[i] := ⟨_, rfl⟩
      have htake : left.take 1 = [x] := by rw [hleft, hx, List.drop_eq_getElem_cons hlt]; rfl
      have hc1 : ∀ W, (Instr.sliceAt 9 (.string ⟨text.toArray⟩) (some (.int .i64 (i : Int))) (some (.int .i64 ((i : Int) + 1))) none).run Tryz.prog W = .ok (.string ⟨[x].toArray⟩) W := fun W => by
        have := cut_two W text [x] i (i + 1) (by omega) hlt (by rw [extract_S, ← htake, hleft, List.drop_take]; congr 2; congr 1; omega)
        rwa [Int.natCast_add] at this
      have HC1 := Lib.hid hc1
      have HM2 := HM.out
      rw [← hleft] at HM2
      obtain ⟨f, hf⟩ : ∃ f, f = (lng base left).1 := ⟨_, rfl⟩
      obtain ⟨n, hn⟩ : ∃ n, n = (lng base left).2 := ⟨_, rfl⟩
      have hnl := lng_le base left
      have hfn := lng_in base left
      have HLi : Hid (∀ W, Calls Tryz.prog 45 #[.string ⟨base.toArray⟩, .string ⟨left.toArray⟩] W fun e w' => e = .returned (.tuple #[.int .i64 (f : Int), .int .i64 (n : Int)]) ∧ Below W.heap.size W w') := Lib.hid fun W => by rw [hf, hn]; exact HL.out left (by omega) W
      rw [← hn] at hnl hfn
      rw [← hf] at hfn
      by_cases h5 : n < 5
      · have HG : Hid (pre ++ mkS base (off ++ [x]) (text.drop (i + 1)) = makeL base text) := Lib.hid (by
          rw [← HM2, mkS_lo hne (by rw [← hn]; exact h5), htake, hleft, List.drop_drop])
        clear HM HM2 hleft hll hne hx htake hc1 hf hn
        go_wp2_with fail
        refine (HLi.out _).mono ?_
        rintro e w4 ⟨rfl, b4⟩
        have B4 : Hid (Below w.heap.size w w4) := Lib.hid (HB.out.trans (b4.mono HB.out.size))
        have O4 := Lib.hid (HO.out.below b4 (Nat.le_refl _))
        clear b4 HB HO HLi hc0
        have hc1 := HC1.out
        go_wp2
        go_roundw
        case rel => exact ⟨_, pre, off ++ [x], i + 1, rfl, by rw [← append_S], by go_num, hlt, by simp; omega, HG, O4, B4⟩
        case measure => simp [intOf]; omega
      · have HG : Hid (pre ++ ins off ++ [128] ++ putL f ++ putL n ++ mkS base [] (text.drop (i + n)) = makeL base text) := Lib.hid (by
          rw [← HM2, mkS_hi (left := left) (by rw [← hn]; omega), ← hf, ← hn, hleft, List.drop_drop]; simp)
        have HPf := Lib.hid (fun W => HP.out f (by omega) W)
        have HPn := Lib.hid (fun W => HP.out n (by omega) W)
        have HIo := Lib.hid (fun W => HI.out off (by omega) W)
        have hlo := ins_len _ off (Nat.le_refl _)
        have hlf := putL_len6 (n := f) (by omega)
        have hln := putL_len6 (n := n) (by omega)
        have hin : i + n ≤ text.length := by omega
        have Q5 : Hid (pre.length + (ins off).length ≤ 140737488355328) := Lib.hid (by have := Hpl.out; omega)
        have Q6 : Hid ((pre ++ ins off).length + ([128] : Bs).length ≤ 140737488355328) := Lib.hid (by have := Hpl.out; simp only [List.length_append, List.length_singleton]; omega)
        have Q7 : Hid ((pre ++ ins off ++ [128]).length + (putL f).length ≤ 140737488355328) := Lib.hid (by have := Hpl.out; simp only [List.length_append, List.length_singleton]; omega)
        have Q8 : Hid ((pre ++ ins off ++ [128] ++ putL f).length + (putL n).length ≤ 140737488355328) := Lib.hid (by have := Hpl.out; simp only [List.length_append, List.length_singleton]; omega)
        clear HM HM2 hleft hll hne hx htake hc1 hf hn hlo hlf hln HC1
        go_wp2_with fail
        refine (HLi.out _).mono ?_
        rintro e w4 ⟨rfl, b4⟩
        have B4 : Hid (Below w.heap.size w w4) := Lib.hid (HB.out.trans (b4.mono HB.out.size))
        have O4 := Lib.hid (HO.out.below b4 (Nat.le_refl _))
        clear b4 HB HO HLi hc0
        go_wp2_with fail
        refine (HIo.out _).mono ?_
        rintro e w5 ⟨v5, rfl, o5, b5⟩
        have B5 : Hid (Below w.heap.size w w5) := Lib.hid (B4.out.trans (b5.mono B4.out.size))
        have O5 := Lib.hid (O4.out.below b5 (Nat.le_refl _)); have R5 := Lib.hid o5.rb
        have S5 : Hid (w.heap.size ≤ w5.heap.size) := Lib.hid B5.out.size
        clear o5 b5 B4 O4 HIo
        go_wp2_with (refine wpList_app (o := ⟨some 43, _, _, _, _, _⟩) rfl _ _ rfl w.heap.size _ _ _ _ rfl rfl O5.out R5.out Q5.out S5.out ?_)
        intro v6 w6 o6 b6
        have B6 : Hid (Below w.heap.size w w6) := Lib.hid (B5.out.trans b6)
        obtain ⟨w7, hw7⟩ : ∃ z, z = w6.alloc (.cells #[.int .u8 128] 5) := ⟨_, rfl⟩
        have b7 : Below w6.heap.size w6 w7 := by rw [hw7]; exact below_new _ _
        have B7 : Hid (Below w.heap.size w w7) := Lib.hid (B6.out.trans (b7.mono B6.out.size))
        have O7 := Lib.hid (o6.below b7 (Nat.le_refl _))
        have R7 : Hid (Rb w7 (.slice (some ⟨w6.heap.size, 0, none⟩) 1 1) [128]) := Lib.hid (by rw [hw7]; exact rb_one w6 128)
        have S7 : Hid (w.heap.size ≤ w7.heap.size) := Lib.hid B7.out.size
        clear o6 b6 b7 B5 O5 R5 S5 Q5 B6
        subst hw7
        go_wp2_with (refine wpList_app (o := ⟨some 46, _, _, _, _, _⟩) rfl _ _ rfl w.heap.size _ _ _ _ rfl rfl O7.out R7.out Q6.out S7.out ?_)
        intro v8 w8 o8 b8
        have B8 : Hid (Below w.heap.size w w8) := Lib.hid (B7.out.trans b8)
        have O8 : Hid (Ow w8 w.heap.size v8 (pre ++ ins off ++ [128])) := Lib.hid (by simpa only [List.append_assoc, List.cons_append, List.nil_append, List.singleton_append] using o8)
        clear o8 b8 B7 O7 R7 S7 Q6
        go_wp2_with fail
        refine (HPf.out _).mono ?_
        rintro e w9 ⟨v9, rfl, o9, b9⟩
        have B9 : Hid (Below w.heap.size w w9) := Lib.hid (B8.out.trans (b9.mono B8.out.size))
        have O9 := Lib.hid (O8.out.below b9 (Nat.le_refl _)); have R9 := Lib.hid o9.rb
        have S9 : Hid (w.heap.size ≤ w9.heap.size) := Lib.hid B9.out.size
        clear o9 b9 B8 O8 HPf
        go_wp2_with (refine wpList_app (o := ⟨some 50, _, _, _, _, _⟩) rfl _ _ rfl w.heap.size _ _ _ _ rfl rfl O9.out R9.out Q7.out S9.out ?_)
        intro va wa oa ba
        have Ba : Hid (Below w.heap.size w wa) := Lib.hid (B9.out.trans ba)
        have Oa : Hid (Ow wa w.heap.size va (pre ++ ins off ++ [128] ++ putL f)) := Lib.hid (by simpa only [List.append_assoc, List.cons_append, List.nil_append, List.singleton_append] using oa)
        clear oa ba B9 O9 R9 S9 Q7
        go_wp2_with fail
        refine (HPn.out _).mono ?_
        rintro e wb ⟨vb, rfl, ob, bb⟩
        have Bb : Hid (Below w.heap.size w wb) := Lib.hid (Ba.out.trans (bb.mono Ba.out.size))
        have Ob := Lib.hid (Oa.out.below bb (Nat.le_refl _)); have Rb' := Lib.hid ob.rb
        have Sb : Hid (w.heap.size ≤ wb.heap.size) := Lib.hid Bb.out.size
        clear ob bb Ba Oa HPn
        go_wp2_with (refine wpList_app (o := ⟨some 54, _, _, _, _, _⟩) rfl _ _ rfl w.heap.size _ _ _ _ rfl rfl Ob.out Rb'.out Q8.out Sb.out ?_)
        intro vc wc oc bc
        have Bc : Hid (Below w.heap.size w wc) := Lib.hid (Bb.out.trans bc)
        have Oc : Hid (Ow wc w.heap.size vc (pre ++ ins off ++ [128] ++ putL f ++ putL n)) := Lib.hid (by simpa only [List.append_assoc, List.cons_append, List.nil_append, List.singleton_append] using oc)
        clear oc bc Bb Ob Rb' Sb Q8
        go_wp2
        go_roundw
        case rel => exact ⟨_, _, [], i + n, rfl, rfl, by go_num, hin, Nat.zero_le _, HG, Oc, Bc⟩
        case measure => simp [intOf]; omega
    · have hie : text.drop i = [] := List.drop_eq_nil_of_le (by omega)
      have HG : Hid (pre ++ ins off = makeL base text) := Lib.hid (by rw [← HM.out, hie, mkS_nil])
      have HIo := Lib.hid (fun W => HI.out off (by omega) W)
      have hlo := ins_len _ off (Nat.le_refl _)
      have Q5 : Hid (pre.length + (ins off).length ≤ 140737488355328) := Lib.hid (by have := Hpl.out; omega)
      clear hie HM hlo
      go_wp2_with fail
      refine (HIo.out _).mono ?_
      rintro e w5 ⟨v5, rfl, o5, b5⟩
      have B5 : Hid (Below w.heap.size w w5) := Lib.hid (HB.out.trans (b5.mono HB.out.size))
      have O5 := Lib.hid (HO.out.below b5 (Nat.le_refl _)); have R5 := Lib.hid o5.rb
      have S5 : Hid (w.heap.size ≤ w5.heap.size) := Lib.hid B5.out.size
      clear o5 b5 HB HO HIo
      go_wp2_with (refine wpList_app (o := ⟨some 61, _, _, _, _, _⟩) rfl _ _ rfl w.heap.size _ _ _ _ rfl rfl O5.out R5.out Q5.out S5.out ?_)
      intro v6 w6 o6 b6
      have B6 : Hid (Below w.heap.size w w6) := Lib.hid (B5.out.trans b6)
      have cv := o6.rb.conv
      rw [HG.out] at cv
      clear o6 b6 B5 O5 R5 S5 Q5 HG
      go_wp2
      go_ret
      exact ⟨rfl, B6.out⟩
end Go.Proofs.YtgjddkeogboojaaGreatDoor.Dl
namespace Go.Proofs.YtgjddkeogboojaaGreatDoor.Pk
open Go.Proofs.YtgjddkeogboojaaGreatDoor
open Go Go.RowKit Go.Maps
theorem u8_all {p : UInt8 → Bool} (h : ∀ n : Fin 256, p (UInt8.ofFin n) = true) (c : UInt8) : p c = true := by have := h c.toFin; simpa using this
theorem isD_of_div (c : UInt8) : isD (hexD (c / 16)) = true ∧ isD (hexD (c % 16)) = true := by
  have h : (isD (hexD (c / 16)) && isD (hexD (c % 16))) = true := u8_all (p := fun c => isD (hexD (c / 16)) && isD (hexD (c % 16))) (by decide +kernel) c
  simpa using h
theorem named_nameL (l : List UInt8) : namedB (nameL l) = true := by
  unfold namedB
  rw [nameL_length]
  simp only [beq_self_eq_true, Bool.true_and]
  unfold nameL
  generalize sumL l = s
  induction s with
  | nil => rfl
  | cons c s ih => simp only [List.flatMap_cons, List.all_append, ih, List.all_cons, List.all_nil, (isD_of_div c).1, (isD_of_div c).2, Bool.and_true]
structure Wd (w : World) : Prop where
  ob : Ob w
  et : Et w
theorem Wd.below {w w' : World} (h : Wd w) (hb : Below w.heap.size w w') : Wd w' := ⟨h.ob.below hb, et_below h.et hb⟩
theorem names_none {l : List Ent} (h : ∀ e ∈ l, e.base.length ≤ 1000000) : ∀ x ∈ namesL l, x.length ≤ 1000000 := fun x hx => by
  obtain ⟨e, he, rfl⟩ := List.mem_map.1 hx
  exact h e (List.mem_filter.1 he).1
/-- With nothing beside. -/
theorem Resolve_nil {w : World} {v : Value} {l : List Ent} (h : EntsR w v l) (hs : Smal l) (hd : ∀ e ∈ l, e.data.length ≤ 10000) (hw : Wd w) : Calls Tryz.prog 21 #[v, .slice none 0 0] w (RsOP l [] w) :=
  Resolve_any h hs hd (fun x hx => by cases hx) hw.ob hw.et fun hr w1 b1 => workOf_any (h.below b1 (Nat.le_refl _)) (rightL_iff.1 hr).1 (names_none fun e he => (hs.2 e he).1)
theorem Deep_nil {w : World} {v : Value} {l : List Ent} (h : EntsR w v l) (hs : Smal l) (hd : ∀ e ∈ l, e.data.length ≤ 10000) (hw : Wd w) : Calls Tryz.prog 22 #[v, .slice none 0 0] w (RsIP l [] w) :=
  Deep_any h hs hd (fun x hx => by cases hx) hw.ob hw.et fun hr w1 b1 => workOf_any (h.below b1 (Nat.le_refl _)) (rightL_iff.1 hr).1 (names_none fun e he => (hs.2 e he).1)
theorem ents_one (W : World) (a : Ent) : EntsR (W.alloc (.cells #[.int .i64 a.kind, .int .i64 a.back, .string ⟨a.base.toArray⟩, .string ⟨a.data.toArray⟩] 51)) (.slice (some ⟨W.heap.size, 0, none⟩) 1 1) [a] :=
  .inr ⟨W.heap.size, 0, 1, rfl, Nat.le_refl _, by simp, fun j hj z hz i hi => by
    rw [Nat.zero_add, cell_of_row (W.alloc _) W.heap.size (j * 4 + i) _ _ _ (heap_alloc_new W _)]
    match j, hj with
    | 0, _ =>
      cases hz
      match i, hi with
      | 0, _ => rfl
      | 1, _ => rfl
      | 2, _ => rfl
      | 3, _ => rfl⟩
theorem ents_two (W : World) (a b : Ent) : EntsR (W.alloc (.cells #[.int .i64 a.kind, .int .i64 a.back, .string ⟨a.base.toArray⟩, .string ⟨a.data.toArray⟩, .int .i64 b.kind, .int .i64 b.back, .string ⟨b.base.toArray⟩, .string ⟨b.data.toArray⟩] 51)) (.slice (some ⟨W.heap.size, 0, none⟩) 2 2) [a, b] :=
  .inr ⟨W.heap.size, 0, 2, rfl, Nat.le_refl _, by simp, fun j hj z hz i hi => by
    rw [Nat.zero_add, cell_of_row (W.alloc _) W.heap.size (j * 4 + i) _ _ _ (heap_alloc_new W _)]
    match j, hj with
    | 0, _ =>
      cases hz
      match i, hi with
      | 0, _ => rfl
      | 1, _ => rfl
      | 2, _ => rfl
      | 3, _ => rfl
    | 1, _ =>
      cases hz
      match i, hi with
      | 0, _ => rfl
      | 1, _ => rfl
      | 2, _ => rfl
      | 3, _ => rfl⟩
theorem helds_one (W : World) (a : Hld) : HldsR (W.alloc (.cells #[.string ⟨a.id.toArray⟩, .int .i64 a.kind, .string ⟨a.data.toArray⟩] 47)) (.slice (some ⟨W.heap.size, 0, none⟩) 1 1) [a] :=
  .inr ⟨W.heap.size, 0, 1, rfl, Nat.le_refl _, by simp, fun j hj z hz i hi => by
    rw [Nat.zero_add, cell_of_row (W.alloc _) W.heap.size (j * 3 + i) _ _ _ (heap_alloc_new W _)]
    match j, hj with
    | 0, _ =>
      cases hz
      match i, hi with
      | 0, _ => rfl
      | 1, _ => rfl
      | 2, _ => rfl⟩
/-- What the head is told. -/
structure HeadF (d x : Bs) : Prop where
  made : ∀ W, Calls Tryz.prog 23 #[.string ⟨#[97, 98, 99, 100, 101, 102]⟩, .string ⟨#[120, 97, 98, 99, 100, 101, 102]⟩] W (RetBelow (.string ⟨d.toArray⟩) W)
  put : ∀ W (v : Value), Wd W → EntsR W v (chainL h6 d 1) → Calls Tryz.prog 12 #[v] W fun e w' => ∃ A N c b, e = .returned (.tuple #[.slice A N c, .int .i64 0]) ∧ 36 < N ∧ N = b.length ∧ N ≤ 40000 ∧ getP b = some (chainL h6 d 1) ∧ getP (b.drop 1) = none ∧ Dl.Rb w' (.slice A N c) b ∧ Below W.heap.size W w'
  res : ∀ W (v : Value), Wd W → EntsR W v (chainL h6 d 1) → Calls Tryz.prog 21 #[v, .slice none 0 0] W fun e w' => ∃ g c, e = .returned (.tuple #[.slice (some ⟨g, 0, none⟩) 2 c, .int .i64 0]) ∧ w'.cell? ⟨g, 3, none⟩ = some (.string ⟨#[120, 97, 98, 99, 100, 101, 102]⟩) ∧ Below W.heap.size W w'
  deep : ∀ W (v : Value), Wd W → EntsR W v (chainL h6 d 1) → Calls Tryz.prog 22 #[v, .slice none 0 0] W fun e w' => ∃ g c, e = .returned (.tuple #[.slice (some ⟨g, 0, none⟩) 2 c, .int .i64 0]) ∧ w'.cell? ⟨g, 1, none⟩ = some (.int .i64 1) ∧ Below W.heap.size W w'
  nm : ∀ W, Calls Tryz.prog 26 #[.slice none 0 0] W (RetBelow (.string ⟨x.toArray⟩) W)
  lack : ∀ W, Wd W → Calls Tryz.prog 21 #[.slice (some ⟨W.heap.size, 0, none⟩) 1 1, .slice none 0 0] (W.alloc (.cells #[.int .i64 7, .int .i64 0, .string ⟨x.toArray⟩, .string ⟨#[]⟩] 51)) (RetBelow (.tuple #[.slice none 0 0, .int .i64 51]) W)
  right : ∀ W (v : Value), EntsR W v (chainL h6 d 1) → Calls Tryz.prog 16 #[v] W (RetBelow (.bool true) W)
  whole : ∀ W, Calls Tryz.prog 20 #[.slice (some ⟨W.heap.size, 0, none⟩) 1 1] (W.alloc (.cells #[.string ⟨#[]⟩, .int .i64 0, .string ⟨#[]⟩] 47)) fun e w' => ∃ A c, e = .returned (.slice A 1 c) ∧ Below W.heap.size W w'
theorem small_data {l : List Ent} (h : SmallE l) : ∀ e ∈ l, e.data.length ≤ 10000 := fun e he => by have := h.mem he; omega
/-- A row's own block. -/
theorem own_at {α : Type} {t : TypeId} {k : Nat} {f : α → List Value} {w : World} {B : Nat} {v : Value} {l : List α} (hf : ∀ x, (f x).length = k) (h : OwK t k f w B v l) (hl : 0 < l.length) : ∃ g c, v = .slice (some ⟨g, 0, none⟩) l.length c ∧ ∀ (j : Nat) (x : α), l[j]? = some x → ∀ i, i < k → w.cell? ⟨g, j * k + i, none⟩ = (f x)[i]? := by
  obtain ⟨h1, h2⟩ := h
  rcases h2 with ⟨rfl, h2⟩ | ⟨g, cap, cur, rfl, hb, hg, hn, hm, hs, ht⟩
  · omega
  · refine ⟨g, cap, rfl, fun j x hx i hi => ?_⟩
    obtain ⟨hj, -⟩ := List.getElem?_eq_some_iff.1 hx
    rw [cell_of_row w g (j * k + i) _ _ _ hg]
    have hlt : j * k + i < l.length * k := by
      have : (j + 1) * k ≤ l.length * k := Nat.mul_le_mul_right k hj
      rw [Nat.add_mul] at this; omega
    have h3 : (cur.toList.take (l.length * k))[j * k + i]? = (l.flatMap f)[j * k + i]? := by rw [ht]
    rw [List.getElem?_take, if_pos hlt, Array.getElem?_toList, flat_get hf l j x hx i hi] at h3
    exact h3
set_option linter.constructorNameAsVariable false in
theorem headF : HeadF hd (nameL []) where
  made W := Dl.RMake_any h6 h7 (by decide) (by decide) W
  put W v hw h := by
    refine (Put_any h head_small.smal (fun hr => pack_small head_small hr) hw.ob.pr hw.et).mono ?_
    rintro e w' ⟨b, ⟨hr, -⟩ | ⟨hr, A, N, c, rfl, hN, ho⟩⟩
    · rw [head_right] at hr; cases hr
    · have hl := packL_len hr
      have hs := pack_small head_small hr
      have hrb := ho.rb
      exact ⟨A, N, c, packL (chainL h6 hd 1), rfl, by omega, hN, by omega, getP_iff.2 ⟨hr, rfl, by omega⟩, get_rest _, hrb, b⟩
  res W v hw h := by
    refine (Resolve_nil h head_small.smal (small_data head_small) hw).mono ?_
    rintro e w' ⟨b, hh⟩
    rw [head_res] at hh
    obtain ⟨u, rfl, ho⟩ := hh
    obtain ⟨g, c, rfl, hc⟩ := own_at (k := 2) (f := obC) (fun _ => rfl) ho (by show 0 < 2; omega)
    exact ⟨g, c, rfl, hc 1 (1, h7) rfl 1 (by omega), b⟩
  deep W v hw h := by
    refine (Deep_nil h head_small.smal (small_data head_small) hw).mono ?_
    rintro e w' ⟨b, hh⟩
    rw [head_res] at hh
    obtain ⟨u, rfl, ho⟩ := hh
    obtain ⟨g, c, rfl, hc⟩ := own_at (k := 1) (f := intC) (fun _ => rfl) ho (by show 0 < 2; omega)
    exact ⟨g, c, rfl, hc 1 1 rfl 0 Nat.zero_lt_one, b⟩
  nm W := RName_any W (.slice none 0 0) [] (by decide) (.inl ⟨⟨_, rfl⟩, rfl⟩)
  lack W hw := by
    have he := ents_one W ⟨7, 0, nameL [], []⟩
    have hl := nameL_length []
    refine (Resolve_nil he ⟨by simp, fun e h => by rw [List.mem_singleton.1 h]; simp [hl]⟩ (fun e h => by rw [List.mem_singleton.1 h]; simp) (hw.below (below_new W _))).mono ?_
    rintro e w' ⟨b, hh⟩
    rw [lack_one (named_nameL _) (by simp) rfl] at hh
    exact ⟨hh, (below_new W _).trans (b.mono (by simp))⟩
  right W v h := by
    refine (Right_any' h head_small.smal).mono ?_
    rintro e w' ⟨rfl, b⟩
    exact ⟨by rw [head_right], b⟩
  whole W := by
    refine (Whole_any (helds_one W ⟨[], 0, []⟩) (by simp)).mono ?_
    rintro e w' ⟨u, rfl, hn, b⟩
    obtain ⟨g, c, rfl, -⟩ := own_at (f := entC) (fun _ => rfl) hn (by simp)
    exact ⟨_, c, rfl, (below_new W _).trans (b.mono (by simp))⟩
set_option maxHeartbeats 8000000 in
set_option maxRecDepth 100000 in
theorem head_any (w : World) (hw : Wd w) : Calls Tryz.prog 10 #[] w (RetBelow (.bool true) w) := by
  have HF := Lib.hid headF
  have Hw := Lib.hid hw
  obtain ⟨d, hd⟩ : ∃ d, d = hd := ⟨_, rfl⟩
  obtain ⟨x, hx⟩ : ∃ x, x = nameL [] := ⟨_, rfl⟩
  rw [← hd, ← hx] at HF
  clear hd hx hw
  go_enter Tryz.func10, Tryz.ntmps10
  go_wp2_with fail
  refine (HF.out.made _).mono ?_
  rintro e w1 ⟨rfl, b1⟩
  obtain ⟨w2, hw2⟩ : ∃ z, z = w1.alloc (.cells #[.int .i64 1, .int .i64 0, .string ⟨#[]⟩, .string ⟨#[97, 98, 99, 100, 101, 102]⟩, .int .i64 6, .int .i64 1, .string ⟨#[]⟩, .string ⟨d.toArray⟩] 51) := ⟨_, rfl⟩
  have hL : EntsR w2 (.slice (some ⟨w1.heap.size, 0, none⟩) 2 2) (chainL h6 d 1) := by rw [hw2]; exact ents_two w1 ⟨1, 0, [], h6⟩ ⟨6, 1, [], d⟩
  have b2 : Below w.heap.size w w2 := b1.trans (by rw [hw2]; exact (below_new w1 _).mono b1.size)
  have HW2 := Lib.hid hw2; have HB2 := Lib.hid b2; have HL := Lib.hid hL
  have HPut := Lib.hid (HF.out.put w2 _ (Hw.out.below b2) hL)
  clear b1 hw2 b2 hL
  go_upto_region 2 with fail
  rw [← HW2.out]
  clear HW2
  go_wp2_with fail
  refine HPut.out.mono ?_
  rintro e w3 ⟨A, N, c, b, rfl, hn, hN, hN2, hg, hg1, hr, b3⟩
  have HB3 := Lib.hid (HB2.out.trans (b3.mono HB2.out.size)); have HL3 := Lib.hid (HL.out.below b3 (Nat.le_refl _))
  have HGet := Lib.hid (Get_any hr (by omega) (Hw.out.below HB3.out).ob.pr (Hw.out.below HB3.out).et)
  have hN0 : ((N : Int) == 0) = false := by rw [beq_eq_false_iff_ne]; omega
  have HG1 := Lib.hid (And.intro hg1 (And.intro hn (And.intro hN hN2))); have HR := Lib.hid hr; have Hg := Lib.hid hg
  clear b3 hg hg1 hr HPut hN HB2 HL hN2 hn
  go_wp2_with fail
  refine HGet.out.mono ?_
  rintro e w4 ⟨b4, ⟨l, v, hg, rfl, hv⟩ | ⟨hg, rfl⟩⟩
  rotate_left
  · rw [Hg.out] at hg; cases hg
  obtain rfl : chainL h6 d 1 = l := Option.some.inj (Hg.out.symm.trans hg)
  have hv' := hv.rd
  obtain ⟨A4, c4, rfl⟩ := hv'.shape
  have HB4 := Lib.hid (HB3.out.trans (b4.mono HB3.out.size)); have HL4 := Lib.hid (HL3.out.below b4 (Nat.le_refl _)); have HR4 := Lib.hid (HR.out.below b4 (Nat.le_refl _))
  have HRes := Lib.hid (HF.out.res w4 _ (Hw.out.below HB4.out) hv')
  clear b4 hg hv hv' HGet HL3 HR Hg
  go_wp2_with fail
  refine HRes.out.mono ?_
  rintro e w5 ⟨g5, c5, rfl, x5, b5⟩
  have HB5 := Lib.hid (HB4.out.trans (b5.mono HB4.out.size)); have HL5 := Lib.hid (HL4.out.below b5 (Nat.le_refl _)); have HR5 := Lib.hid (HR4.out.below b5 (Nat.le_refl _))
  have HDeep := Lib.hid (HF.out.deep w5 _ (Hw.out.below HB5.out) HL5.out)
  clear b5 HRes HL4 HR4 HB4
  go_wp2_with fail
  refine HDeep.out.mono ?_
  rintro e w6 ⟨g6, c6, rfl, x6, b6⟩
  have x5 := cell_to x5 b6
  have HB6 := Lib.hid (HB5.out.trans (b6.mono HB5.out.size)); have HL6 := Lib.hid (HL5.out.below b6 (Nat.le_refl _)); have HR6 := HR5.out.below b6 (Nat.le_refl _)
  obtain ⟨hg1, hn, hN, hN2⟩ := HG1.out
  have hr6 := HR6
  rw [hN] at hr6
  have hrc0 := hr6.from' 1 (by omega)
  rw [← hN] at hrc0
  obtain ⟨A7, N7, c7, hcut, hrc⟩ : ∃ A7 N7 c7, (∀ W, (Instr.sliceAt 23 (.slice A N c) (some (.int .i64 1)) none none).run Tryz.prog W = .ok (.slice A7 N7 c7) W) ∧ Dl.Rb w6 (.slice A7 N7 c7) (b.drop 1) := ⟨_, _, _, fun W => Dl.run_cut1 W A N c 1 (by omega), hrc0⟩
  have HGet := Lib.hid (Get_any hrc (by rw [List.length_drop]; omega) (Hw.out.below HB6.out).ob.pr (Hw.out.below HB6.out).et)
  have Hg1 := Lib.hid hg1
  clear b6 HDeep HL5 HR5 HB5 HR6 hr6 hrc hrc0 hg1 hn hN hN2 HG1 hN0
  go_wp2_with fail
  refine HGet.out.mono ?_
  rintro e w7 ⟨b7, ⟨l, v, hg, rfl, hv⟩ | ⟨hg, rfl⟩⟩
  · rw [Hg1.out] at hg; cases hg
  have x5 := cell_to x5 b7; have x6 := cell_to x6 b7
  have HB7 := Lib.hid (HB6.out.trans (b7.mono HB6.out.size)); have HL7 := Lib.hid (HL6.out.below b7 (Nat.le_refl _))
  clear b7 hg HGet Hg1 HB6 HL6 hcut
  go_wp2_with fail
  refine (HF.out.nm _).mono ?_
  rintro e w8 ⟨rfl, b8⟩
  have x5 := cell_to x5 b8; have x6 := cell_to x6 b8
  have HB8 := Lib.hid (HB7.out.trans (b8.mono HB7.out.size)); have HL8 := Lib.hid (HL7.out.below b8 (Nat.le_refl _))
  have HLk := Lib.hid (HF.out.lack w8 (Hw.out.below HB8.out))
  clear b8 HB7 HL7
  go_wp2_with fail
  refine HLk.out.mono ?_
  rintro e w9 ⟨rfl, b9⟩
  have x5 := cell_to x5 b9; have x6 := cell_to x6 b9
  have HB9 := Lib.hid (HB8.out.trans (b9.mono HB8.out.size)); have HL9 := Lib.hid (HL8.out.below b9 (Nat.le_refl _))
  have HRt := Lib.hid (HF.out.right w9 _ HL9.out)
  clear b9 HB8 HL8 HLk
  have h2 : (chainL h6 d 1).length = 2 := rfl
  rw [h2]
  go_wp2_with fail
  refine HRt.out.mono ?_
  rintro e w10 ⟨rfl, b10⟩
  have HB10 := Lib.hid (HB9.out.trans (b10.mono HB9.out.size))
  have HWh := Lib.hid (HF.out.whole w10)
  clear b10 HB9 HL9 HRt x5 x6
  go_wp2_with fail
  refine HWh.out.mono ?_
  rintro e w11 ⟨A11, c11, rfl, b11⟩
  have HB11 := Lib.hid (HB10.out.trans (b11.mono HB10.out.size))
  clear b11 HB10 HWh
  go_wp2_with fail
  go_ret
  exact ⟨rfl, HB11.out⟩
end Go.Proofs.YtgjddkeogboojaaGreatDoor.Pk
namespace Go.Proofs.YtgjddkeogboojaaGreatDoor.Pl
open Go.Proofs.YtgjddkeogboojaaGreatDoor Go.Proofs.YtgjddkeogboojaaGreatDoor.Pk
open Go Go.RowKit Go.Deep
instance : Inhabited Ent := ⟨noEnt⟩
theorem add_at (b off k : Nat) : (⟨b, off, none⟩ : Addr).add k = ⟨b, off + k, none⟩ := by
  unfold Addr.add; split <;> simp_all
section
variable {H : Type} {enc : TypeId × Value → H} {W : World} {base : Nat} {held : Bool}
/-- What came in is no greater than a reach. -/
def Fits (t : TypeId) (d : DataW H) : Prop := ∀ n ∈ d.weights Tryz.prog t, n ≤ reachBytes
theorem Fits.slice {t e : TypeId} {el sp : List (DataW H)} (h : Fits t (.slice el sp)) (hu : Tryz.prog.underlying t = some (.slice e)) : (el.length + sp.length) * Tryz.prog.bytesOf e ≤ reachBytes := h _ (by simp [DataW.weights, hu])
theorem mem_all {P : Program} {e : TypeId} {n : Nat} {d : DataW H} : ∀ {l : List (DataW H)}, d ∈ l → n ∈ d.weights P e → n ∈ DataW.weightsAll P e l
  | x :: l, hd, hn => by
    rw [DataW.weightsAll, List.mem_append]
    rcases List.mem_cons.1 hd with rfl | hd
    · exact .inl hn
    · exact .inr (mem_all hd hn)
theorem Fits.elem {t e : TypeId} {el sp : List (DataW H)} {d : DataW H} (h : Fits t (.slice el sp)) (hu : Tryz.prog.underlying t = some (.slice e)) (hd : d ∈ el) : Fits e d := fun n hn =>
  h _ (by simp only [DataW.weights, hu]; exact List.mem_cons_of_mem _ (List.mem_append_left _ (mem_all hd hn)))
theorem Fits.field {t : TypeId} {fs : Array Field} {xs : List (DataW H × List MemPlace)} {y : DataW H × List MemPlace} {i : Nat} {f : Field} (h : Fits t (.agg (xs.map (·.1)))) (hu : Tryz.prog.underlying t = some (.struct fs)) (hf : fs[i]? = some f) (hy : xs[i]? = some y) : Fits f.type y.1 := fun n hn =>
  h _ (by simp only [DataW.weights, hu]; exact DataW.weights_mem_each (j := i) (t := f.type) (d := y.1) (by simp [hf]) (by simp [hy]) n hn)
/-- A slice, opened. -/
theorem open_rd {α : Type} [Inhabited α] {t e : TypeId} {k fuel : Nat} {v : Value} {x : DataW H × List MemPlace} (f : α → List Value) (Q : α → Prop) (ht : Tryz.prog.underlying t = some (.slice e)) (hs : Tryz.prog.cellsOf e = k)
    (h : DataW.trod enc Tryz.prog W base (fun _ => true) held fuel t [v] = some x) (h0 : 0 < k) (hF : Fits t x.1) (hby : 0 < Tryz.prog.bytesOf e)
    (hel : ∀ b off n cs y, W.cells? base ⟨b, off, none⟩ k = some cs → DataW.trod enc Tryz.prog W base (fun _ => true) held n e cs = some y → Fits e y.1 → ∃ o, Q o ∧ ∀ i, i < k → W.cell? ⟨b, off + i, none⟩ = (f o)[i]?) :
    ∃ l : List α, l.length ≤ limW ∧ (∀ o ∈ l, Q o) ∧ RdK k f W v l := by
  rcases open_slice ht h with ⟨h0, _⟩ | ⟨a, len, cap, m, n, D, Pl, h0', hb, hl, hm, hmm, rfl, hx⟩
  · cases h0
    exact ⟨[], by simp, fun o ho => by simp at ho, .inl ⟨⟨_, _, rfl⟩, rfl⟩⟩
  · cases h0'
    have hlm : len ≤ m := by rw [hmm]; split <;> omega
    rw [hs] at hx
    by_cases hl0 : len = 0
    · subst hl0
      exact ⟨[], by simp, fun o ho => by simp at ho, .inl ⟨⟨_, _, rfl⟩, rfl⟩⟩
    have hsp : a.spot = none := by
      obtain ⟨cs, h1, _⟩ := hx 0 (by omega)
      obtain ⟨_, h3, h4⟩ := World.cells?_some h1
      have hc0 := h4 0 h0
      rw [List.getElem?_eq_getElem (by omega)] at hc0
      have hsp := World.cell?_spot hc0
      simpa [Addr.add] using hsp
    obtain ⟨b, off, sp⟩ := a
    cases hsp
    have each : ∀ i, i < len → ∃ o, Q o ∧ ∀ j, j < k → W.cell? ⟨b, off + i * k + j, none⟩ = (f o)[j]? := fun i hi => by
      obtain ⟨cs, h1, h2⟩ := hx i (by omega)
      rw [add_at] at h1
      exact hel _ _ _ _ _ h1 h2 (hF.elem ht (List.mem_map.2 ⟨i, List.mem_range.2 hi, rfl⟩))
    obtain ⟨g, hg⟩ := choose_lt each
    have hlen : ((List.range len).map g).length = len := by simp
    have hw := hF.slice ht
    have hw2 : len ≤ reachBytes := by
      refine Nat.le_trans ?_ hw
      simp only [List.length_map, List.length_range]
      exact Nat.le_trans (Nat.le_add_right _ _) (Nat.le_mul_of_pos_right _ hby)
    have hlt : b < W.heap.size := by
      obtain ⟨cs, h1, _⟩ := hx 0 (by omega)
      obtain ⟨_, h3, h4⟩ := World.cells?_some h1
      have hc0 := h4 0 h0
      rw [List.getElem?_eq_getElem (by omega), add_at, add_at] at hc0
      exact World.block_lt_of_cell? W _ hc0
    refine ⟨(List.range len).map g, by rw [hlen]; simp [reachBytes] at hw2; unfold limW; omega, fun o ho => ?_, .inr ⟨b, off, cap, by rw [hlen], by rw [hlen]; exact hl, hlt, fun j hj x hx i hi => ?_⟩⟩
    · obtain ⟨i, hi, rfl⟩ := List.mem_map.1 ho
      exact (hg i (List.mem_range.1 hi)).1
    · rw [hlen] at hj
      have eo : g j = x := by simpa [hj] using hx
      subst eo
      exact (hg j hj).2 i hi
theorem cell1S : Tryz.prog.cellsOf 9 = 1 := by kernel_rfl
theorem cell1I : Tryz.prog.cellsOf 3 = 1 := by kernel_rfl
theorem fld {n off k : Nat} {t : TypeId} {cs : List Value} {y : Option (DataW H × List MemPlace)} (hc : Tryz.prog.cellsOf t = k) (h : DataW.trod enc Tryz.prog W base (fun _ => true) held n t ((cs.drop off).take (Tryz.prog.cellsOf t)) = y) : DataW.trod enc Tryz.prog W base (fun _ => true) held n t ((cs.drop off).take k) = y := hc ▸ h
set_option maxRecDepth 100000 in
theorem open_S {fuel : Nat} {v : Value} {x : DataW H × List MemPlace} (h : DataW.trod enc Tryz.prog W base (fun _ => true) held fuel 9 [v] = some x) (hF : Fits 9 x.1) : ∃ p : List UInt8, p.length ≤ limW ∧ v = SV p := by
  obtain ⟨s, h1, rfl, h3⟩ := DataW.trod_string Tryz.underlying9 h
  cases h1
  have hw := hF s.data.toList.length (by simp [DataW.weights])
  exact ⟨s.data.toList, by simp [reachBytes] at hw; rw [Array.length_toList]; unfold limW; show s.size ≤ _; omega, rfl⟩
set_option maxRecDepth 100000 in
theorem open_I {fuel : Nat} {v : Value} {x : DataW H × List MemPlace} (h : DataW.trod enc Tryz.prog W base (fun _ => true) held fuel 3 [v] = some x) : ∃ n : Int, v = .int .i64 n := by
  obtain ⟨n, h1, _⟩ := DataW.trod_int Tryz.underlying3 h
  exact ⟨n, by simpa using h1⟩
set_option maxRecDepth 100000 in
theorem open_entC {fuel : Nat} {cs : List Value} {y : DataW H × List MemPlace} (h3 : cs.length = 4) (h2 : DataW.trod enc Tryz.prog W base (fun _ => true) held fuel 51 cs = some y) (hF : Fits 51 y.1) :
    ∃ k b s d, s.length ≤ limW ∧ cs = [.int .i64 k, .int .i64 b, SV s, SV d] := by
  obtain ⟨xs, n', _, rfl, _, hlen, hf⟩ := DataW.trod_struct Tryz.underlying51 h2
  match cs, h3 with
  | [v0, v1, v2, v3], _ =>
    match xs, hlen with
    | [y0, y1, y2, y3], _ =>
      have f0 := fld (cs := [v0, v1, v2, v3]) (off := 0) cell1I (hf 0 _ rfl)
      have f1 := fld (cs := [v0, v1, v2, v3]) (off := 1) cell1I (hf 1 _ rfl)
      have f2 := fld (cs := [v0, v1, v2, v3]) (off := 2) cell1S (hf 2 _ rfl)
      have f3 := fld (cs := [v0, v1, v2, v3]) (off := 3) cell1S (hf 3 _ rfl)
      obtain ⟨k, rfl⟩ := open_I (v := v0) f0
      obtain ⟨b, rfl⟩ := open_I (v := v1) f1
      obtain ⟨p, hp, rfl⟩ := open_S (v := v2) f2 (hF.field Tryz.underlying51 (i := 2) rfl rfl)
      obtain ⟨q, hq, rfl⟩ := open_S (v := v3) f3 (hF.field Tryz.underlying51 (i := 3) rfl rfl)
      exact ⟨k, b, p, q, hp, rfl⟩
set_option maxRecDepth 100000 in
theorem open_ent (b off n : Nat) (cs : List Value) (y : DataW H × List MemPlace) (h1 : W.cells? base ⟨b, off, none⟩ 4 = some cs) (h2 : DataW.trod enc Tryz.prog W base (fun _ => true) held n 51 cs = some y) (hF : Fits 51 y.1) :
    ∃ o : Ent, True ∧ ∀ i, i < 4 → W.cell? ⟨b, off + i, none⟩ = (entC o)[i]? := by
  obtain ⟨_, h3, h4⟩ := World.cells?_some h1
  obtain ⟨k, bk, s, d, hs, rfl⟩ := open_entC h3 h2 hF
  refine ⟨⟨k, bk, s, d⟩, trivial, fun i hi => ?_⟩
  have c := h4 i hi
  rw [add_at] at c
  rw [c]
  match i, hi with
  | 0, _ => rfl
  | 1, _ => rfl
  | 2, _ => rfl
  | 3, _ => rfl
theorem open_ents {fuel : Nat} {v : Value} {x : DataW H × List MemPlace} (h : DataW.trod enc Tryz.prog W base (fun _ => true) held fuel 22 [v] = some x) (hF : Fits 22 x.1) : ∃ l : List Ent, l.length ≤ limW ∧ EntsR W v l := by
  obtain ⟨l, h1, _, h2⟩ := open_rd entC (fun _ => True) Tryz.underlying22 (by kernel_rfl) h (by omega) hF (of_decide_eq_true (by kernel_rfl)) open_ent
  exact ⟨l, h1, h2⟩
end
end Go.Proofs.YtgjddkeogboojaaGreatDoor.Pl
