/-
  Div64.
-/
import Derived.Test.YtjbagoedaelmnaaDoorDown
import Derived.Deep.CutBlock
import Derived.Deep.CutRange
namespace Go.Proofs.YtjbagoedaelmnaaDoor
open Go Go.RowKit

theorem rem_lt (x y : UInt64) (h : 0 < y.toNat) : (x - x / y * y).toNat < y.toNat := by
  have h1 : (x / y * y).toNat = x.toNat / y.toNat * y.toNat := by
    rw [UInt64.toNat_mul, UInt64.toNat_div, Nat.mod_eq_of_lt]
    have := Nat.div_mul_le_self x.toNat y.toNat
    have := x.toNat_lt
    omega
  have h2 : (x / y * y).toNat ≤ x.toNat := by rw [h1]; exact Nat.div_mul_le_self _ _
  have h3 := x.toNat_lt
  have h4 : (x - x / y * y).toNat = x.toNat % y.toNat := by
    have := Nat.div_add_mod' x.toNat y.toNat
    rw [UInt64.toNat_sub]
    omega
  rw [h4]
  exact Nat.mod_lt _ h
theorem corr_no {yn1 yn0 un q r : UInt64} {n : Nat} (h : corrB yn0 un q r = false) : corr yn1 yn0 un (n + 1) q r = q := by rw [corr, h]; rfl
theorem corr_stop {yn1 yn0 un q r : UInt64} {n : Nat} (h : corrB yn0 un q r = true) (h2 : 4294967296 ≤ (r + yn1).toNat) : corr yn1 yn0 un (n + 1) q r = q - 1 := by rw [corr, h, if_pos rfl, if_pos h2]
theorem corr_go {yn1 yn0 un q r : UInt64} {n : Nat} (h : corrB yn0 un q r = true) (h2 : ¬ 4294967296 ≤ (r + yn1).toNat) : corr yn1 yn0 un (n + 1) q r = corr yn1 yn0 un n (q - 1) (r + yn1) := by rw [corr, h, if_pos rfl, if_neg h2]
theorem corrOk_go {yn1 yn0 un q r : UInt64} {n : Nat} (h : corrB yn0 un q r = true) (h2 : ¬ 4294967296 ≤ (r + yn1).toNat) : corrOk yn1 yn0 un (n + 1) q r = corrOk yn1 yn0 un n (q - 1) (r + yn1) := by rw [corrOk, h, if_pos rfl, if_neg h2]
theorem self64w (x : UInt64) : IntKind.u64.wrap (x.toNat : Int) = (x.toNat : Int) := by have := x.toNat_lt; rw [IntKind.wrap_u64]; omega
theorem mulL64w (x : UInt64) : IntKind.u64.wrap (4294967296 * (x.toNat : Int)) = ((4294967296 * x).toNat : Int) := mul64w 4294967296 x
theorem mulR64w (x : UInt64) : IntKind.u64.wrap ((x.toNat : Int) * 4294967296) = ((x * 4294967296).toNat : Int) := mul64w x 4294967296
theorem dec64w (x : UInt64) : IntKind.u64.wrap ((x.toNat : Int) - 1) = ((x - 1).toNat : Int) := sub64w x 1

set_option maxRecDepth 100000 in
set_option maxHeartbeats 1000000 in
theorem Div64_any (hi lo y : UInt64) (s : Nat) (hs : s = 64 - lenN y.toNat) (hs63 : s ≤ 63) (h0 : 0 < hi.toNat) (h1 : hi.toNat < y.toNat) (hok : (divOf hi lo y s).ok = true) (w : World) :
    Calls Tryd.prog 38 #[.int .u64 (hi.toNat : Int), .int .u64 (lo.toNat : Int), .int .u64 (y.toNat : Int)] w fun e w' =>
      (∃ r : UInt64, e = .returned (.tuple #[.int .u64 ((divOf hi lo y s).quo.toNat : Int), .int .u64 (r.toNat : Int)])) ∧ w = w' := by
  have HL := Lib.hid (lz_nat y w)
  rw [← hs] at HL
  clear hs
  obtain ⟨y2, hy2⟩ : ∃ r, r = shl64 y s := ⟨_, rfl⟩
  obtain ⟨yn1, hyn1⟩ : ∃ r, r = shr64 y2 32 := ⟨_, rfl⟩
  obtain ⟨yn0, hyn0⟩ : ∃ r, r = y2 &&& 4294967295 := ⟨_, rfl⟩
  obtain ⟨b1, hb1⟩ : ∃ r, r = shl64 hi s := ⟨_, rfl⟩
  obtain ⟨b2, hb2⟩ : ∃ r, r = shr64 lo (64 - s) := ⟨_, rfl⟩
  obtain ⟨un32, hun32⟩ : ∃ r, r = b1 ||| b2 := ⟨_, rfl⟩
  obtain ⟨un10, hun10⟩ : ∃ r, r = shl64 lo s := ⟨_, rfl⟩
  obtain ⟨un1, hun1⟩ : ∃ r, r = shr64 un10 32 := ⟨_, rfl⟩
  obtain ⟨un0, hun0⟩ : ∃ r, r = un10 &&& 4294967295 := ⟨_, rfl⟩
  have hd : divOf hi lo y s = ⟨s, y2, yn1, yn0, un32, un1, un0⟩ := by rw [hyn1, hyn0, hun1, hun0, hun32, hb1, hb2, hun10, hy2]; rfl
  rw [hd] at hok ⊢
  clear hd
  have gs : IntKind.u64.wrap (s : Int) = (s : Int) := by rw [IntKind.wrap_u64]; omega
  obtain ⟨c, hc⟩ : ∃ c, c = 64 - s := ⟨_, rfl⟩
  have gc : IntKind.u64.wrap (64 - (s : Int)) = (c : Int) := by rw [IntKind.wrap_u64]; omega
  have gy2 : IntKind.u64.wrap ((y.toNat : Int) * 2 ^ s) = (y2.toNat : Int) := by rw [shl64w, hy2]
  have gyn1 : (y2.toNat : Int) / 4294967296 = (yn1.toNat : Int) := by have := shr64_eq y2 32; rw [hyn1]; exact this
  have gyn0 : bits .and .u64 (y2.toNat : Int) 4294967295 = (yn0.toNat : Int) := by rw [mask64, hyn0]
  have gb1 : IntKind.u64.wrap ((hi.toNat : Int) * 2 ^ s) = (b1.toNat : Int) := by rw [shl64w, hb1]
  have gb2 : (lo.toNat : Int) / 2 ^ c = (b2.toNat : Int) := by rw [shr64_eq, hb2, hc]
  have gun32 : bits .or .u64 (b1.toNat : Int) (b2.toNat : Int) = (un32.toNat : Int) := by rw [or64, hun32]
  have gun10 : IntKind.u64.wrap ((lo.toNat : Int) * 2 ^ s) = (un10.toNat : Int) := by rw [shl64w, hun10]
  have gun1 : (un10.toNat : Int) / 4294967296 = (un1.toNat : Int) := by have := shr64_eq un10 32; rw [hun1]; exact this
  have gun0 : bits .and .u64 (un10.toNat : Int) 4294967295 = (un0.toNat : Int) := by rw [mask64, hun0]
  have hc63 : 1 ≤ c := by omega
  have hc64 : c ≤ 64 := by omega
  clear hyn1 hyn0 hun1 hun0 hun32 hb1 hb2 hun10 hy2 hc
  unfold Div.ok at hok
  simp only [Bool.and_eq_true, decide_eq_true_eq] at hok
  obtain ⟨⟨⟨k1, k2⟩, k3⟩, k4⟩ := hok
  have K3 := Lib.hid k3; have K4 := Lib.hid k4; clear k3 k4
  have t1 : ((y.toNat : Int) == 0) = false := by simp; omega
  have t2 : decide (y.toNat ≤ hi.toNat) = false := decide_eq_false (by omega)
  have t3 : ((hi.toNat : Int) == 0) = false := by simp; omega
  have t4 : ((yn1.toNat : Int) == 0) = false := by simp; omega
  have t5 : ¬ ((yn1.toNat : Int) = 0) := by omega
  obtain ⟨qa, hqa⟩ : ∃ r, r = un32 / yn1 := ⟨_, rfl⟩
  obtain ⟨ma, hma⟩ : ∃ r, r = qa * yn1 := ⟨_, rfl⟩
  obtain ⟨ra, hra⟩ : ∃ r, r = un32 - ma := ⟨_, rfl⟩
  have gqa : (un32.toNat : Int) / (yn1.toNat : Int) = (qa.toNat : Int) := by rw [div64, hqa]
  have gma : IntKind.u64.wrap ((qa.toNat : Int) * (yn1.toNat : Int)) = (ma.toNat : Int) := by rw [mul64w, hma]
  have gra : IntKind.u64.wrap ((un32.toNat : Int) - (ma.toNat : Int)) = (ra.toNat : Int) := by rw [sub64w, hra]
  have gqs := self64w qa
  obtain ⟨q1, hq1⟩ : ∃ r, r = Div.q1 ⟨s, y2, yn1, yn0, un32, un1, un0⟩ := ⟨_, rfl⟩
  have Hq1 : Hid (q1 = corr yn1 yn0 un1 3 qa ra) := Lib.hid (by rw [hq1, hra, hma, hqa]; rfl)
  have K3' : Hid (corrOk yn1 yn0 un1 3 qa ra = true) := Lib.hid (by rw [hra, hma, hqa]; exact K3.out)
  have Hra : Hid (ra.toNat < 4294967296) := Lib.hid (by have := rem_lt un32 yn1 k1; rw [hra, hma, hqa]; omega)
  clear hqa hma hra
  go_enter Tryd.func38, Tryd.ntmps38
  go_upto_block 0 with (refine HL.out.mono ?_; rintro e w' ⟨rfl, rfl⟩)
  go_cut [15, 16] from 67 to 85 (fun q rh wx => q = .int .u64 (q1.toNat : Int) ∧ w = wx)
  case first =>
    go_wp2_with fail
    go_loop [15, 16] (fun q rh => ∃ (n : Nat) (Q R : UInt64), q = .int .u64 (Q.toNat : Int) ∧ rh = .int .u64 (R.toNat : Int) ∧ corrOk yn1 yn0 un1 n Q R = true ∧ corr yn1 yn0 un1 n Q R = q1 ∧ R.toNat < 4294967296) (fun _ rh => 4294967296 - (intOf rh).toNat)
    case atStart => exact ⟨3, qa, ra, rfl, rfl, K3'.out, Hq1.out.symm, Hra.out⟩
    case round =>
      obtain ⟨n, Q, R, rfl, rfl, hok, hres, hR⟩ := hrel
      cases n with
      | zero => cases hok
      | succ n =>
        have Hok := Lib.hid hok; have Hres := Lib.hid hres; clear hok hres
        obtain ⟨a, ha⟩ : ∃ r, r = Q * yn0 := ⟨_, rfl⟩
        obtain ⟨b, hb⟩ : ∃ r, r = 4294967296 * R := ⟨_, rfl⟩
        obtain ⟨d, hd⟩ : ∃ r, r = b + un1 := ⟨_, rfl⟩
        obtain ⟨Q', hQ'⟩ : ∃ r, r = Q - 1 := ⟨_, rfl⟩
        obtain ⟨R', hR'⟩ : ∃ r, r = R + yn1 := ⟨_, rfl⟩
        have ga : IntKind.u64.wrap ((Q.toNat : Int) * (yn0.toNat : Int)) = (a.toNat : Int) := by rw [mul64w, ha]
        have gb : IntKind.u64.wrap (4294967296 * (R.toNat : Int)) = (b.toNat : Int) := by rw [mulL64w, hb]
        have gd : IntKind.u64.wrap ((b.toNat : Int) + (un1.toNat : Int)) = (d.toNat : Int) := by rw [add64w, hd]
        have gQ : IntKind.u64.wrap ((Q.toNat : Int) - 1) = (Q'.toNat : Int) := by rw [dec64w, hQ']
        have gR : IntKind.u64.wrap ((R.toNat : Int) + (yn1.toNat : Int)) = (R'.toNat : Int) := by rw [add64w, hR']
        have nR : R'.toNat = R.toNat + yn1.toNat := by rw [hR', UInt64.toNat_add]; omega
        have NR := Lib.hid nR; clear nR
        have hBd : corrB yn0 un1 Q R = (decide (4294967296 ≤ Q.toNat) || decide (d.toNat < a.toNat)) := by rw [ha, hd, hb]; rfl
        have hstop : corrB yn0 un1 Q R = true → 4294967296 ≤ R'.toNat → q1 = Q' := fun h h2 => by rw [← Hres.out, hQ', corr_stop h (by rw [← hR']; exact h2)]
        have hgo : corrB yn0 un1 Q R = true → ¬ 4294967296 ≤ R'.toNat → corrOk yn1 yn0 un1 n Q' R' = true ∧ corr yn1 yn0 un1 n Q' R' = q1 := fun h h2 => by
          have h2' : ¬ 4294967296 ≤ (R + yn1).toNat := by rw [← hR']; exact h2
          rw [hQ', hR', ← Hres.out, ← Hok.out, corr_go h h2', corrOk_go h h2']
          exact ⟨rfl, rfl⟩
        have hno : corrB yn0 un1 Q R = false → q1 = Q := fun h => by rw [← Hres.out, corr_no h]
        have HBd := Lib.hid hBd; have Hstop := Lib.hid hstop; have Hgo := Lib.hid hgo; have Hno := Lib.hid hno
        clear hBd hstop hgo hno ha hb hd hQ' hR'
        by_cases c1 : 4294967296 ≤ (Q.toNat : Int)
        · have hB : Hid (corrB yn0 un1 Q R = true) := Lib.hid (by rw [HBd.out, decide_eq_true (by omega)]; rfl)
          by_cases c3 : 4294967296 ≤ (R'.toNat : Int)
          · go_wp2
            go_meet
            case rel => exact ⟨by rw [Hstop.out hB.out (by omega)], rfl⟩
          · go_wp2
            go_round
            case rel => exact ⟨n, Q', R', rfl, rfl, (Hgo.out hB.out (by omega)).1, (Hgo.out hB.out (by omega)).2, by omega⟩
            case measure => have := NR.out; simp [intOf]; omega
        · by_cases c2 : d.toNat < a.toNat
          · have hB : Hid (corrB yn0 un1 Q R = true) := Lib.hid (by rw [HBd.out, decide_eq_true c2, Bool.or_true])
            by_cases c3 : 4294967296 ≤ (R'.toNat : Int)
            · go_wp2
              go_meet
              case rel => exact ⟨by rw [Hstop.out hB.out (by omega)], rfl⟩
            · go_wp2
              go_round
              case rel => exact ⟨n, Q', R', rfl, rfl, (Hgo.out hB.out (by omega)).1, (Hgo.out hB.out (by omega)).2, by omega⟩
              case measure => have := NR.out; simp [intOf]; omega
          · have hB : Hid (corrB yn0 un1 Q R = false) := Lib.hid (by rw [HBd.out, decide_eq_false c2, decide_eq_false (by omega)]; rfl)
            go_wp2
            go_meet
            case rel => exact ⟨by rw [Hno.out hB.out], rfl⟩
  case rest =>
    obtain ⟨rfl, rfl⟩ := hcut
    obtain ⟨e1, he1⟩ : ∃ r, r = un32 * 4294967296 := ⟨_, rfl⟩
    have ge1 : IntKind.u64.wrap ((un32.toNat : Int) * 4294967296) = (e1.toNat : Int) := by rw [mulR64w, he1]
    obtain ⟨e2, he2⟩ : ∃ r, r = e1 + un1 := ⟨_, rfl⟩
    have ge2 : IntKind.u64.wrap ((e1.toNat : Int) + (un1.toNat : Int)) = (e2.toNat : Int) := by rw [add64w, he2]
    obtain ⟨e3, he3⟩ : ∃ r, r = q1 * y2 := ⟨_, rfl⟩
    have ge3 : IntKind.u64.wrap ((q1.toNat : Int) * (y2.toNat : Int)) = (e3.toNat : Int) := by rw [mul64w, he3]
    obtain ⟨e4, he4⟩ : ∃ r, r = e2 - e3 := ⟨_, rfl⟩
    have ge4 : IntKind.u64.wrap ((e2.toNat : Int) - (e3.toNat : Int)) = (e4.toNat : Int) := by rw [sub64w, he4]
    obtain ⟨qb, hqb⟩ : ∃ r, r = e4 / yn1 := ⟨_, rfl⟩
    have gqb : (e4.toNat : Int) / (yn1.toNat : Int) = (qb.toNat : Int) := by rw [div64, hqb]
    obtain ⟨mb, hmb⟩ : ∃ r, r = qb * yn1 := ⟨_, rfl⟩
    have gmb : IntKind.u64.wrap ((qb.toNat : Int) * (yn1.toNat : Int)) = (mb.toNat : Int) := by rw [mul64w, hmb]
    obtain ⟨rb, hrb⟩ : ∃ r, r = e4 - mb := ⟨_, rfl⟩
    have grb : IntKind.u64.wrap ((e4.toNat : Int) - (mb.toNat : Int)) = (rb.toNat : Int) := by rw [sub64w, hrb]
    have gqs' := self64w qb
    have h21 : Div.un21 ⟨s, y2, yn1, yn0, un32, un1, un0⟩ = e4 := by rw [he4, he3, he2, he1, hq1]; rfl
    obtain ⟨q0, hq0⟩ : ∃ r, r = Div.q0 ⟨s, y2, yn1, yn0, un32, un1, un0⟩ := ⟨_, rfl⟩
    have Hq0 : Hid (q0 = corr yn1 yn0 un0 3 qb rb) := Lib.hid (by rw [hq0, hrb, hmb, hqb, ← h21]; rfl)
    have K4' : Hid (corrOk yn1 yn0 un0 3 qb rb = true) := Lib.hid (by rw [hrb, hmb, hqb, ← h21]; exact K4.out)
    have Hrb : Hid (rb.toNat < 4294967296) := Lib.hid (by have := rem_lt e4 yn1 k1; rw [hrb, hmb, hqb]; omega)
    have Hquo : Hid (Div.quo ⟨s, y2, yn1, yn0, un32, un1, un0⟩ = q1 * 4294967296 + q0) := Lib.hid (by rw [hq0, hq1]; rfl)
    clear he1 he2 he3 he4 hqb hmb hrb h21 hq0 hq1
    go_upto_block 2 with fail
    go_cut [18, 16] from 102 to 120 (fun q rh wx => q = .int .u64 (q0.toNat : Int) ∧ w = wx)
    case first =>
      go_wp2_with fail
      go_loop [18, 16] (fun q rh => ∃ (n : Nat) (Q R : UInt64), q = .int .u64 (Q.toNat : Int) ∧ rh = .int .u64 (R.toNat : Int) ∧ corrOk yn1 yn0 un0 n Q R = true ∧ corr yn1 yn0 un0 n Q R = q0 ∧ R.toNat < 4294967296) (fun _ rh => 4294967296 - (intOf rh).toNat)
      case atStart => exact ⟨3, qb, rb, rfl, rfl, K4'.out, Hq0.out.symm, Hrb.out⟩
      case round =>
        obtain ⟨n, Q, R, rfl, rfl, hok, hres, hR⟩ := hrel
        cases n with
        | zero => cases hok
        | succ n =>
          have Hok := Lib.hid hok; have Hres := Lib.hid hres; clear hok hres
          obtain ⟨a, ha⟩ : ∃ r, r = Q * yn0 := ⟨_, rfl⟩
          obtain ⟨b, hb⟩ : ∃ r, r = 4294967296 * R := ⟨_, rfl⟩
          obtain ⟨d, hd⟩ : ∃ r, r = b + un0 := ⟨_, rfl⟩
          obtain ⟨Q', hQ'⟩ : ∃ r, r = Q - 1 := ⟨_, rfl⟩
          obtain ⟨R', hR'⟩ : ∃ r, r = R + yn1 := ⟨_, rfl⟩
          have ga : IntKind.u64.wrap ((Q.toNat : Int) * (yn0.toNat : Int)) = (a.toNat : Int) := by rw [mul64w, ha]
          have gb : IntKind.u64.wrap (4294967296 * (R.toNat : Int)) = (b.toNat : Int) := by rw [mulL64w, hb]
          have gd : IntKind.u64.wrap ((b.toNat : Int) + (un0.toNat : Int)) = (d.toNat : Int) := by rw [add64w, hd]
          have gQ : IntKind.u64.wrap ((Q.toNat : Int) - 1) = (Q'.toNat : Int) := by rw [dec64w, hQ']
          have gR : IntKind.u64.wrap ((R.toNat : Int) + (yn1.toNat : Int)) = (R'.toNat : Int) := by rw [add64w, hR']
          have nR : R'.toNat = R.toNat + yn1.toNat := by rw [hR', UInt64.toNat_add]; omega
          have NR := Lib.hid nR; clear nR
          have hBd : corrB yn0 un0 Q R = (decide (4294967296 ≤ Q.toNat) || decide (d.toNat < a.toNat)) := by rw [ha, hd, hb]; rfl
          have hstop : corrB yn0 un0 Q R = true → 4294967296 ≤ R'.toNat → q0 = Q' := fun h h2 => by rw [← Hres.out, hQ', corr_stop h (by rw [← hR']; exact h2)]
          have hgo : corrB yn0 un0 Q R = true → ¬ 4294967296 ≤ R'.toNat → corrOk yn1 yn0 un0 n Q' R' = true ∧ corr yn1 yn0 un0 n Q' R' = q0 := fun h h2 => by
            have h2' : ¬ 4294967296 ≤ (R + yn1).toNat := by rw [← hR']; exact h2
            rw [hQ', hR', ← Hres.out, ← Hok.out, corr_go h h2', corrOk_go h h2']
            exact ⟨rfl, rfl⟩
          have hno : corrB yn0 un0 Q R = false → q0 = Q := fun h => by rw [← Hres.out, corr_no h]
          have HBd := Lib.hid hBd; have Hstop := Lib.hid hstop; have Hgo := Lib.hid hgo; have Hno := Lib.hid hno
          clear hBd hstop hgo hno ha hb hd hQ' hR'
          by_cases c1 : 4294967296 ≤ (Q.toNat : Int)
          · have hB : Hid (corrB yn0 un0 Q R = true) := Lib.hid (by rw [HBd.out, decide_eq_true (by omega)]; rfl)
            by_cases c3 : 4294967296 ≤ (R'.toNat : Int)
            · go_wp2
              go_meet
              case rel => exact ⟨by rw [Hstop.out hB.out (by omega)], rfl⟩
            · go_wp2
              go_round
              case rel => exact ⟨n, Q', R', rfl, rfl, (Hgo.out hB.out (by omega)).1, (Hgo.out hB.out (by omega)).2, by omega⟩
              case measure => have := NR.out; simp [intOf]; omega
          · by_cases c2 : d.toNat < a.toNat
            · have hB : Hid (corrB yn0 un0 Q R = true) := Lib.hid (by rw [HBd.out, decide_eq_true c2, Bool.or_true])
              by_cases c3 : 4294967296 ≤ (R'.toNat : Int)
              · go_wp2
                go_meet
                case rel => exact ⟨by rw [Hstop.out hB.out (by omega)], rfl⟩
              · go_wp2
                go_round
                case rel => exact ⟨n, Q', R', rfl, rfl, (Hgo.out hB.out (by omega)).1, (Hgo.out hB.out (by omega)).2, by omega⟩
                case measure => have := NR.out; simp [intOf]; omega
            · have hB : Hid (corrB yn0 un0 Q R = false) := Lib.hid (by rw [HBd.out, decide_eq_false c2, decide_eq_false (by omega)]; rfl)
              go_wp2
              go_meet
              case rel => exact ⟨by rw [Hno.out hB.out], rfl⟩
    case rest =>
      obtain ⟨rfl, rfl⟩ := hcut
      obtain ⟨f1, hf1⟩ : ∃ r, r = q1 * 4294967296 := ⟨_, rfl⟩
      have gf1 : IntKind.u64.wrap ((q1.toNat : Int) * 4294967296) = (f1.toNat : Int) := by rw [mulR64w, hf1]
      obtain ⟨f2, hf2⟩ : ∃ r, r = f1 + q0 := ⟨_, rfl⟩
      have gf2 : IntKind.u64.wrap ((f1.toNat : Int) + (q0.toNat : Int)) = (f2.toNat : Int) := by rw [add64w, hf2]
      obtain ⟨f3, hf3⟩ : ∃ r, r = e4 * 4294967296 := ⟨_, rfl⟩
      have gf3 : IntKind.u64.wrap ((e4.toNat : Int) * 4294967296) = (f3.toNat : Int) := by rw [mulR64w, hf3]
      obtain ⟨f4, hf4⟩ : ∃ r, r = f3 + un0 := ⟨_, rfl⟩
      have gf4 : IntKind.u64.wrap ((f3.toNat : Int) + (un0.toNat : Int)) = (f4.toNat : Int) := by rw [add64w, hf4]
      obtain ⟨f5, hf5⟩ : ∃ r, r = q0 * y2 := ⟨_, rfl⟩
      have gf5 : IntKind.u64.wrap ((q0.toNat : Int) * (y2.toNat : Int)) = (f5.toNat : Int) := by rw [mul64w, hf5]
      obtain ⟨f6, hf6⟩ : ∃ r, r = f4 - f5 := ⟨_, rfl⟩
      have gf6 : IntKind.u64.wrap ((f4.toNat : Int) - (f5.toNat : Int)) = (f6.toNat : Int) := by rw [sub64w, hf6]
      obtain ⟨f7, hf7⟩ : ∃ r, r = shr64 f6 s := ⟨_, rfl⟩
      have gf7 : (f6.toNat : Int) / 2 ^ s = (f7.toNat : Int) := by rw [shr64_eq, hf7]
      have Hf : Hid (f2 = Div.quo ⟨s, y2, yn1, yn0, un32, un1, un0⟩) := Lib.hid (by rw [Hquo.out, hf2, hf1])
      clear hf1 hf2 hf3 hf4 hf5 hf6 hf7
      go_wp2
      go_ret2
      exact ⟨⟨f7, by rw [Hf.out]; rfl⟩, rfl⟩
end Go.Proofs.YtjbagoedaelmnaaDoor
