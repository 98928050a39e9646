/-
  ZBase ZRGet ZRAp ZRPut
  The document's Get.
-/
import Derived.Test.YtgjddkeogboojaaGreatDoorT27
import Derived.Below
import Derived.Laws.OwnMore
import Derived.Deep.Draws
import Derived.Laws.Rows
import Derived.Laws.AppendOwnNone
import Derived.Laws.IdiomStrings
import Derived.Deep.QuietTactic
import Derived.BigQuiet
import Derived.IntWalk
import Derived.Lib.Hide
import Derived.Lib.IndexLaws
import Derived.Lib.AppendIntMem
import Derived.Lib.LaidTab
import Derived.OrdersHeld
import Derived.Deep.RegionHeld
import Derived.Deep.RegionHeld3
import Derived.RangeFuncBox
import Derived.Test.YtgjddkeogboojaaGreatDoorT23
import Derived.Test.YtgjddkeogboojaaGreatDoorT26
import Derived.Test.YtgjddkeogboojaaGreatDoorT16
import Derived.Test.YtgjddkeogboojaaGreatDoorT21
namespace Go.Proofs.YtgjddkeogboojaaGreatDoor.Dl
open Go Go.RowKit
theorem OwK.nil {α : Type} (t : TypeId) (k : Nat) (f : α → List Value) (w : World) (base : Nat) : OwK t k f w base (.slice none 0 0) ([] : List α) := World.ownsRow_nil w base _ _
end Go.Proofs.YtgjddkeogboojaaGreatDoor.Dl
namespace Go.Proofs.YtgjddkeogboojaaGreatDoor.Dl
open Go Go.RowKit
set_option maxRecDepth 100000 in
set_option maxHeartbeats 1000000 in
theorem RGet_some (w : World) (g o c : Nat) (l : List UInt8)
    (hr : ∀ j, j < l.length → w.cell? ⟨g, o + j, none⟩ = some (.int .u8 ((l.getD j 0).toNat : Int))) :
    Calls Tryz.prog 35 #[.slice (some ⟨g, o, none⟩) l.length c] w fun e w' => e = .returned (gotV (getL l)) ∧ w = w' := by
  have HR := Lib.hid hr; clear hr
  obtain ⟨n, hn⟩ : ∃ n, n = l.length := ⟨_, rfl⟩
  rw [← hn] at HR ⊢
  have Hn := Lib.hid hn
  obtain ⟨ra, rb, rc, hrr⟩ : ∃ a b t, gotV (getL l) = .tuple #[.int .i64 ((a : Nat) : Int), .int .i64 ((b : Nat) : Int), .bool t] := ⟨_, _, _, rfl⟩
  have Hr := Lib.hid hrr
  rw [hrr]
  clear hn hrr
  go_enter Tryz.func35, Tryz.ntmps35
  go_wp2
  go_loop [5, 6, 7] (fun vn vb vi => ∃ (k acc p : Nat), k ≤ n ∧ k ≤ 6 ∧ vi = .int .i64 k ∧ vn = .int .i64 acc ∧ vb = .int .i64 p ∧ Hid (p = 128 ^ k) ∧ Hid (acc < 128 ^ k) ∧ Hid (getG (6 - k) k acc (l.drop k) = getL l)) (fun _ _ vi => 6 - (intOf vi).toNat)
  case atStart => exact ⟨0, 0, 1, Nat.zero_le _, Nat.zero_le _, rfl, rfl, rfl, Lib.hid rfl, Lib.hid (by decide), Lib.hid rfl⟩
  case round =>
    obtain ⟨k, acc, p, hk, hk6, rfl, rfl, rfl, hp, hacc, hg⟩ := hrel
    by_cases hlt : k < n ∧ k < 6
    · obtain ⟨hkn, hkl⟩ := hlt
      obtain ⟨x, hx⟩ : ∃ x, x = l.getD k 0 := ⟨_, rfl⟩
      have cx := HR.out k (by omega)
      rw [← hx] at cx
      have hxl := x.toNat_lt
      have Hx := Lib.hid hx
      clear hx
      have hd : l.drop k = x :: l.drop (k + 1) := by
        rw [Hx.out, List.getD_eq_getElem?_getD, List.getElem?_eq_getElem (by have := Hn.out; omega)]
        exact List.drop_eq_getElem_cons (by have := Hn.out; omega)
      have hstep := hg.out
      rw [hd, show 6 - k = 5 - k + 1 by omega, getG, ← hp.out] at hstep
      obtain ⟨d, hd128⟩ : ∃ d, d = x.toNat % 128 := ⟨_, rfl⟩
      have hdl : d < 128 := by omega
      obtain ⟨q, hq⟩ : ∃ q, q = d * p := ⟨_, rfl⟩
      have hlt1 := acc_lt acc d k hdl hacc.out
      have hpb := pow_bd (k + 1) (by omega)
      rw [← hp.out, ← hq] at hlt1
      have hpk : 128 * p = 128 ^ (k + 1) := by rw [pow128, hp.out]
      have gd : (x.toNat : Int) % 128 = (d : Int) := by omega
      have gq : (d : Int) * (p : Int) = (q : Int) := by rw [hq]; simp
      have hql : acc + q ≤ 4398046511104 := by omega
      have hpl : p ≤ 4398046511104 := by omega
      have Hlt1 := Lib.hid hlt1; have Hpk := Lib.hid hpk
      clear hd hlt1 hpb hpk
      by_cases h128 : 128 ≤ x.toNat
      · rw [if_pos h128, show x.toNat - 128 = d by omega, ← hq] at hstep
        have Hstep := Lib.hid hstep
        clear hstep hq hd128
        go_wp2
        go_round
        case rel =>
          exact ⟨k + 1, acc + q, p * 128, by omega, by omega, by go_num, by go_num, by go_num, Lib.hid (by rw [← Hpk.out, Nat.mul_comm]), Lib.hid Hlt1.out, Lib.hid (by rw [show 6 - (k + 1) = 5 - k by omega]; exact Hstep.out)⟩
        case measure => simp [intOf]; omega
      · have hxd : x.toNat = d := by omega
        rw [if_neg h128, hxd, ← hq] at hstep
        have hlow : (x.toNat : Int) < 128 := by omega
        have fin : ∀ r, (if (d = 0 ∧ 0 < k) ∨ 1099511627776 < acc + q then none else some (acc + q, k + 1)) = r → Ending.returned (gotV r) = Ending.returned (.tuple #[.int .i64 ((ra : Nat) : Int), .int .i64 ((rb : Nat) : Int), .bool rc]) := fun r h => by
          rw [← h, hstep]; exact congrArg Ending.returned Hr.out
        by_cases hA : 1099511627776 < acc + q
        · have F := Lib.hid (fin none (if_pos (.inr hA)))
          have hA' : (1099511627776 : Int) < (acc : Int) + (q : Int) := by omega
          clear hstep hq hd128 hxd fin hA
          go_wp2
          go_ret3
          exact ⟨F.out, rfl⟩
        · have hA' : ¬ (1099511627776 : Int) < (acc : Int) + (q : Int) := by omega
          by_cases hB : d = 0 ∧ 0 < k
          · have F := Lib.hid (fin none (if_pos (.inl hB)))
            obtain ⟨hd0, hk0⟩ := hB
            have hx0 : (x.toNat : Int) = 0 := by rw [hxd, hd0]; rfl
            have gd0 : (0 : Int) * (p : Int) = (q : Int) := by rw [← gq, hd0]; rfl
            rw [hx0] at cx
            clear hstep hq hd128 hxd fin hA hx0 hxl h128 hlow gd gq hd0
            go_wp2
            go_ret3
            exact ⟨F.out, rfl⟩
          · have F := Lib.hid (fin _ (if_neg (fun h => h.elim hB hA)))
            clear hstep hq hd128 fin hA
            by_cases hk0 : 0 < k
            · have hx0 : 0 < (x.toNat : Int) := by
                have : d ≠ 0 := fun h => hB ⟨h, hk0⟩
                omega
              clear hB hxd
              go_wp2
              go_ret3
              exact ⟨F.out, rfl⟩
            · clear hB hxd
              go_wp2
              go_ret3
              exact ⟨F.out, rfl⟩
    · have hend : getL l = none := by
        have h := hg.out
        by_cases h6 : k < 6
        · rw [List.drop_eq_nil_of_le (by have := Hn.out; omega)] at h
          rw [← h]
          have : 6 - k = 5 - k + 1 := by omega
          rw [this]; rfl
        · rw [show 6 - k = 0 by omega] at h
          rw [← h]; rfl
      have hr := Hr.out
      rw [hend, gotV_none] at hr
      have HR2 := Lib.hid hr
      clear hend hr
      by_cases h1 : k < n
      · have h2 : ¬ k < 6 := fun h => hlt ⟨h1, h⟩
        clear hlt
        go_wp2
        go_ret3
        exact ⟨congrArg Ending.returned HR2.out, rfl⟩
      · clear hlt
        go_wp2
        go_ret3
        exact ⟨congrArg Ending.returned HR2.out, rfl⟩
set_option maxRecDepth 100000 in
set_option maxHeartbeats 400000 in
theorem RGet_nil (w : World) (A : Option Addr) :
    Calls Tryz.prog 35 #[.slice A 0 0] w fun e w' => e = .returned (gotV (getL [])) ∧ w = w' := by
  rw [show gotV (getL []) = .tuple #[.int .i64 0, .int .i64 0, .bool false] from rfl]
  go_enter Tryz.func35, Tryz.ntmps35
  go_wp2
  go_loop [7] (fun vi => vi = .int .i64 0) (fun _ => 0)
  case atStart => rfl
  case round =>
    obtain rfl := hrel
    go_wp2
    go_ret3
    exact ⟨rfl, rfl⟩
theorem RGet_any (w : World) (v : Value) (l : List UInt8) (hr : Rb w v l) :
    Calls Tryz.prog 35 #[v] w fun e w' => e = .returned (gotV (getL l)) ∧ w = w' := by
  rcases hr with ⟨⟨A, rfl⟩, rfl⟩ | ⟨g, o, c, rfl, _, _, hcell⟩
  · exact RGet_nil w A
  · exact RGet_some w g o c l hcell
end Go.Proofs.YtgjddkeogboojaaGreatDoor.Dl
namespace Go.Proofs.YtgjddkeogboojaaGreatDoor.Dl
open Go Go.RowKit
/-- What is answered of what is made so far. -/
def fin (tk : Nat) (o : Option Bs) : Option Bs := match o with | none => none | some t => if t.length = tk then some t else none
end Go.Proofs.YtgjddkeogboojaaGreatDoor.Dl
namespace Go.Proofs.YtgjddkeogboojaaGreatDoor.Dl
open Go Go.RowKit
set_option maxRecDepth 100000 in
set_option maxHeartbeats 1000000 in
theorem RPut_fits (n : Nat) (hn : n ≤ 1099511627776) (w : World) : Calls Tryz.prog 31 #[.int .i64 (n : Int)] w (PutP w (putL n)) := by
  have O0 := Lib.hid (Ow.nil w w.heap.size)
  have H6 := Lib.hid (putL_len6 hn)
  go_enter Tryz.func31, Tryz.ntmps31
  go_wp2
  go_loopw [0, 3] (fun vn b wr => ∃ (m K : Nat) (A : Option Addr) (c : Nat) (pre : List UInt8), m ≤ n ∧ vn = .int .i64 m ∧ b = .slice A K c ∧ Hid (K = pre.length) ∧ Hid (pre ++ putL m = putL n) ∧ Ow wr w.heap.size (.slice A K c) pre ∧ Below w.heap.size w wr) (fun vn _ _ => (intOf vn).toNat)
  case atStart => exact ⟨n, 0, none, 0, [], Nat.le_refl _, rfl, rfl, rfl, rfl, O0.out, Below.refl _ _⟩
  case round =>
    clear O0
    obtain ⟨m, K, A, c, pre, hm, rfl, rfl, hK, hp, ho, hb⟩ := hrel
    have hlen : pre.length + (putL m).length ≤ 6 := by have h := H6.out; rw [← hp.out, List.length_append] at h; exact h
    have hK6 : K ≤ 6 := by rw [hK.out]; omega
    by_cases hlt : 128 ≤ m
    · obtain ⟨x, hx⟩ : ∃ x, x = UInt8.ofNat (m % 128 + 128) := ⟨_, rfl⟩
      have gx : (m : Int) % 128 + 128 = (x.toNat : Int) := by rw [hx, byte_of (by omega)]; omega
      have hpx : (pre ++ [x]) ++ putL (m / 128) = putL n := by rw [← hp.out, putL_hi hlt, hx, List.append_assoc]; rfl
      have Hpx := Lib.hid hpx
      have O1 : Hid (Ow (wr.alloc (.cells #[.int .u8 (x.toNat : Int)] 5)) w.heap.size (.slice A K c) pre) := Lib.hid (ho.below (below_new wr _) (Nat.le_refl _))
      have R1 : Hid (Rb (wr.alloc (.cells #[.int .u8 (x.toNat : Int)] 5)) (.slice (some ⟨wr.heap.size, 0, none⟩) 1 1) [x]) := Lib.hid (rb_one wr x)
      have Q1 : Hid (pre.length + ([x] : List UInt8).length ≤ 140737488355328) := Lib.hid (by simp; omega)
      have L1 : Hid (Below w.heap.size w (wr.alloc (.cells #[.int .u8 (x.toNat : Int)] 5))) := Lib.hid (hb.alloc hb.size _)
      have S1 : Hid (w.heap.size ≤ (wr.alloc (.cells #[.int .u8 (x.toNat : Int)] 5)).heap.size) := Lib.hid L1.out.size
      have HK := Lib.hid hK.out
      clear hx hpx ho hb hlen hp hK
      go_wp2_with (refine wpList_app (o := ⟨some 19, _, _, _, _, _⟩) rfl _ _ rfl w.heap.size _ _ pre [x] rfl rfl O1.out R1.out Q1.out S1.out ?_)
      intro v2 w2 o2 l2
      have L2 := L1.out.trans l2
      obtain ⟨A2, c2, rfl, _⟩ := o2.rb.shape
      clear O1 R1 Q1 S1 L1 l2 gx
      go_wp2
      go_roundw
      case rel => exact ⟨m / 128, _, A2, c2, pre ++ [x], by omega, by go_num, rfl, rfl, Hpx.out, o2, L2⟩
      case measure => simp [intOf]; omega
    · obtain ⟨x, hx⟩ : ∃ x, x = UInt8.ofNat m := ⟨_, rfl⟩
      have gx : IntKind.u8.wrap (m : Int) = (x.toNat : Int) := by rw [hx, byte_of (by omega), IntKind.wrap_u8']; omega
      have hpx : pre ++ [x] = putL n := by rw [← hp.out, putL_lo (by omega), hx]
      have Hpx := Lib.hid hpx
      have O1 : Hid (Ow (wr.alloc (.cells #[.int .u8 (x.toNat : Int)] 5)) w.heap.size (.slice A K c) pre) := Lib.hid (ho.below (below_new wr _) (Nat.le_refl _))
      have R1 : Hid (Rb (wr.alloc (.cells #[.int .u8 (x.toNat : Int)] 5)) (.slice (some ⟨wr.heap.size, 0, none⟩) 1 1) [x]) := Lib.hid (rb_one wr x)
      have Q1 : Hid (pre.length + ([x] : List UInt8).length ≤ 140737488355328) := Lib.hid (by simp; omega)
      have L1 : Hid (Below w.heap.size w (wr.alloc (.cells #[.int .u8 (x.toNat : Int)] 5))) := Lib.hid (hb.alloc hb.size _)
      have S1 : Hid (w.heap.size ≤ (wr.alloc (.cells #[.int .u8 (x.toNat : Int)] 5)).heap.size) := Lib.hid L1.out.size
      clear hx hpx ho hb hlen hp hK
      go_wp2_with (refine wpList_app (o := ⟨some 26, _, _, _, _, _⟩) rfl _ _ rfl w.heap.size _ _ pre [x] rfl rfl O1.out R1.out Q1.out S1.out ?_)
      intro v2 w2 o2 l2
      have L2 := L1.out.trans l2
      rw [Hpx.out] at o2
      obtain ⟨A2, c2, rfl, _⟩ := o2.rb.shape
      have R2 := Lib.hid o2.rb
      clear O1 R1 Q1 S1 L1 l2 gx o2
      go_wp2
      go_ret
      exact ⟨A2, c2, rfl, R2.out, L2⟩
set_option maxHeartbeats 400000 in
theorem RPut_none (n : Int) (hf : fitsB n = false) (w : World) : Calls Tryz.prog 31 #[.int .i64 n] w (PutP w []) := by
  have h : n < 0 ∨ 1099511627776 < n := by
    rcases Int.lt_or_le n 0 with h | h
    · exact .inl h
    · refine .inr (Int.not_le.1 fun h2 => ?_)
      rw [(fitsB_iff n).2 ⟨h, h2⟩] at hf; cases hf
  clear hf
  rcases h with h | h
  · go_enter Tryz.func31, Tryz.ntmps31
    go_wp2
    go_ret
    exact ⟨none, 0, rfl, .inl ⟨⟨_, rfl⟩, rfl⟩, Below.refl _ _⟩
  · have h2 : ¬ n < 0 := by omega
    go_enter Tryz.func31, Tryz.ntmps31
    go_wp2
    go_ret
    exact ⟨none, 0, rfl, .inl ⟨⟨_, rfl⟩, rfl⟩, Below.refl _ _⟩
theorem RPut_any (n : Int) (w : World) : Calls Tryz.prog 31 #[.int .i64 n] w (PutP w (putI n)) := by
  cases hf : fitsB n with
  | false => rw [putI_none hf]; exact RPut_none n hf w
  | true =>
    obtain ⟨h0, h1⟩ := (fitsB_iff n).1 hf
    obtain ⟨m, rfl⟩ := Int.eq_ofNat_of_zero_le h0
    rw [putI_nat (by omega)]
    exact RPut_fits m (by omega) w
end Go.Proofs.YtgjddkeogboojaaGreatDoor.Dl
namespace Go.Proofs.YtgjddkeogboojaaGreatDoor.Pk
open Go.Proofs.YtgjddkeogboojaaGreatDoor
open Go Go.RowKit Go.Maps
theorem neqS (W : World) (x y : Bs) : (binOp .neq 9 (.string ⟨x.toArray⟩) (.string ⟨y.toArray⟩)).run Tryz.prog W = .ok (.bool (!(x == y))) W := by
  show (Op.stringOp .neq _ _).run _ _ = _
  by_cases h : x = y
  · subst h; simp [go_sem, Op.stringOp]
  · simp [go_sem, Op.stringOp]
theorem cut32 (W : World) (g : Nat) : (Instr.sliceAt 68 (.pointer (some ⟨g, 0, none⟩)) none none none).run Tryz.prog W = .ok (.slice (some ⟨g, 0, none⟩) 32 32) W := by go_simp
theorem lenB (W : World) (a : Option Addr) (n c : Nat) (ty : TypeId) : (Builtin.len_ #[23] ty #[.slice a n c]).run Tryz.prog W = .ok (.int .i64 (n : Int)) W := by go_simp
theorem sub32 (W : World) (n m : Nat) (h : m + 32 = n) (h2 : n ≤ 1000000) : (binOp .sub 3 (.int .i64 (n : Int)) (.int .i64 32)).run Tryz.prog W = .ok (.int .i64 (m : Int)) W := by
  subst h
  have e : IntKind.i64.wrap (m : Int) = (m : Int) := IntWalk.i64_in _ (by omega)
  simp [go_sem, e]
/-- Bytes that are cut from one on, by names. -/
theorem cut_from {w : World} {A : Option Addr} {N c : Nat} {R : Bs} (h : Dl.Rb w (.slice A N c) R) (hN : N = R.length) (m : Nat) (hm : m ≤ N) : ∃ A1 N1 c1, (∀ W, (Instr.sliceAt 23 (.slice A N c) (some (.int .i64 (m : Int))) none none).run Tryz.prog W = .ok (.slice A1 N1 c1) W) ∧ Dl.Rb w (.slice A1 N1 c1) (R.drop m) ∧ N1 = (R.drop m).length := by
  subst hN
  exact ⟨_, _, _, fun W => Dl.run_cut1 W A R.length c m hm, Dl.Rb.from' h m hm, by rw [List.length_drop]⟩
/-- The first ones of bytes, by names. -/
theorem cut_upto {w : World} {A : Option Addr} {N c : Nat} {R : Bs} (h : Dl.Rb w (.slice A N c) R) (hN : N = R.length) (m : Nat) (hm : m ≤ N) : (∀ W, (Instr.sliceAt 23 (.slice A N c) none (some (.int .i64 (m : Int))) none).run Tryz.prog W = .ok (.slice A m c) W) ∧ Dl.Rb w (.slice A m c) (R.take m) := by
  have hc : N ≤ c := by
    obtain ⟨A', c', e, h2⟩ := h.shape
    cases e; omega
  exact ⟨fun W => run_cut0 W A N c m (by omega), rb_take h hN hm⟩
theorem rb_first {w : World} {A : Option Addr} {N c : Nat} {x : UInt8} {R : Bs} (h : Dl.Rb w (.slice A N c) (x :: R)) : ∃ g o, A = some ⟨g, o, none⟩ ∧ g < w.heap.size ∧ w.cell? ⟨g, o, none⟩ = some (.int .u8 (x.toNat : Int)) := by
  rcases h with ⟨_, e⟩ | ⟨g, o, c', e, _, hg, hc⟩
  · cases e
  · cases e
    exact ⟨g, o, rfl, hg, hc 0 (by simp)⟩
theorem at_b0 (W : World) (g o n c : Nat) (hn : 0 < n) : (Instr.indexAt 23 (.slice (some ⟨g, o, none⟩) n c) (.int .i64 0)).run Tryz.prog W = .ok (.pointer (some ⟨g, o, none⟩)) W := by
  have h1 : n ≠ 0 := by omega
  simp [go_sem, h1]
def BadR (b : Bs) (w : World) (W : World) : Prop := GetPk b w (.returned (.tuple #[.slice none 0 0, .int .i64 3])) W
theorem badR {b : Bs} {w W : World} (h : getP b = none) (hB : Below w.heap.size w W) : BadR b w W := ⟨hB, .inr ⟨h, rfl⟩⟩
/-- What stands at a round's begin. -/
structure GR (b body : Bs) (many : Nat) (w wr : World) (A : Option Addr) (N c : Nat) (z : Value) (k : Nat) (R : Bs) (L : List Ent) : Prop where
  below : Below w.heap.size w wr
  rb : Dl.Rb w (.slice A N c) R
  len : N = R.length
  own : NewE w.heap.size wr z L
  upto : Upto many body k L R
set_option maxHeartbeats 16000000 in
set_option maxRecDepth 100000 in
theorem RGet_any' {w : World} {v : Value} {b : Bs} (h : Dl.Rb w v b) (hl : b.length ≤ 40000) : Calls Tryz.prog 15 #[v] w (GetPk b w) := by
  obtain ⟨A, c, rfl, hc⟩ := h.shape
  by_cases hs : b.length < 37
  · have hsI : (b.length : Int) < 37 := by omega
    have HF := Lib.hid (badR (w := w) (W := w) (getP_short hs) (Below.refl _ _))
    clear h hl hc hs
    go_enter Tryz.func15, Tryz.ntmps15
    go_wp2
    go_ret2
    exact HF.out
  obtain ⟨N, hN⟩ : ∃ N, N = b.length := ⟨_, rfl⟩
  rw [← hN] at h hc hs ⊢
  have hNl : N ≤ 40000 := by omega
  obtain ⟨hs4', hr4⟩ := cut_upto h hN 4 (by omega)
  have hs4 : ∀ W, (Instr.sliceAt 23 (.slice A N c) none (some (.int .i64 4)) none).run Tryz.prog W = .ok (.slice A 4 c) W := hs4'
  clear hs4'
  have hcv4 := fun (W : World) (hW : Below w.heap.size w W) => (hr4.below hW (Nat.le_refl _)).conv
  obtain ⟨hd, hhd⟩ : ∃ hd, hd = b.take 4 := ⟨_, rfl⟩
  rw [← hhd] at hcv4
  have hcv40 := hcv4 w (Below.refl _ _)
  have hsI : ¬ (N : Int) < 37 := by omega
  obtain ⟨mx, hmx, hmx2⟩ := file_max
  have n2 : ¬ mx < (N : Int) := by omega
  have n2b : (N : Int) ≤ mx := by omega
  have Hb := Lib.hid h; have HN := Lib.hid hN; have Hhd := Lib.hid hhd
  by_cases hm : hd = magicL
  case neg =>
    have m1 : (hd != [80, 65, 75, 83]) = true := by simpa [magicL] using hm
    have m2 : (hd == [80, 65, 75, 83]) = false := by simpa [magicL] using hm
    have HF := Lib.hid (badR (w := w) (W := w) (b := b) (getP_none (bodyG_head (by rw [List.take_take, Nat.min_eq_left (by have := HN.out; omega), ← Hhd.out]; exact hm))) (Below.refl _ _))
    clear h hl hc hs hhd hm hcv4 hr4 hN hmx2
    go_enter Tryz.func15, Tryz.ntmps15
    go_upto_region 1 with fail
    rw [← hmx]
    clear hmx
    go_wp2
    go_ret2
    exact HF.out
  have m1 : (hd != [80, 65, 75, 83]) = false := by rw [hm]; rfl
  have m2 : (hd == [80, 65, 75, 83]) = true := by rw [hm]; rfl
  obtain ⟨M, hM⟩ : ∃ M, M = N - 32 := ⟨_, rfl⟩
  have hMI : (N : Int) - 32 = (M : Int) := by omega
  have hMN : M + 32 = N := by omega
  have hMb : M ≤ 40000 := by omega
  obtain ⟨hsM, hrM⟩ := cut_upto h hN M (by omega)
  have HSum := Lib.hid (fun (W : World) (hW : Below w.heap.size w W) => RSum_any W (.slice A M c) (b.take M) (by rw [List.length_take]; omega) (hrM.below hW (Nat.le_refl _)))
  obtain ⟨A2, N2, c2, hs2, hr2, hl2⟩ := cut_from h hN M (by omega)
  have hc2 := fun (W : World) (hW : Below w.heap.size w W) => (hr2.below hW (Nat.le_refl _)).conv
  obtain ⟨sb, hsb⟩ : ∃ sb, sb = b.drop M := ⟨_, rfl⟩
  rw [← hsb] at hc2
  obtain ⟨body0, hb0⟩ : ∃ x, x = b.take M := ⟨_, rfl⟩
  have Hsb := Lib.hid hsb; have Hb0 := Lib.hid hb0; have HM := Lib.hid hMN; have HC2 := Lib.hid hc2; have HS2 := Lib.hid hs2; have H40 : Hid (37 ≤ N ∧ N ≤ 40000) := Lib.hid ⟨by omega, hNl⟩
  have Hm := Lib.hid hm
  have hsMI : ∀ W, (Instr.sliceAt 23 (.slice A N c) none (some (.int .i64 ((M : Nat) : Int))) none).run Tryz.prog W = .ok (.slice A M c) W := hsM
  clear h hl hc hs hhd hm hcv4 hr4 hN hmx2 hrM hr2 hl2 hsb hb0 hc2 hs2 hM hMN hsM hNl
  go_enter Tryz.func15, Tryz.ntmps15
  go_upto_region 1 with fail
  rw [← hmx]
  clear hmx
  go_upto_region 3 with fail
  clear hcv40 hs4 m1 m2 n2 n2b hsI
  go_wp2_with fail
  refine (HSum.out _ (Below.refl _ _)).mono ?_
  intro e w6 hh
  rw [hh.1, ← sumC_eq]
  have b6 := hh.2
  clear hh HSum hsMI hMI
  obtain ⟨w7, hw7⟩ : ∃ w7, w7 = w6.alloc (.cells (u8s 32 (byteV (sumV (b.take M)))) 68) := ⟨_, rfl⟩
  have b7 : Below w6.heap.size w6 w7 := by rw [hw7]; exact below_new w6 _
  have R7 := Lib.hid (sum_rb (w := w7) (g := w6.heap.size) (s := b.take M) (by rw [hw7]; exact heap_alloc_new w6 _))
  have HB7 := Lib.hid (b6.trans (b7.mono b6.size))
  obtain ⟨F, hF⟩ : ∃ F, F = byteV (sumV (b.take M)) := ⟨_, rfl⟩
  rw [← hF] at hw7
  rw [← hF]
  obtain ⟨sm, hsm⟩ : ∃ sm, sm = sumL (b.take M) := ⟨_, rfl⟩
  rw [← hsm] at R7
  have Hsm := Lib.hid hsm
  have HW7 := Lib.hid hw7
  have hz32 : ∀ W, (zeroValue 68).run Tryz.prog W = .ok (.agg (u8s 32 fun _ => 0)) W := (zero_of_info (n := 32) (by kernel_rfl)).1
  clear hF hw7 b6 b7 hsm
  go_upto_region 4 with (refine wpList_store_row rfl 68 _ _ rfl w6.heap.size (u8s 32 F) rfl rfl 68 (u8s 32 fun _ => 0) (by exact Blk.new w6 _ _) (by rw [u8s_size]; kernel_rfl) (by rw [u8s_size, u8s_size]) (u8s_one 32 F) ?_; rw [World.setRow_alloc_new])
  clear hz32
  rw [← HW7.out]
  obtain ⟨g7, hg7⟩ : ∃ g, g = w6.heap.size := ⟨_, rfl⟩
  rw [← hg7] at R7 ⊢
  clear HW7 hg7
  refine AnyB.start (by kernel_rfl) ?_
  refine AnyB.tk 0 (.slice (some ⟨g7, 0, none⟩) 32 32) rfl (fun W hW => y_slice (xv := .pointer (some ⟨g7, 0, none⟩)) (lv := none) (hv := none) (mv := none) rfl (by kernel_rfl) (by kernel_rfl) (by kernel_rfl) (by kernel_rfl) (cut32 W g7)) ?_
  refine AnyB.tk 2 (.slice A N c) rfl (fun W hW => y_move rfl (by kernel_rfl)) ?_
  refine AnyB.tk 3 (.slice A N c) rfl (fun W hW => y_move rfl (by kernel_rfl)) ?_
  refine AnyB.tk 4 (.int .i64 (N : Int)) rfl (fun W hW => z_len (sv := .slice A N c) rfl (by kernel_rfl) (lenB W A N c _)) ?_
  refine AnyB.tk 5 (.int .i64 (M : Int)) rfl (fun W hW => y_bin (x := .int .i64 (N : Int)) (y := .int .i64 32) rfl (by kernel_rfl) (by kernel_rfl) (by kernel_rfl) (sub32 W N M HM.out (by have := H40.out; omega))) ?_
  refine AnyB.tk 6 (.slice A2 N2 c2) rfl (fun W hW => y_slice (xv := .slice A N c) (lv := some (.int .i64 (M : Int))) (hv := none) (mv := none) rfl (by kernel_rfl) (by kernel_rfl) (by kernel_rfl) (by kernel_rfl) (HS2.out W)) ?_
  refine AnyB.tk 1 (.string ⟨sm.toArray⟩) rfl (fun W hW => y_conv (x := .slice (some ⟨g7, 0, none⟩) 32 32) rfl (by kernel_rfl) (R7.out.below (b := w7.heap.size) ⟨hW.os, hW.tape, hW.output, hW.size, hW.block⟩ (Nat.le_refl _)).conv) ?_
  refine AnyB.tk 7 (.string ⟨sb.toArray⟩) rfl (fun W hW => y_conv (x := .slice A2 N2 c2) rfl (by kernel_rfl) (HC2.out W (HB7.out.trans (Below.mono ⟨hW.os, hW.tape, hW.output, hW.size, hW.block⟩ HB7.out.size)))) ?_
  refine AnyB.tk 8 (.bool (!(sm == sb))) rfl (fun W hW => y_bin (x := .string ⟨sm.toArray⟩) (y := .string ⟨sb.toArray⟩) rfl (by kernel_rfl) (by kernel_rfl) (by kernel_rfl) (neqS W sm sb)) ?_
  refine AnyB.done _ (by kernel_rfl) ?_
  have HB7' : Hid (Below w.heap.size w w7.drew) := Lib.hid HB7.out.drew
  obtain ⟨w8, hw8⟩ : ∃ z, z = w7.drew := ⟨_, rfl⟩
  rw [← hw8] at HB7' ⊢
  clear hw8 HB7 R7 HC2 HS2
  have hL32 : b.length - 32 = M := by have := HM.out; have := HN.out; omega
  have HL32 := Lib.hid hL32
  clear hL32
  by_cases hq : sm = sb
  case neg =>
    have hbq : (!(sm == sb)) = true := by simpa using hq
    have HF := Lib.hid (badR (b := b) (getP_sum (by rw [HL32.out, ← Hsm.out, ← Hsb.out]; exact hq)) HB7'.out)
    rw [hbq]
    clear hq hbq
    go_simp
    go_wp2_with fail
    go_ret2
    exact HF.out
  have hbq : (!(sm == sb)) = false := by rw [hq]; simp
  rw [hbq]
  have Hq := Lib.hid hq
  clear hq hbq
  go_simp
  -- rest: the bytes between
  obtain ⟨R0, hR0⟩ : ∃ R0, R0 = (b.take M).drop 4 := ⟨_, rfl⟩
  obtain ⟨A0, N0, c0, hs0, hr0, hl0⟩ : ∃ A0 N0 c0, (∀ W, (Instr.sliceAt 23 (.slice A N c) (some (.int .i64 4)) (some (.int .i64 (M : Int))) none).run Tryz.prog W = .ok (.slice A0 N0 c0) W) ∧ Dl.Rb w (.slice A0 N0 c0) R0 ∧ N0 = R0.length := by
    have h1 := HM.out
    have h2 := H40.out
    have hb := Hb.out
    have hN := HN.out
    subst hN
    have hcc : b.length ≤ c := by
      obtain ⟨A', c', e, h⟩ := hb.shape
      cases e
      exact h
    refine ⟨_, _, _, fun W => Dl.run_cut2 W A b.length c 4 M (by omega) (by omega), ?_, ?_⟩
    · rw [hR0]
      exact hb.cut 4 M (by omega) (by omega)
    · rw [hR0, List.length_drop, List.length_take]; omega
  have hmI : (N : Int) - 32 = (M : Int) := by have := HM.out; omega
  have HR0 := Lib.hid hR0; have Hr0 := Lib.hid hr0; have Hl0 := Lib.hid hl0
  have HG := Lib.hid (fun W (hW : Below w.heap.size w W) => Dl.RGet_any W _ R0 (hr0.below hW (Nat.le_refl _)))
  clear hR0 hr0 hl0
  go_upto_region 7 with fail
  clear hs0 hmI
  go_wp2_with fail
  refine (HG.out _ HB7'.out).mono ?_
  intro e w9 hh
  rw [hh.1, ← hh.2]
  clear hh w9 e HG
  have Hh4 : Hid ((b.take M).take 4 = magicL) := Lib.hid (by rw [List.take_take, Nat.min_eq_left (by have := H40.out; have := HM.out; omega), ← Hhd.out]; exact Hm.out)
  cases hg : Dl.getL R0 with
  | none =>
    rw [Dl.gotV_none]
    have HF := Lib.hid (badR (b := b) (getP_none (by rw [HL32.out]; exact bodyG_num (by rw [← HR0.out]; exact hg))) HB7'.out)
    clear hg
    go_wp2_with fail
    go_ret2
    exact HF.out
  | some p =>
  obtain ⟨many, j⟩ := p
  rw [Dl.gotV_some]
  obtain ⟨_, hk1, hkl, _⟩ := Dl.getL_some hg
  by_cases h512 : 512 < many
  · have h5I : (512 : Int) < (many : Int) := by omega
    have HF := Lib.hid (badR (b := b) (getP_none (by rw [HL32.out]; exact bodyG_many (by rw [← HR0.out]; exact hg) h512)) HB7'.out)
    clear hg h512 hk1 hkl
    go_wp2_with fail
    go_ret2
    exact HF.out
  have h5I : ¬ (512 : Int) < (many : Int) := by omega
  obtain ⟨A1, N1, c1, hs1, hr1, hl1⟩ := cut_from Hr0.out Hl0.out j (by have := Hl0.out; omega)
  obtain ⟨body, hbd⟩ : ∃ x, x = R0.drop j := ⟨_, rfl⟩
  rw [← hbd] at hr1 hl1
  have HRead : Hid (bodyG (b.take M) = match readN many body with | none => none | some (l, r) => if r = [] ∧ rightL l = true then some l else none) := Lib.hid (by rw [bodyG_read Hh4.out (by rw [← HR0.out]; exact hg), hbd, HR0.out]; rfl)
  have H512 : Hid (many ≤ 512) := Lib.hid (by omega)
  have HBl : Hid (body.length ≤ 40000) := Lib.hid (by rw [hbd, HR0.out, List.length_drop, List.length_drop, List.length_take]; have := H40.out; have := HN.out; omega)
  have HG0 : Hid (GR b body many w w8 A1 N1 c1 (.slice none 0 0) 0 body []) := Lib.hid ⟨HB7'.out, hr1, hl1, OwK.nil _ _ _ _ _, Upto.start many body⟩
  have Hgp : Hid (readN many body = none → getP b = none) := Lib.hid fun hn => getP_none (by rw [HL32.out, HRead.out, hn])
  have H1N := Lib.hid (show j ≤ N0 by have := Hl0.out; omega)
  clear hg hk1 hkl hr1 hl1 hbd h512
  go_upto_region 11 with fail
  clear hs1 h5I
  go_wp2_with fail
  go_loopw [5, 9, 10] (fun rv z iv wr => ∃ (k : Nat) (A : Option Addr) (N c : Nat) (R : Bs) (L : List Ent), k ≤ many ∧ iv = .int .i64 k ∧ rv = .slice A N c ∧ Hid (GR b body many w wr A N c z k R L)) (fun _ _ iv _ => many - (intOf iv).toNat)
  case atStart => exact ⟨0, A1, N1, c1, body, [], Nat.zero_le _, rfl, rfl, HG0⟩
  case round =>
    obtain ⟨k, A, N, c, R, L, hk, rfl, rfl, hG⟩ := hrel
    have hL := hG.out.upto.1
    by_cases hlt : k < many
    · skip
      have hltI : (k : Int) < (many : Int) := by omega
      have HLl : Hid (L.length = k ∧ k < 512) := Lib.hid ⟨hL, by have := H512.out; omega⟩
      cases R with
      | nil =>
        have hN0 : N = 0 := hG.out.len
        have HF := Lib.hid (badR (b := b) (Hgp.out (hG.out.upto.fail hlt readE_nil)) hG.out.below)
        subst hN0
        clear hL
        go_wp2_with fail
        go_ret2
        exact HF.out
      | cons x r =>
      have hNl : N = r.length + 1 := hG.out.len
      have hN1 : ¬ (N : Int) < 1 := by omega
      obtain ⟨g, o, hAe, hg, hx⟩ := rb_first hG.out.rb
      have c0 : wr.cell? ⟨g, o, none⟩ = some (.int .u8 (x.toNat : Int)) := (hG.out.below.cell (p := ⟨g, o, none⟩) hg).trans hx
      have hi : (Instr.indexAt 23 (.slice A N c) (.int .i64 0)).run Tryz.prog wr = .ok (.pointer (some ⟨g, o, none⟩)) wr := by rw [hAe]; exact at_b0 wr g o N c (by omega)
      have hxl := x.toNat_lt
      have hx0 : 0 ≤ (x.toNat : Int) := by omega
      have hx1 : (x.toNat : Int) < 256 := by omega
      obtain ⟨xn, hxn⟩ : ∃ xn, xn = x.toNat := ⟨_, rfl⟩
      rw [← hxn] at c0 hx0 hx1
      obtain ⟨p, hp⟩ : ∃ p, p = wr.heap.size := ⟨_, rfl⟩
      obtain ⟨w1, hw1⟩ : ∃ z, z = wr.alloc (.cells #[.int .i64 (xn : Int), .int .i64 0, .string ⟨#[]⟩, .string ⟨#[]⟩] 51) := ⟨_, rfl⟩
      have hb1 : Below wr.heap.size wr w1 := by rw [hw1]; exact below_new wr _
      have hk1 : w1.heap[p]? = some (.cells #[.int .i64 (xn : Int), .int .i64 0, .string ⟨#[]⟩, .string ⟨#[]⟩] 51 (0, 0)) := by rw [hw1, hp]; exact heap_alloc_new wr _
      have hB1 := hG.out.below.trans (hb1.mono hG.out.below.size)
      have hO1 : NewE w.heap.size w1 u9 L := OwK.below hG.out.own hb1 (Nat.le_refl _)
      have hpo : ∀ q, u9.ownBlock = some q → q ≠ p := fun q hq => by have := (hG.out.own.lt q hq).2; omega
      obtain ⟨A1, N1, c1, hs1, hr1, hl1⟩ := cut_from hG.out.rb hG.out.len 1 (by omega)
      rw [List.drop_one, List.tail_cons] at hr1 hl1
      have HRG := Lib.hid (Dl.RGet_any w1 _ r (hr1.below hB1 (Nat.le_refl _)))
      have HW1 := Lib.hid hw1; have HK1 := Lib.hid hk1; have HB1 := Lib.hid hB1; have HO1 := Lib.hid hO1; have HPo := Lib.hid hpo; have HXn := Lib.hid hxn; have Hpw : Hid (w.heap.size ≤ p) := Lib.hid (by rw [hp]; exact hG.out.below.size)
      have Hr1 := Lib.hid hr1; have Hl1 := Lib.hid hl1; have HU := Lib.hid hG.out.upto; have HLen := Lib.hid hNl; have HRb := Lib.hid hG.out.rb
      have HPz := Lib.hid hp
      have hs1' : ∀ W, (Instr.sliceAt 23 (.slice A N c) (some (.int .i64 1)) none none).run Tryz.prog W = .ok (.slice A1 N1 c1) W := hs1
      clear hw1 hb1 hk1 hB1 hO1 hpo hp hxn hxl hr1 hl1 hL hx hg hs1 hNl hAe
      go_upto_region 18 with fail
      rw [← HPz.out, ← HW1.out]
      clear c0 hi HW1 HPz hx0 hx1
      go_wp2_with fail
      refine HRG.out.mono ?_
      intro e w9 hh
      rw [hh.1, ← hh.2]
      clear hh w9 e HRG hs1' hG
      cases hgl : Dl.getL r with
      | none =>
        rw [Dl.gotV_none]
        have HF := Lib.hid (badR (b := b) (Hgp.out (HU.out.fail hlt (readE_num hgl))) HB1.out)
        clear hgl
        go_wp2_with fail
        go_ret2
        exact HF.out
      | some q =>
      obtain ⟨n, j⟩ := q
      rw [Dl.gotV_some]
      obtain ⟨hn40, hj1, hjl, _⟩ := Dl.getL_some hgl
      have Hgl := Lib.hid hgl
      obtain ⟨A2, N2, c2, hs2, hr2, hl2⟩ := cut_from HRb.out (by have := HLen.out; simp; omega) (1 + j) (by have := HLen.out; omega)
      have hd2 : (x :: r).drop (1 + j) = r.drop j := by rw [Nat.add_comm, List.drop_succ_cons]
      rw [hd2] at hr2 hl2
      obtain ⟨R2, hR2⟩ : ∃ R2, R2 = r.drop j := ⟨_, rfl⟩
      rw [← hR2] at hr2 hl2
      have hj6 : j ≤ 1000000 := by have := HLen.out; have := HBl.out; have := HU.out.2.1; simp at this; omega
      have hjI : (1 : Int) + (j : Int) = ((1 + j : Nat) : Int) := by omega
      have Hr2 := Lib.hid hr2; have Hl2 := Lib.hid hl2; have HR2 := Lib.hid hR2; have Hn40 := Lib.hid hn40
      have HR2l : Hid (R2.length ≤ 40000) := Lib.hid (by rw [hR2, List.length_drop]; have := HBl.out; have := HU.out.2.1; simp at this; omega)
      have hs2' : ∀ W, (Instr.sliceAt 23 (.slice A N c) (some (.int .i64 (1 + (j : Int)))) none none).run Tryz.prog W = .ok (.slice A2 N2 c2) W := fun W => by rw [hjI]; exact hs2 W
      have hw64 : IntKind.i64.wrap (1 + (j : Int)) = 1 + (j : Int) := by rw [hjI]; exact IntWalk.i64_in _ (by omega)
      clear hr2 hl2 hR2 hgl hj1 hjl hd2 hn40 hs2 hjI
      go_upto_region 22 with fail
      clear hs2' hw64
      by_cases h6 : xn = 6
      · subst h6
        have HRG2 := Lib.hid (Dl.RGet_any w1 _ R2 (Hr2.out.below HB1.out (Nat.le_refl _)))
        have Hx6 : Hid (x = 6) := Lib.hid (by
          have := HXn.out
          exact UInt8.toNat_inj.1 this.symm)
        obtain ⟨q0, q1, q2, q3⟩ := cells4 HK1.out
        go_wp2_with fail
        refine HRG2.out.mono ?_
        intro e w9 hh
        rw [hh.1, ← hh.2]
        clear hh w9 e HRG2
        cases hg2 : Dl.getL R2 with
        | none =>
          rw [Dl.gotV_none]
          have HF := Lib.hid (badR (b := b) (Hgp.out (HU.out.fail hlt (by rw [Hx6.out]; exact readE_back0 Hgl.out (by rw [← HR2.out]; exact hg2)))) HB1.out)
          clear hg2
          go_wp2_with fail
          go_ret2
          exact HF.out
        | some q' =>
        obtain ⟨m, d⟩ := q'
        rw [Dl.gotV_some]
        obtain ⟨hm40, hd1, hdl, _⟩ := Dl.getL_some hg2
        obtain ⟨A3, N3, c3, hs3, hr3, hl3⟩ := cut_from Hr2.out Hl2.out d (by have := Hl2.out; omega)
        obtain ⟨R3, hR3⟩ : ∃ R3, R3 = R2.drop d := ⟨_, rfl⟩
        rw [← hR3] at hr3 hl3
        have HRE : Hid (readE (x :: r) = if R3.length < n then none else some (⟨6, (m : Int), [], R3.take n⟩, R3.drop n)) := Lib.hid (by rw [Hx6.out, readE_back Hgl.out (by rw [← HR2.out]; exact hg2), hR3, HR2.out])
        have f1 := frozen4 HK1.out 1
        obtain ⟨w3, hw3⟩ : ∃ z, z = w1.setCell ⟨p, 1, none⟩ (.int .i64 (m : Int)) := ⟨_, rfl⟩
        have T3 : Dl.But (fun k => k = p) w1 w3 := by rw [hw3]; exact but_setCell w1 p 1 _
        have K3 : Hid (w3.heap[p]? = some (.cells #[.int .i64 6, .int .i64 (m : Int), .string ⟨#[]⟩, .string ⟨#[]⟩] 51 (0, 0))) := Lib.hid (by rw [hw3]; exact (blk_setCell HK1.out _).trans rfl)
        have HB3 := Lib.hid (HB1.out.trans (T3.below (fun k _ h => by rw [h]; exact Hpw.out) HB1.out.size))
        have HO3 : Hid (NewE w.heap.size w3 u9 L) := Lib.hid (row_butD HO1.out T3 (fun q hq => HPo.out q hq))
        have HW3 := Lib.hid hw3
        have Hr3 := Lib.hid hr3; have Hl3 := Lib.hid hl3
        have HR3l : Hid (R3.length ≤ 40000) := Lib.hid (by rw [hR3, List.length_drop]; have := HR2l.out; omega)
        clear hg2 hm40 hd1 hdl hw3 T3 hr3 hl3 hR3
        go_upto_region 27 with fail
        rw [← HW3.out]
        clear q0 q1 q2 q3 f1 HW3
        go_upto_region 28 with fail
        clear hs3
        obtain ⟨q0, q1, q2, q3⟩ := cells4 K3.out
        by_cases hn : n ≤ N3
        case neg =>
          have hnI : (N3 : Int) < (n : Int) := by omega
          have HF := Lib.hid (badR (b := b) (Hgp.out (HU.out.fail hlt (by rw [HRE.out, if_pos (by rw [← Hl3.out]; omega)]))) HB3.out)
          clear hn
          go_wp2_with fail
          go_ret2
          exact HF.out
        have hnI : ¬ (N3 : Int) < (n : Int) := by omega
        obtain ⟨hs5, hr5⟩ := cut_upto Hr3.out Hl3.out n hn
        have hcv5 := (hr5.below HB3.out (Nat.le_refl _)).conv
        have hst : Upto many body (k + 1) (L ++ [⟨6, (m : Int), [], R3.take n⟩]) (R3.drop n) := HU.out.step hlt (by rw [HRE.out, if_neg (by rw [← Hl3.out]; omega)])
        obtain ⟨d5, hd5⟩ : ∃ d, d = R3.take n := ⟨_, rfl⟩
        rw [← hd5] at hcv5 hst
        obtain ⟨A6, N6, c6, hs6, hr6, hl6⟩ := cut_from Hr3.out Hl3.out n hn
        obtain ⟨R6, hR6⟩ : ∃ R, R = R3.drop n := ⟨_, rfl⟩
        rw [← hR6] at hst hr6 hl6
        have f3 := frozen4 K3.out 3
        obtain ⟨w5, hw5⟩ : ∃ z, z = w3.setCell ⟨p, 3, none⟩ (.string ⟨d5.toArray⟩) := ⟨_, rfl⟩
        have T5 : Dl.But (fun k => k = p) w3 w5 := by rw [hw5]; exact but_setCell w3 p 3 _
        have K5 : w5.heap[p]? = some (.cells #[.int .i64 6, .int .i64 (m : Int), .string ⟨#[]⟩, .string ⟨d5.toArray⟩] 51 (0, 0)) := by rw [hw5]; exact (blk_setCell K3.out _).trans rfl
        have HB5 := Lib.hid (HB3.out.trans (T5.below (fun k _ h => by rw [h]; exact Hpw.out) HB3.out.size))
        have HO5 : Hid (NewE w.heap.size w5 u9 L) := Lib.hid (row_butD HO3.out T5 (fun q hq => HPo.out q hq))
        have HW5 := Lib.hid hw5; have HK5 := Lib.hid K5; have Hst := Lib.hid hst; have Hr6 := Lib.hid hr6; have Hl6 := Lib.hid hl6
        clear hw5 T5 K5 hst hr5 hr6 hl6 hR6 hd5 hn
        go_upto_region 36 with fail
        rw [← HW5.out]
        clear q0 q1 q2 q3 f3 hcv5 HW5 hs5
        go_upto_region 37 with fail
        clear hs6
        obtain ⟨q0, q1, q2, q3⟩ := cells4 HK5.out
        go_wp2_with (at_builtin; refine wpList_one entK rfl _ _ rfl w.heap.size u9 L ⟨6, (m : Int), [], d5⟩ _ rfl rfl rfl HO5.out ?c1 (by decide) ?c2 ?_)
        case c1 => have := HLl.out; omega
        case c2 => exact HB5.out.size
        intro z' w8 o8 b8
        have HB8 := Lib.hid (HB5.out.trans b8)
        have HO8 := Lib.hid o8
        clear o8 b8 q0 q1 q2 q3
        go_wp2_with fail
        go_roundw
        case rel => exact ⟨k + 1, A6, N6, c6, R6, _, hlt, by go_num, rfl, Lib.hid ⟨HB8.out, Hr6.out, Hl6.out, HO8.out, Hst.out⟩⟩
        case measure => simp [intOf]; omega
      have b6 : ((xn : Int) == 6) = false := by rw [beq_eq_false_iff_ne]; omega
      have Hne6 : Hid (x ≠ 6) := Lib.hid fun e => h6 (by rw [HXn.out, e]; rfl)
      by_cases h7 : xn = 7
      · subst h7
        have Hx7 : Hid (x = 7) := Lib.hid (by
          have := HXn.out
          exact UInt8.toNat_inj.1 this.symm)
        obtain ⟨q0, q1, q2, q3⟩ := cells4 HK1.out
        clear b6 h6
        by_cases h64 : N2 < 64
        · have h64I : (N2 : Int) < 64 := by omega
          have HF := Lib.hid (badR (b := b) (Hgp.out (HU.out.fail hlt (by rw [Hx7.out]; exact readE_base0 Hgl.out (by rw [← HR2.out, ← Hl2.out]; exact h64)))) HB1.out)
          clear h64
          go_wp2_with fail
          go_ret2
          exact HF.out
        have h64I : ¬ (N2 : Int) < 64 := by omega
        obtain ⟨hs3, hr3⟩ := cut_upto Hr2.out Hl2.out 64 (by omega)
        have hcv := (hr3.below HB1.out (Nat.le_refl _)).conv
        obtain ⟨bs, hbs⟩ : ∃ bs, bs = R2.take 64 := ⟨_, rfl⟩
        rw [← hbs] at hcv
        obtain ⟨A3, N3, c3, hs4, hr4, hl4⟩ := cut_from Hr2.out Hl2.out 64 (by omega)
        obtain ⟨R3, hR3⟩ : ∃ R3, R3 = R2.drop 64 := ⟨_, rfl⟩
        rw [← hR3] at hr4 hl4
        have HRE : Hid (readE (x :: r) = if R3.length < n then none else some (⟨7, 0, bs, R3.take n⟩, R3.drop n)) := Lib.hid (by rw [Hx7.out, readE_base Hgl.out (by rw [← HR2.out, ← Hl2.out]; omega), hR3, HR2.out, hbs, HR2.out])
        have f2 := frozen4 HK1.out 2
        obtain ⟨w3, hw3⟩ : ∃ z, z = w1.setCell ⟨p, 2, none⟩ (.string ⟨bs.toArray⟩) := ⟨_, rfl⟩
        have T3 : Dl.But (fun k => k = p) w1 w3 := by rw [hw3]; exact but_setCell w1 p 2 _
        have K3 : Hid (w3.heap[p]? = some (.cells #[.int .i64 7, .int .i64 0, .string ⟨bs.toArray⟩, .string ⟨#[]⟩] 51 (0, 0))) := Lib.hid (by rw [hw3]; exact (blk_setCell HK1.out _).trans rfl)
        have HB3 := Lib.hid (HB1.out.trans (T3.below (fun k _ h => by rw [h]; exact Hpw.out) HB1.out.size))
        have HO3 : Hid (NewE w.heap.size w3 u9 L) := Lib.hid (row_butD HO1.out T3 (fun q hq => HPo.out q hq))
        have HW3 := Lib.hid hw3
        have Hr3 := Lib.hid hr4; have Hl3 := Lib.hid hl4
        have HR3l : Hid (R3.length ≤ 40000) := Lib.hid (by rw [hR3, List.length_drop]; have := HR2l.out; omega)
        have hs3' : ∀ W, (Instr.sliceAt 23 (.slice A2 N2 c2) none (some (.int .i64 64)) none).run Tryz.prog W = .ok (.slice A2 64 c2) W := hs3
        have hs4' : ∀ W, (Instr.sliceAt 23 (.slice A2 N2 c2) (some (.int .i64 64)) none none).run Tryz.prog W = .ok (.slice A3 N3 c3) W := hs4
        clear hw3 T3 hr3 hr4 hl4 hR3 hbs h64 hs3 hs4
        go_upto_region 32 with fail
        rw [← HW3.out]
        clear q0 q1 q2 q3 f2 HW3 hcv hs3'
        go_upto_region 33 with fail
        clear hs4'
        obtain ⟨q0, q1, q2, q3⟩ := cells4 K3.out
        by_cases hn : n ≤ N3
        case neg =>
          have hnI : (N3 : Int) < (n : Int) := by omega
          have HF := Lib.hid (badR (b := b) (Hgp.out (HU.out.fail hlt (by rw [HRE.out, if_pos (by rw [← Hl3.out]; omega)]))) HB3.out)
          clear hn
          go_wp2_with fail
          go_ret2
          exact HF.out
        have hnI : ¬ (N3 : Int) < (n : Int) := by omega
        obtain ⟨hs5, hr5⟩ := cut_upto Hr3.out Hl3.out n hn
        have hcv5 := (hr5.below HB3.out (Nat.le_refl _)).conv
        have hst : Upto many body (k + 1) (L ++ [⟨7, 0, bs, R3.take n⟩]) (R3.drop n) := HU.out.step hlt (by rw [HRE.out, if_neg (by rw [← Hl3.out]; omega)])
        obtain ⟨d5, hd5⟩ : ∃ d, d = R3.take n := ⟨_, rfl⟩
        rw [← hd5] at hcv5 hst
        obtain ⟨A6, N6, c6, hs6, hr6, hl6⟩ := cut_from Hr3.out Hl3.out n hn
        obtain ⟨R6, hR6⟩ : ∃ R, R = R3.drop n := ⟨_, rfl⟩
        rw [← hR6] at hst hr6 hl6
        have f3 := frozen4 K3.out 3
        obtain ⟨w5, hw5⟩ : ∃ z, z = w3.setCell ⟨p, 3, none⟩ (.string ⟨d5.toArray⟩) := ⟨_, rfl⟩
        have T5 : Dl.But (fun k => k = p) w3 w5 := by rw [hw5]; exact but_setCell w3 p 3 _
        have K5 : w5.heap[p]? = some (.cells #[.int .i64 7, .int .i64 0, .string ⟨bs.toArray⟩, .string ⟨d5.toArray⟩] 51 (0, 0)) := by rw [hw5]; exact (blk_setCell K3.out _).trans rfl
        have HB5 := Lib.hid (HB3.out.trans (T5.below (fun k _ h => by rw [h]; exact Hpw.out) HB3.out.size))
        have HO5 : Hid (NewE w.heap.size w5 u9 L) := Lib.hid (row_butD HO3.out T5 (fun q hq => HPo.out q hq))
        have HW5 := Lib.hid hw5; have HK5 := Lib.hid K5; have Hst := Lib.hid hst; have Hr6 := Lib.hid hr6; have Hl6 := Lib.hid hl6
        clear hw5 T5 K5 hst hr5 hr6 hl6 hR6 hd5 hn
        go_upto_region 36 with fail
        rw [← HW5.out]
        clear q0 q1 q2 q3 f3 hcv5 HW5 hs5
        go_upto_region 37 with fail
        clear hs6
        obtain ⟨q0, q1, q2, q3⟩ := cells4 HK5.out
        go_wp2_with (at_builtin; refine wpList_one entK rfl _ _ rfl w.heap.size u9 L ⟨7, 0, bs, d5⟩ _ rfl rfl rfl HO5.out ?c1 (by decide) ?c2 ?_)
        case c1 => have := HLl.out; omega
        case c2 => exact HB5.out.size
        intro z' w8 o8 b8
        have HB8 := Lib.hid (HB5.out.trans b8)
        have HO8 := Lib.hid o8
        clear o8 b8 q0 q1 q2 q3
        go_wp2_with fail
        go_roundw
        case rel => exact ⟨k + 1, A6, N6, c6, R6, _, hlt, by go_num, rfl, Lib.hid ⟨HB8.out, Hr6.out, Hl6.out, HO8.out, Hst.out⟩⟩
        case measure => simp [intOf]; omega
      have b7 : ((xn : Int) == 7) = false := by rw [beq_eq_false_iff_ne]; omega
      have HRE : Hid (readE (x :: r) = if R2.length < n then none else some (⟨(xn : Int), 0, [], R2.take n⟩, R2.drop n)) := Lib.hid (by rw [readE_plain Hne6.out (fun e => h7 (by rw [HXn.out, e]; rfl)) Hgl.out, HR2.out, HXn.out])
      obtain ⟨q0, q1, q2, q3⟩ := cells4 HK1.out
      clear h6 h7
      go_upto_region 33 with fail
      by_cases hn : n ≤ N2
      case neg =>
        have hnI : (N2 : Int) < (n : Int) := by omega
        have HF := Lib.hid (badR (b := b) (Hgp.out (HU.out.fail hlt (by rw [HRE.out, if_pos (by rw [← Hl2.out]; omega)]))) HB1.out)
        clear hn
        go_wp2_with fail
        go_ret2
        exact HF.out
      have hnI : ¬ (N2 : Int) < (n : Int) := by omega
      obtain ⟨hs5, hr5⟩ := cut_upto Hr2.out Hl2.out n hn
      have hcv5 := (hr5.below HB1.out (Nat.le_refl _)).conv
      have hst : Upto many body (k + 1) (L ++ [⟨(xn : Int), 0, [], R2.take n⟩]) (R2.drop n) := HU.out.step hlt (by rw [HRE.out, if_neg (by rw [← Hl2.out]; omega)])
      obtain ⟨d5, hd5⟩ : ∃ d, d = R2.take n := ⟨_, rfl⟩
      rw [← hd5] at hcv5 hst
      obtain ⟨A6, N6, c6, hs6, hr6, hl6⟩ := cut_from Hr2.out Hl2.out n hn
      obtain ⟨R6, hR6⟩ : ∃ R, R = R2.drop n := ⟨_, rfl⟩
      rw [← hR6] at hst hr6 hl6
      have f3 := frozen4 HK1.out 3
      obtain ⟨w5, hw5⟩ : ∃ z, z = w1.setCell ⟨p, 3, none⟩ (.string ⟨d5.toArray⟩) := ⟨_, rfl⟩
      have T5 : Dl.But (fun k => k = p) w1 w5 := by rw [hw5]; exact but_setCell w1 p 3 _
      have K5 : w5.heap[p]? = some (.cells #[.int .i64 (xn : Int), .int .i64 0, .string ⟨#[]⟩, .string ⟨d5.toArray⟩] 51 (0, 0)) := by rw [hw5]; exact (blk_setCell HK1.out _).trans rfl
      have HB5 := Lib.hid (HB1.out.trans (T5.below (fun k _ h => by rw [h]; exact Hpw.out) HB1.out.size))
      have HO5 : Hid (NewE w.heap.size w5 u9 L) := Lib.hid (row_butD HO1.out T5 (fun q hq => HPo.out q hq))
      have HW5 := Lib.hid hw5; have HK5 := Lib.hid K5; have Hst := Lib.hid hst; have Hr6 := Lib.hid hr6; have Hl6 := Lib.hid hl6
      clear hw5 T5 K5 hst hr5 hr6 hl6 hR6 hd5 hn
      go_upto_region 36 with fail
      rw [← HW5.out]
      clear q0 q1 q2 q3 f3 hcv5 HW5 hs5
      go_upto_region 37 with fail
      clear hs6
      obtain ⟨q0, q1, q2, q3⟩ := cells4 HK5.out
      go_wp2_with (at_builtin; refine wpList_one entK rfl _ _ rfl w.heap.size u9 L ⟨(xn : Int), 0, [], d5⟩ _ rfl rfl rfl HO5.out ?c1 (by decide) ?c2 ?_)
      case c1 => have := HLl.out; omega
      case c2 => exact HB5.out.size
      intro z' w8 o8 b8
      have HB8 := Lib.hid (HB5.out.trans b8)
      have HO8 := Lib.hid o8
      clear o8 b8 q0 q1 q2 q3
      go_wp2_with fail
      go_roundw
      case rel => exact ⟨k + 1, A6, N6, c6, R6, _, hlt, by go_num, rfl, Lib.hid ⟨HB8.out, Hr6.out, Hl6.out, HO8.out, Hst.out⟩⟩
      case measure => simp [intOf]; omega
    · obtain rfl : k = many := by omega
      have hltI : ¬ (k : Int) < (k : Int) := by omega
      have hdn := hG.out.upto.done
      have Hdn := Lib.hid hdn
      have hRead : getP b = if R = [] ∧ rightL L = true then some L else none := by
        have h1 := HRead.out
        rw [hdn] at h1
        simp only at h1
        by_cases hc : R = [] ∧ rightL L = true
        · rw [if_pos hc] at h1 ⊢
          exact getP_some (by have := H40.out; have := HN.out; omega) (by have := H40.out; have := HN.out; omega) (by rw [HL32.out]; exact h1) (by rw [HL32.out, ← Hsm.out, ← Hsb.out]; exact Hq.out)
        · rw [if_neg hc] at h1 ⊢
          exact getP_none (by rw [HL32.out]; exact h1)
      have HRd := Lib.hid hRead
      clear hRead hdn hk hlt
      cases R with
      | cons x r =>
        have hN1 : (0 : Int) < (N : Int) := by have := hG.out.len; simp at this; omega
        have HF := Lib.hid (badR (b := b) (HRd.out.trans (if_neg (by simp))) hG.out.below)
        clear hG
        go_wp2_with fail
        go_ret2
        exact HF.out
      | nil =>
      obtain rfl : N = 0 := hG.out.len
      have hsm : Smal L := small_of Hdn.out (by have := HBl.out; omega)
      have hrd := hG.out.own.rd
      obtain ⟨Az, cz, rfl⟩ := hrd.shape
      have HRi := Lib.hid (RRight_any' hrd hsm)
      have HGg := Lib.hid hG.out
      obtain ⟨nl, hnl⟩ : ∃ n, n = L.length := ⟨_, rfl⟩
      rw [← hnl] at HRi HGg ⊢
      clear hG hL hsm hrd hnl
      obtain ⟨q, hq⟩ : ∃ q, q = rightL L := ⟨_, rfl⟩
      rw [← hq] at HRi HRd
      clear hq
      go_wp2_with fail
      refine HRi.out.mono ?_
      rintro e w8 ⟨rfl, b8⟩
      have HB8 := Lib.hid (HGg.out.below.trans (b8.mono HGg.out.below.size))
      have HO8 : Hid (NewE w.heap.size w8 (.slice Az nl cz) L) := Lib.hid (OwK.below HGg.out.own b8 (Nat.le_refl _))
      clear b8 HRi HGg
      cases q with
      | false =>
        have HF := Lib.hid (badR (b := b) (HRd.out.trans (if_neg (by simp))) HB8.out)
        go_wp2_with fail
        go_ret2
        exact HF.out
      | true =>
        have HF : Hid (GetPk b w (.returned (.tuple #[.slice Az nl cz, .int .i64 0])) w8) := Lib.hid ⟨HB8.out, .inl ⟨L, _, HRd.out.trans (if_pos (by simp)), rfl, HO8.out⟩⟩
        go_wp2_with fail
        go_ret2
        exact HF.out
end Go.Proofs.YtgjddkeogboojaaGreatDoor.Pk
