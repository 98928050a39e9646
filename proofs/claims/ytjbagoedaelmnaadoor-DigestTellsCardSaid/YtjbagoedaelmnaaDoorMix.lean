/-
  mix: the rounds of a block.
-/
import Derived.Test.YtjbagoedaelmnaaDoorMem
import Derived.StillTailTactics
import Derived.Deep.QuietTactic
import Derived.BigQuiet
import Derived.IntWalk
namespace Go.Proofs.YtjbagoedaelmnaaDoor
open Go Go.RowKit

/-- The words of a state: eight of the sum, 64 numbers of the rounds. -/
def stF (v : V) (kf : Nat → UInt32) (i : Nat) : UInt32 := if i < 8 then v.get i else kf (i - 8)

theorem turnQ (w : World) (x : UInt32) (n : Nat) (h1 : 1 ≤ n) (h2 : n < 32) (m : Nat) :
    Calls Tryd.prog 32 #[.int .u32 (x.toNat : Int), .int .i64 (n : Int)] (w.drewN m) fun e w'' => e = .returned (.int .u32 ((rotr x (UInt32.ofNat n)).toNat : Int)) ∧ ∃ m, w'' = w.drewN m :=
  Calls.quiet_of_same (turn_still x n h1 h2 _)

theorem addV_get (v u : V) (k : Nat) (h : k < 8) : (addV v u).get k = v.get k + u.get k := by
  match k, h with
  | 0, _ => rfl
  | 1, _ => rfl
  | 2, _ => rfl
  | 3, _ => rfl
  | 4, _ => rfl
  | 5, _ => rfl
  | 6, _ => rfl
  | 7, _ => rfl
theorem index8 (u : V) (W : World) (i : Nat) (hi : i < 8) : (Instr.index 42 (.agg #[.int .u32 (u.a.toNat : Int), .int .u32 (u.b.toNat : Int), .int .u32 (u.c.toNat : Int), .int .u32 (u.d.toNat : Int), .int .u32 (u.e.toNat : Int), .int .u32 (u.f.toNat : Int), .int .u32 (u.g.toNat : Int), .int .u32 (u.h.toNat : Int)]) (.int .i64 (i : Int))).run Tryd.prog W = .ok (.int .u32 ((u.get i).toNat : Int)) W := by
  have h0 : (Instr.index 42 (.agg #[.int .u32 (u.a.toNat : Int), .int .u32 (u.b.toNat : Int), .int .u32 (u.c.toNat : Int), .int .u32 (u.d.toNat : Int), .int .u32 (u.e.toNat : Int), .int .u32 (u.f.toNat : Int), .int .u32 (u.g.toNat : Int), .int .u32 (u.h.toNat : Int)]) (.int .i64 0)).run Tryd.prog W = .ok (.int .u32 (u.a.toNat : Int)) W := by kernel_rfl
  have h1 : (Instr.index 42 (.agg #[.int .u32 (u.a.toNat : Int), .int .u32 (u.b.toNat : Int), .int .u32 (u.c.toNat : Int), .int .u32 (u.d.toNat : Int), .int .u32 (u.e.toNat : Int), .int .u32 (u.f.toNat : Int), .int .u32 (u.g.toNat : Int), .int .u32 (u.h.toNat : Int)]) (.int .i64 1)).run Tryd.prog W = .ok (.int .u32 (u.b.toNat : Int)) W := by kernel_rfl
  have h2 : (Instr.index 42 (.agg #[.int .u32 (u.a.toNat : Int), .int .u32 (u.b.toNat : Int), .int .u32 (u.c.toNat : Int), .int .u32 (u.d.toNat : Int), .int .u32 (u.e.toNat : Int), .int .u32 (u.f.toNat : Int), .int .u32 (u.g.toNat : Int), .int .u32 (u.h.toNat : Int)]) (.int .i64 2)).run Tryd.prog W = .ok (.int .u32 (u.c.toNat : Int)) W := by kernel_rfl
  have h3 : (Instr.index 42 (.agg #[.int .u32 (u.a.toNat : Int), .int .u32 (u.b.toNat : Int), .int .u32 (u.c.toNat : Int), .int .u32 (u.d.toNat : Int), .int .u32 (u.e.toNat : Int), .int .u32 (u.f.toNat : Int), .int .u32 (u.g.toNat : Int), .int .u32 (u.h.toNat : Int)]) (.int .i64 3)).run Tryd.prog W = .ok (.int .u32 (u.d.toNat : Int)) W := by kernel_rfl
  have h4 : (Instr.index 42 (.agg #[.int .u32 (u.a.toNat : Int), .int .u32 (u.b.toNat : Int), .int .u32 (u.c.toNat : Int), .int .u32 (u.d.toNat : Int), .int .u32 (u.e.toNat : Int), .int .u32 (u.f.toNat : Int), .int .u32 (u.g.toNat : Int), .int .u32 (u.h.toNat : Int)]) (.int .i64 4)).run Tryd.prog W = .ok (.int .u32 (u.e.toNat : Int)) W := by kernel_rfl
  have h5 : (Instr.index 42 (.agg #[.int .u32 (u.a.toNat : Int), .int .u32 (u.b.toNat : Int), .int .u32 (u.c.toNat : Int), .int .u32 (u.d.toNat : Int), .int .u32 (u.e.toNat : Int), .int .u32 (u.f.toNat : Int), .int .u32 (u.g.toNat : Int), .int .u32 (u.h.toNat : Int)]) (.int .i64 5)).run Tryd.prog W = .ok (.int .u32 (u.f.toNat : Int)) W := by kernel_rfl
  have h6 : (Instr.index 42 (.agg #[.int .u32 (u.a.toNat : Int), .int .u32 (u.b.toNat : Int), .int .u32 (u.c.toNat : Int), .int .u32 (u.d.toNat : Int), .int .u32 (u.e.toNat : Int), .int .u32 (u.f.toNat : Int), .int .u32 (u.g.toNat : Int), .int .u32 (u.h.toNat : Int)]) (.int .i64 6)).run Tryd.prog W = .ok (.int .u32 (u.g.toNat : Int)) W := by kernel_rfl
  have h7 : (Instr.index 42 (.agg #[.int .u32 (u.a.toNat : Int), .int .u32 (u.b.toNat : Int), .int .u32 (u.c.toNat : Int), .int .u32 (u.d.toNat : Int), .int .u32 (u.e.toNat : Int), .int .u32 (u.f.toNat : Int), .int .u32 (u.g.toNat : Int), .int .u32 (u.h.toNat : Int)]) (.int .i64 7)).run Tryd.prog W = .ok (.int .u32 (u.h.toNat : Int)) W := by kernel_rfl
  match i, hi with
  | 0, _ => exact h0
  | 1, _ => exact h1
  | 2, _ => exact h2
  | 3, _ => exact h3
  | 4, _ => exact h4
  | 5, _ => exact h5
  | 6, _ => exact h6
  | 7, _ => exact h7

set_option maxRecDepth 100000 in
set_option maxHeartbeats 1000000 in
theorem mix_any (w : World) (gs : Nat) (v : V) (kf wf : Nat → UInt32) (hs : Blk w gs 50 (u32s 72 (stF v kf))) :
    Calls Tryd.prog 25 #[.pointer (some ⟨gs, 0, none⟩), .agg (u32s 64 wf)] w fun e w' => e = .returned (.tuple #[]) ∧
      Blk w' gs 50 (u32s 72 (stF (addV v (rnds kf wf v 64)) kf)) ∧ w.grownBy w' (some gs) := by
  have hgs : gs < w.heap.size := hs.lt
  go_enter Tryd.func25, Tryd.ntmps25
  go_wp2
  obtain ⟨w1, hw1⟩ : ∃ w1, w1 = w.alloc (Obj.cells (u32s 64 wf) 48) := ⟨_, rfl⟩
  rw [← hw1]
  have hg1 : w.grownBy w1 (some gs) := by
    rw [hw1]; refine ⟨rfl, rfl, rfl, by simp, fun k hk _ => ?_⟩; rw [Go.heap_alloc_old]; exact hk
  have hs1 : Blk w1 gs 50 (u32s 72 (stF v kf)) := by rw [hw1]; exact hs.alloc _
  have hb1 : Blk w1 w.heap.size 48 (u32s 64 wf) := by rw [hw1]; exact Blk.new w _ _
  have c0 : w1.cell? ⟨gs, 0, none⟩ = some (.int .u32 (v.a.toNat : Int)) := hs1.word 0 (by omega)
  have c1 : w1.cell? ⟨gs, 1, none⟩ = some (.int .u32 (v.b.toNat : Int)) := hs1.word 1 (by omega)
  have c2 : w1.cell? ⟨gs, 2, none⟩ = some (.int .u32 (v.c.toNat : Int)) := hs1.word 2 (by omega)
  have c3 : w1.cell? ⟨gs, 3, none⟩ = some (.int .u32 (v.d.toNat : Int)) := hs1.word 3 (by omega)
  clear hw1
  go_quiet (fail)
  clear c0 c1 c2 c3
  have c4 : w1.cell? ⟨gs, 4, none⟩ = some (.int .u32 (v.e.toNat : Int)) := hs1.word 4 (by omega)
  have c5 : w1.cell? ⟨gs, 5, none⟩ = some (.int .u32 (v.f.toNat : Int)) := hs1.word 5 (by omega)
  have c6 : w1.cell? ⟨gs, 6, none⟩ = some (.int .u32 (v.g.toNat : Int)) := hs1.word 6 (by omega)
  have c7 : w1.cell? ⟨gs, 7, none⟩ = some (.int .u32 (v.h.toNat : Int)) := hs1.word 7 (by omega)
  go_wp2
  go_quiet (fail)
  clear c4 c5 c6 c7
  go_wp2
  go_loopw [4, 5, 6, 7, 8, 9, 10, 11, 57] (fun a b c d e f g h i wr => ∃ (t : Nat) (nq : Nat) (u : V), t ≤ 64 ∧ i = .int .i64 t ∧ wr = w1.drewN nq ∧ u = rnds kf wf v t ∧
    a = .int .u32 (u.a.toNat : Int) ∧ b = .int .u32 (u.b.toNat : Int) ∧ c = .int .u32 (u.c.toNat : Int) ∧ d = .int .u32 (u.d.toNat : Int) ∧
    e = .int .u32 (u.e.toNat : Int) ∧ f = .int .u32 (u.f.toNat : Int) ∧ g = .int .u32 (u.g.toNat : Int) ∧ h = .int .u32 (u.h.toNat : Int)) (fun _ _ _ _ _ _ _ _ i _ => 64 - (intOf i).toNat)
  case atStart => exact ⟨0, _, v, Nat.zero_le _, rfl, by rw [World.drewN_drewN], rfl, rfl, rfl, rfl, rfl, rfl, rfl, rfl, rfl⟩
  case round =>
    obtain ⟨t, nq, u, ht, rfl, hwr, hu, rfl, rfl, rfl, rfl, rfl, rfl, rfl, rfl⟩ := hrel
    have Hu := Lib.hid hu; clear hu
    have Hwr := Lib.hid hwr
    by_cases hlt : t < 64
    · have e1 : ((t : Int)).toNat = t := by omega
      have p1 : 0 ≤ (t : Int) := by omega
      have q1 : (t : Int) < 64 := by omega
      have ck : wr.cell? ⟨gs, 8 + t, none⟩ = some (.int .u32 ((kf t).toNat : Int)) := by
        have := hs1.word (8 + t) (by omega); unfold stF at this; rw [if_neg (by omega), show 8 + t - 8 = t by omega] at this; rw [hwr]; exact this
      have cw : wr.cell? ⟨w.heap.size, t, none⟩ = some (.int .u32 ((wf t).toNat : Int)) := by rw [hwr]; exact hb1.word t hlt
      clear hwr
      obtain ⟨r6, hr6⟩ : ∃ r, r = rotr u.e 6 := ⟨_, rfl⟩
      obtain ⟨r11, hr11⟩ : ∃ r, r = rotr u.e 11 := ⟨_, rfl⟩
      obtain ⟨r25, hr25⟩ : ∃ r, r = rotr u.e 25 := ⟨_, rfl⟩
      obtain ⟨y1, hy1⟩ : ∃ r, r = r6 ^^^ r11 := ⟨_, rfl⟩
      have gy1 : bits .xor .u32 (r6.toNat : Int) (r11.toNat : Int) = (y1.toNat : Int) := by rw [xor32, hy1]
      obtain ⟨y2, hy2⟩ : ∃ r, r = y1 ^^^ r25 := ⟨_, rfl⟩
      have gy2 : bits .xor .u32 (y1.toNat : Int) (r25.toNat : Int) = (y2.toNat : Int) := by rw [xor32, hy2]
      obtain ⟨y3, hy3⟩ : ∃ r, r = u.h + y2 := ⟨_, rfl⟩
      have gy3 : ((u.h.toNat : Int) + (y2.toNat : Int)) % 4294967296 = (y3.toNat : Int) := by rw [add32m, hy3]
      obtain ⟨y4, hy4⟩ : ∃ r, r = u.e &&& u.f := ⟨_, rfl⟩
      have gy4 : bits .and .u32 (u.e.toNat : Int) (u.f.toNat : Int) = (y4.toNat : Int) := by rw [and32, hy4]
      obtain ⟨y5, hy5⟩ : ∃ r, r = ~~~u.e := ⟨_, rfl⟩
      have gy5 : bits .xor .u32 (if IntKind.u32.signed = true then -1 else IntKind.u32.max) (u.e.toNat : Int) = (y5.toNat : Int) := by rw [not32', hy5]
      obtain ⟨y6, hy6⟩ : ∃ r, r = y5 &&& u.g := ⟨_, rfl⟩
      have gy6 : bits .and .u32 (y5.toNat : Int) (u.g.toNat : Int) = (y6.toNat : Int) := by rw [and32, hy6]
      obtain ⟨y7, hy7⟩ : ∃ r, r = y4 ^^^ y6 := ⟨_, rfl⟩
      have gy7 : bits .xor .u32 (y4.toNat : Int) (y6.toNat : Int) = (y7.toNat : Int) := by rw [xor32, hy7]
      obtain ⟨y8, hy8⟩ : ∃ r, r = y3 + y7 := ⟨_, rfl⟩
      have gy8 : ((y3.toNat : Int) + (y7.toNat : Int)) % 4294967296 = (y8.toNat : Int) := by rw [add32m, hy8]
      obtain ⟨y9, hy9⟩ : ∃ r, r = y8 + kf t := ⟨_, rfl⟩
      have gy9 : ((y8.toNat : Int) + ((kf t).toNat : Int)) % 4294967296 = (y9.toNat : Int) := by rw [add32m, hy9]
      obtain ⟨x, hx⟩ : ∃ r, r = y9 + wf t := ⟨_, rfl⟩
      have gx : ((y9.toNat : Int) + ((wf t).toNat : Int)) % 4294967296 = (x.toNat : Int) := by rw [add32m, hx]
      have Hx : Hid (x = rndX (kf t) (wf t) u) := Lib.hid (by rw [hx, hy9, hy8, hy7, hy6, hy5, hy4, hy3, hy2, hy1, hr25, hr11, hr6]; rfl)
      have Q6 := Lib.hid (turnQ_6 u.e r6 hr6 wr)
      have Q11 := Lib.hid (turnQ_11 u.e r11 hr11 wr)
      have Q25 := Lib.hid (turnQ_25 u.e r25 hr25 wr)
      clear hr6 hr11 hr25 hy1 hy2 hy3 hy4 hy5 hy6 hy7 hy8 hy9 hx
      go_wp2
      go_quiet (first | exact Q6.out _ | exact Q11.out _ | exact Q25.out _)
      clear ck cw gy1 gy2 gy3 gy4 gy5 gy6 gy7 gy8 gy9 
      simp only [gx]
      obtain ⟨r2, hr2⟩ : ∃ r, r = rotr u.a 2 := ⟨_, rfl⟩
      obtain ⟨r13, hr13⟩ : ∃ r, r = rotr u.a 13 := ⟨_, rfl⟩
      obtain ⟨r22, hr22⟩ : ∃ r, r = rotr u.a 22 := ⟨_, rfl⟩
      obtain ⟨z1, hz1⟩ : ∃ r, r = r2 ^^^ r13 := ⟨_, rfl⟩
      have gz1 : bits .xor .u32 (r2.toNat : Int) (r13.toNat : Int) = (z1.toNat : Int) := by rw [xor32, hz1]
      obtain ⟨z2, hz2⟩ : ∃ r, r = z1 ^^^ r22 := ⟨_, rfl⟩
      have gz2 : bits .xor .u32 (z1.toNat : Int) (r22.toNat : Int) = (z2.toNat : Int) := by rw [xor32, hz2]
      obtain ⟨z3, hz3⟩ : ∃ r, r = u.a &&& u.b := ⟨_, rfl⟩
      have gz3 : bits .and .u32 (u.a.toNat : Int) (u.b.toNat : Int) = (z3.toNat : Int) := by rw [and32, hz3]
      obtain ⟨z4, hz4⟩ : ∃ r, r = u.a &&& u.c := ⟨_, rfl⟩
      have gz4 : bits .and .u32 (u.a.toNat : Int) (u.c.toNat : Int) = (z4.toNat : Int) := by rw [and32, hz4]
      obtain ⟨z5, hz5⟩ : ∃ r, r = z3 ^^^ z4 := ⟨_, rfl⟩
      have gz5 : bits .xor .u32 (z3.toNat : Int) (z4.toNat : Int) = (z5.toNat : Int) := by rw [xor32, hz5]
      obtain ⟨z6, hz6⟩ : ∃ r, r = u.b &&& u.c := ⟨_, rfl⟩
      have gz6 : bits .and .u32 (u.b.toNat : Int) (u.c.toNat : Int) = (z6.toNat : Int) := by rw [and32, hz6]
      obtain ⟨z7, hz7⟩ : ∃ r, r = z5 ^^^ z6 := ⟨_, rfl⟩
      have gz7 : bits .xor .u32 (z5.toNat : Int) (z6.toNat : Int) = (z7.toNat : Int) := by rw [xor32, hz7]
      obtain ⟨y, hy⟩ : ∃ r, r = z2 + z7 := ⟨_, rfl⟩
      have gy : ((z2.toNat : Int) + (z7.toNat : Int)) % 4294967296 = (y.toNat : Int) := by rw [add32m, hy]
      have Hy : Hid (y = rndY u) := Lib.hid (by rw [hy, hz7, hz6, hz5, hz4, hz3, hz2, hz1, hr22, hr13, hr2]; rfl)
      obtain ⟨e', he'⟩ : ∃ r, r = u.d + x := ⟨_, rfl⟩
      have ge' : ((u.d.toNat : Int) + (x.toNat : Int)) % 4294967296 = (e'.toNat : Int) := by rw [add32m, he']
      obtain ⟨a', ha'⟩ : ∃ r, r = x + y := ⟨_, rfl⟩
      have ga' : ((x.toNat : Int) + (y.toNat : Int)) % 4294967296 = (a'.toNat : Int) := by rw [add32m, ha']
      have He' := Lib.hid he'; have Ha' := Lib.hid ha'
      have L2 := Lib.hid (turnL_2 u.a r2 hr2)
      have L13 := Lib.hid (turnL_13 u.a r13 hr13)
      have L22 := Lib.hid (turnL_22 u.a r22 hr22)
      clear he' ha' hr2 hr13 hr22 hz1 hz2 hz3 hz4 hz5 hz6 hz7 hy gx
      go_wp2_with (first
        | ((with_reducible refine (L2.out _).mono ?_); rintro e w' ⟨rfl, rfl⟩)
        | ((with_reducible refine (L13.out _).mono ?_); rintro e w' ⟨rfl, rfl⟩)
        | ((with_reducible refine (L22.out _).mono ?_); rintro e w' ⟨rfl, rfl⟩))
      go_roundw
      case rel =>
        exact ⟨t + 1, _, rnd (kf t) (wf t) u, by omega, by go_num, by rw [Hwr.out, World.drewN_drewN], by rw [rnds, ← Hu.out], by rw [ga', Ha'.out, Hx.out, Hy.out]; rfl, rfl, rfl, rfl, by rw [ge', He'.out, Hx.out]; rfl, rfl, rfl, rfl⟩
      case measure => simp [intOf]; omega
    · have Ht : Hid (u = rnds kf wf v 64) := Lib.hid (by rw [Hu.out, show t = 64 by omega])
      have hno : decide ((t : Int) < 64) = false := decide_eq_false (by omega)
      clear Hu
      have hsr : Blk wr gs 50 (u32s 72 (stF v kf)) := by rw [hwr]; exact hs1.drewN _
      have hgr : w.grownBy wr (some gs) := by rw [hwr]; exact grown_drewN hg1 _
      have Hsz : Hid (gs < w1.heap.size) := Lib.hid hs1.lt
      clear hwr Hwr hs1 hg1 hb1
      go_wp2
      generalize hcs : (#[.int .u32 (u.a.toNat : Int), .int .u32 (u.b.toNat : Int), .int .u32 (u.c.toNat : Int), .int .u32 (u.d.toNat : Int), .int .u32 (u.e.toNat : Int), .int .u32 (u.f.toNat : Int), .int .u32 (u.g.toNat : Int), .int .u32 (u.h.toNat : Int)] : Array Value) = cs
      have Hix : Hid (∀ (i : Nat), i < 8 → ∀ W, (Instr.index 42 (.agg cs) (.int .i64 (i : Int))).run Tryd.prog W = .ok (.int .u32 ((u.get i).toNat : Int)) W) := Lib.hid (by
        intro i hi W
        subst hcs
        exact index8 u W i hi)
      clear hcs
      go_loopw [132] (fun i wx => ∃ (k : Nat) (F : Nat → UInt32), k ≤ 8 ∧ i = .int .i64 k ∧ Blk wx gs 50 (u32s 72 F) ∧ w.grownBy wx (some gs) ∧ (∀ j, j < 72 → F j = if j < k then (addV v u).get j else stF v kf j)) (fun i _ => 8 - (intOf i).toNat)
      case atStart => exact ⟨0, stF v kf, Nat.zero_le _, rfl, hsr, hgr, fun j hj => by rw [if_neg (Nat.not_lt_zero _)]⟩
      case round =>
        clear hsr hgr hgs
        obtain ⟨k, F, hk, rfl, hblk, hgr, hF⟩ := hrel
        have HF := Lib.hid hF; clear hF
        by_cases hlt8 : k < 8
        · have hix := Hix.out k hlt8
          obtain ⟨q, hq⟩ : ∃ q, q = u.get k := ⟨_, rfl⟩
          rw [← hq] at hix
          have hFk : F k = v.get k := by rw [HF.out k (by omega), if_neg (by omega)]; unfold stF; rw [if_pos hlt8]
          obtain ⟨p, hp⟩ : ∃ p, p = v.get k := ⟨_, rfl⟩
          have ck := hblk.word k (by omega)
          rw [hFk, ← hp] at ck
          obtain ⟨r, hr⟩ : ∃ r, r = p + q := ⟨_, rfl⟩
          have hadd : (addV v u).get k = r := by rw [hr, hp, hq]; exact addV_get v u k hlt8
          have Hadd := Lib.hid hadd
          have g1 : IntKind.u32.wrap ((p.toNat : Int) + (q.toNat : Int)) = (r.toNat : Int) := by rw [add32, hr]
          have g2 : ((p.toNat : Int) + (q.toNat : Int)) % 4294967296 = (r.toNat : Int) := by rw [add32m, hr]
          have hbound : gs < wr.heap.size := hblk.lt
          clear hq hp hr hFk hadd
          go_wp2
          refine wp_region_still_tail 10 (by kernel_rfl) (by kernel_rfl) ?_
          simp only [List.take_succ_cons, List.take_zero, List.drop_succ_cons, List.drop_zero]
          repeat still_step
          refine wpStill_nil ?_
          change wpList _ _ _ _ _ wr.drew
          obtain ⟨wq, hwq⟩ : ∃ wq, wq = wr.drew := ⟨_, rfl⟩
          rw [← hwq]
          have bq : Blk wq gs 50 (u32s 72 F) := by rw [hwq]; exact hblk
          have lq : w.grownBy wq (some gs) := by rw [hwq]; exact grown_drew hgr
          have cq := bq.word k (by omega)
          have zq := bq.frozen k
          clear hwq ck hblk hgr hbound hix
          go_wp2
          go_roundw
          case rel =>
            refine ⟨k + 1, upd F k r, by omega, by go_num, ?_, grown_set lq _ _, fun j hj => ?_⟩
            · first | exact bq.setW k r | (rw [g2]; exact bq.setW k r)
            · by_cases hjk : j = k
              · subst hjk; rw [upd_same, if_pos (by omega), Hadd.out]
              · rw [upd_other _ _ _ _ hjk, HF.out j hj]
                by_cases h : j < k
                · rw [if_pos h, if_pos (by omega)]
                · rw [if_neg h, if_neg (by omega)]
          case measure => simp [intOf]; omega
        · have Hfin : Hid (u32s 72 F = u32s 72 (stF (addV v (rnds kf wf v 64)) kf)) := Lib.hid (u32s_congr fun j hj => by
            rw [HF.out j hj, Ht.out]
            unfold stF
            by_cases h : j < 8
            · rw [if_pos (by omega), if_pos h, ← Ht.out]
            · rw [if_neg (by omega), if_neg h, if_neg h])
          rw [Hfin.out] at hblk
          go_wp2
          go_end0
          exact ⟨rfl, hblk, hgr⟩
end Go.Proofs.YtjbagoedaelmnaaDoor
