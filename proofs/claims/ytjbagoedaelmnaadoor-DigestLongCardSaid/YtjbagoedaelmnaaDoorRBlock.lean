/-
  The document's block.
-/
import Derived.Test.YtjbagoedaelmnaaDoorRSched
import Derived.Test.YtjbagoedaelmnaaDoorRRounds
import Derived.Test.YtjbagoedaelmnaaDoorMix
import Derived.Laws.CopyOwn
namespace Go.Proofs.YtjbagoedaelmnaaDoor
open Go Go.RowKit

def shiftF (F : Nat → UInt32) (i j : Nat) : UInt32 := if i < j then F (j - 1) else F j

/-- The round on the cells. -/
theorem rnd_get (k w : UInt32) (u : V) (x y : UInt32) (hx : x = rndX k w u) (hy : y = rndY u) (F1 : Nat → UInt32) (h1 : ∀ j, j < 8 → F1 j = shiftF u.get 0 j) (a4 a0 : UInt32) (h4 : a4 = u.d + x) (h0 : a0 = x + y) :
    ∀ j, j < 8 → upd (upd F1 4 a4) 0 a0 j = (rnd k w u).get j := by
  intro j hj
  match j, hj with
  | 0, _ => rw [upd_same, h0, hx, hy]; rfl
  | 1, _ => rw [upd_other _ _ _ _ (by decide), upd_other _ _ _ _ (by decide), h1 1 (by decide)]; rfl
  | 2, _ => rw [upd_other _ _ _ _ (by decide), upd_other _ _ _ _ (by decide), h1 2 (by decide)]; rfl
  | 3, _ => rw [upd_other _ _ _ _ (by decide), upd_other _ _ _ _ (by decide), h1 3 (by decide)]; rfl
  | 4, _ => rw [upd_other _ _ _ _ (by decide), upd_same, h4, hx]; rfl
  | 5, _ => rw [upd_other _ _ _ _ (by decide), upd_other _ _ _ _ (by decide), h1 5 (by decide)]; rfl
  | 6, _ => rw [upd_other _ _ _ _ (by decide), upd_other _ _ _ _ (by decide), h1 6 (by decide)]; rfl
  | 7, _ => rw [upd_other _ _ _ _ (by decide), upd_other _ _ _ _ (by decide), h1 7 (by decide)]; rfl

structure Bl (w wr : World) (b5 b6 b7 : Nat) (h : V) (Wf : Nat → UInt32) (F : Nat → UInt32) : Prop where
  below : Below w.heap.size w wr
  s2 : Blk wr w.heap.size 42 (u32s 8 h.get)
  s4 : Blk wr (w.heap.size + 1) 42 (u32s 8 fun _ => 0)
  s5 : Blk wr b5 55 (u32s 64 KF)
  s6 : Blk wr b6 48 (u32s 64 Wf)
  s7 : Blk wr b7 42 (u32s 8 F)
  o5 : w.heap.size + 1 < b5
  o6 : b5 < b6
  o7 : b6 < b7

theorem Bl.drewN {w wr : World} {b5 b6 b7 : Nat} {h : V} {Wf F : Nat → UInt32} (B : Bl w wr b5 b6 b7 h Wf F) (n : Nat) : Bl w (wr.drewN n) b5 b6 b7 h Wf F :=
  ⟨⟨B.below.os, B.below.tape, B.below.output, B.below.size, B.below.block⟩, B.s2, B.s4, B.s5, B.s6, B.s7, B.o5, B.o6, B.o7⟩
theorem Bl.set {w wr : World} {b5 b6 b7 : Nat} {h : V} {Wf F : Nat → UInt32} (B : Bl w wr b5 b6 b7 h Wf F) (i : Nat) (x : UInt32) : Bl w (wr.setCell ⟨b7, i, none⟩ (.int .u32 (x.toNat : Int))) b5 b6 b7 h Wf (upd F i x) := by
  have h5 := B.o5; have h6 := B.o6; have h7 := B.o7
  exact ⟨B.below.setCell (by show w.heap.size ≤ b7; omega) _, B.s2.far (by show w.heap.size ≠ b7; omega) _, B.s4.far (by show w.heap.size + 1 ≠ b7; omega) _, B.s5.far (by show b5 ≠ b7; omega) _, B.s6.far (by show b6 ≠ b7; omega) _, B.s7.setW i x, h5, h6, h7⟩

set_option maxRecDepth 100000 in
set_option maxHeartbeats 2000000 in
theorem block_any (w : World) (h : V) (g o c n : Nat) (m : Nat → UInt8) (hn : 64 ≤ n) (hn2 : n ≤ 30000) (hr : ∀ j, j < 64 → w.cell? ⟨g, o + j, none⟩ = some (.int .u8 ((m j).toNat : Int))) :
    Calls Tryd.prog 21 #[.agg (u32s 8 h.get), .slice (some ⟨g, o, none⟩) n c] w fun e w' => e = .returned (.agg (u32s 8 (mixV KF h m).get)) ∧ Below w.heap.size w w' := by
  have hg : g < w.heap.size := by have := block_lt_of_cell (hr 0 (by omega)); exact this
  have HR := Lib.hid hr; clear hr
  obtain ⟨H8, hH8⟩ : ∃ H8, H8 = u32s 8 h.get := ⟨_, rfl⟩
  rw [← hH8]
  have hs8 : H8.size = 8 := by rw [hH8, u32s_size]
  have ho8 : H8.all (·.oneCell') = true := by rw [hH8]; exact u32s_one 8 _
  have HH8 := Lib.hid hH8; have HS8 := Lib.hid hs8; have HO8 := Lib.hid ho8
  clear hH8 hs8 ho8
  go_enter Tryd.func21, Tryd.ntmps21
  go_wp2_with fail
  obtain ⟨wA, hwA⟩ : ∃ wA, wA = (w.alloc (Obj.cells H8 42)).alloc (Obj.cells (u32s 8 fun _ => 0) 42) := ⟨_, rfl⟩
  have eA : ((w.alloc (Obj.cells H8 42)).alloc (Obj.cells #[.int .u32 0, .int .u32 0, .int .u32 0, .int .u32 0, .int .u32 0, .int .u32 0, .int .u32 0, .int .u32 0] 42)) = wA := by rw [hwA]; rfl
  rw [eA]
  have lA : Below w.heap.size w wA := by rw [hwA]; exact ((Below.refl _ _).alloc (Nat.le_refl _) _).alloc (by simp) _
  have a2 : Blk wA w.heap.size 42 H8 := by rw [hwA]; exact (Blk.new w _ _).alloc _
  have a4 : Blk wA (w.heap.size + 1) 42 (u32s 8 fun _ => 0) := by rw [hwA]; exact heap_alloc2_new w _ _
  have szA : w.heap.size + 2 ≤ wA.heap.size := by rw [hwA]; simp
  clear eA hwA
  refine (rounds_any wA).mono ?_
  rintro e wB ⟨rfl, lB⟩
  have lwB : Below w.heap.size w wB := lA.trans (lB.mono lA.size)
  have hz88 := zeroRounds.1
  obtain ⟨wC, hwC⟩ : ∃ wC, wC = wB.alloc (Obj.cells (u32s 64 KF) 55) := ⟨_, rfl⟩
  have HwC := Lib.hid hwC
  have lC : Below w.heap.size w wC := by rw [hwC]; exact lwB.alloc lwB.size _
  have c2 : Blk wC w.heap.size 42 H8 := by rw [hwC]; exact (a2.below lB a2.lt).alloc _
  have c4 : Blk wC (w.heap.size + 1) 42 (u32s 8 fun _ => 0) := by rw [hwC]; exact (a4.below lB a4.lt).alloc _
  have c5 : Blk wC wB.heap.size 55 (u32s 64 KF) := by rw [hwC]; exact Blk.new wB _ _
  have o5 : w.heap.size + 1 < wB.heap.size := by have := lB.size; omega
  clear hwC
  have HSc := Lib.hid (schedule_any wC g o c n m hn hn2 (fun j hj => by rw [lC.cell (p := ⟨g, o + j, none⟩) hg]; exact HR.out j hj))
  go_wp2_with (first
    | (refine wpList_store_row (o := ⟨none, .store 55 (.tmp 5) (.tmp 15), _, _, _, _⟩) rfl 55 _ _ rfl wB.heap.size (u32s 64 KF) rfl rfl 55 (u32s 64 fun _ => 0) (by exact Blk.new wB _ _) (by rw [u32s_size]; kernel_rfl) (by rw [u32s_size, u32s_size]) (u32s_one 64 KF) ?_; rw [World.setRow_alloc_new, ← HwC.out]))
  refine HSc.out.mono ?_
  rintro e wD ⟨rfl, lD⟩
  obtain ⟨Wf, hWf⟩ : ∃ Wf, Wf = sched (word m) := ⟨_, rfl⟩
  rw [← hWf]
  have HWf := Lib.hid hWf; clear hWf
  have lwD : Below w.heap.size w wD := lC.trans (lD.mono lC.size)
  obtain ⟨wE, hwE⟩ : ∃ wE, wE = wD.alloc (Obj.cells (u32s 64 Wf) 48) := ⟨_, rfl⟩
  have HwE := Lib.hid hwE
  have lE : Below w.heap.size w wE := by rw [hwE]; exact lwD.alloc lwD.size _
  have e2 : Blk wE w.heap.size 42 H8 := by rw [hwE]; exact (c2.below lD c2.lt).alloc _
  have e4 : Blk wE (w.heap.size + 1) 42 (u32s 8 fun _ => 0) := by rw [hwE]; exact (c4.below lD c4.lt).alloc _
  have e5 : Blk wE wB.heap.size 55 (u32s 64 KF) := by rw [hwE]; exact (c5.below lD c5.lt).alloc _
  have e6 : Blk wE wD.heap.size 48 (u32s 64 Wf) := by rw [hwE]; exact Blk.new wD _ _
  have o6 : wB.heap.size < wD.heap.size := Nat.lt_of_lt_of_le c5.lt lD.size
  have z64 : Blk (wD.alloc (Obj.cells (u32s 64 fun _ => 0) 48)) wD.heap.size 48 (u32s 64 fun _ => 0) := Blk.new wD _ _
  obtain ⟨wG, hwG⟩ : ∃ wG, wG = wE.alloc (Obj.cells (u32s 8 h.get) 42) := ⟨_, rfl⟩
  have HwG := Lib.hid hwG
  have B0 : Bl w wG wB.heap.size wD.heap.size wE.heap.size h Wf h.get := by
    rw [hwG]
    rw [HH8.out] at e2
    exact ⟨lE.alloc lE.size _, e2.alloc _, e4.alloc _, e5.alloc _, e6.alloc _, Blk.new wE _ _, o5, o6, e6.lt⟩
  have b7s : Blk (wE.alloc (Obj.cells (u32s 8 fun _ => 0) 42)) wE.heap.size 42 (u32s 8 fun _ => 0) := Blk.new wE _ _
  have hG : (wE.alloc (Obj.cells H8 42)) = wG := by rw [hwG, HH8.out]
  have HG := Lib.hid hG
  clear hwG hG hwE
  go_wp2_with (first
    | (refine wpList_store_row (o := ⟨none, .store 48 (.tmp 6) (.tmp 17), _, _, _, _⟩) rfl 48 _ _ rfl wD.heap.size (u32s 64 Wf) rfl rfl 48 (u32s 64 fun _ => 0) (by exact z64) (by rw [u32s_size]; kernel_rfl) (by rw [u32s_size, u32s_size]) (u32s_one 64 Wf) ?_; first | rw [World.setRow_alloc_new, ← HwE.out] | (refine Eq.mp ?_ (?_ : _)))
    | (refine wpList_load_row (o := ⟨some 18, _, _, _, _, _⟩) rfl 42 _ rfl w.heap.size rfl 42 H8 (0, 0) _ e2 Tryd.underlying42 rfl (by rw [HS8.out]; kernel_rfl) ?_)
    | (refine wpList_store_row (o := ⟨none, .store 42 (.tmp 7) (.tmp 18), _, _, _, _⟩) rfl 42 _ _ rfl wE.heap.size H8 rfl rfl 42 (u32s 8 fun _ => 0) (by exact b7s) (by rw [HS8.out]; kernel_rfl) (by rw [HS8.out, u32s_size]) HO8.out ?_; rw [World.setRow_alloc_new, HG.out]))
  clear HSc lB lwB lC c2 c4 c5 o5 lD lwD lE e2 e4 e5 e6 o6 z64 b7s HG HwG HwE HwC lA a2 a4 szA hz88
  generalize wB.heap.size = b5 at B0 ⊢
  generalize wD.heap.size = b6 at B0 ⊢
  generalize wE.heap.size = b7 at B0 ⊢
  go_loopw [8, 9, 10, 11, 12, 13] (fun i _ _ _ _ _ wr => ∃ (t : Nat) (F : Nat → UInt32) (u : V), t ≤ 64 ∧ i = .int .i64 t ∧ Bl w wr b5 b6 b7 h Wf F ∧ u = rnds KF Wf h t ∧ (∀ j, j < 8 → F j = u.get j)) (fun i _ _ _ _ _ _ => 64 - (intOf i).toNat)
  case atStart => exact ⟨0, h.get, h, Nat.zero_le _, rfl, B0, rfl, fun _ _ => rfl⟩
  case round =>
    clear B0
    obtain ⟨t, F, u, ht, rfl, hB, hu, hF⟩ := hrel
    have HF := Lib.hid hF; have Hu := Lib.hid hu; clear hF hu
    have ob5 := hB.o5; have ob6 := hB.o6; have ob7 := hB.o7
    have lb7 := hB.s7.lt; have lb6 := hB.s6.lt; have lb5 := hB.s5.lt
    by_cases hlt : t < 64
    · have d64 : decide ((t : Int) < 64) = true := decide_eq_true (by omega)
      have c4 : wr.cell? ⟨b7, 4, none⟩ = some (.int .u32 (u.e.toNat : Int)) := by rw [hB.s7.word 4 (by omega), HF.out 4 (by omega)]; rfl
      have c5 : wr.cell? ⟨b7, 5, none⟩ = some (.int .u32 (u.f.toNat : Int)) := by rw [hB.s7.word 5 (by omega), HF.out 5 (by omega)]; rfl
      have c6 : wr.cell? ⟨b7, 6, none⟩ = some (.int .u32 (u.g.toNat : Int)) := by rw [hB.s7.word 6 (by omega), HF.out 6 (by omega)]; rfl
      have c0 : wr.cell? ⟨b7, 0, none⟩ = some (.int .u32 (u.a.toNat : Int)) := by rw [hB.s7.word 0 (by omega), HF.out 0 (by omega)]; rfl
      have c1 : wr.cell? ⟨b7, 1, none⟩ = some (.int .u32 (u.b.toNat : Int)) := by rw [hB.s7.word 1 (by omega), HF.out 1 (by omega)]; rfl
      have c2 : wr.cell? ⟨b7, 2, none⟩ = some (.int .u32 (u.c.toNat : Int)) := by rw [hB.s7.word 2 (by omega), HF.out 2 (by omega)]; rfl
      obtain ⟨y4, hy4⟩ : ∃ r, r = u.e &&& u.f := ⟨_, rfl⟩
      have gy4 : bits .and .u32 (u.e.toNat : Int) (u.f.toNat : Int) = (y4.toNat : Int) := by rw [and32, hy4]
      obtain ⟨y5, hy5⟩ : ∃ r, r = ~~~u.e := ⟨_, rfl⟩
      have gy5 : bits .xor .u32 (if IntKind.u32.signed = true then -1 else IntKind.u32.max) (u.e.toNat : Int) = (y5.toNat : Int) := by rw [not32', hy5]
      have gy5' : bits .xor .u32 4294967295 (u.e.toNat : Int) = (y5.toNat : Int) := by rw [not32, hy5]
      obtain ⟨y6, hy6⟩ : ∃ r, r = y5 &&& u.g := ⟨_, rfl⟩
      have gy6 : bits .and .u32 (y5.toNat : Int) (u.g.toNat : Int) = (y6.toNat : Int) := by rw [and32, hy6]
      obtain ⟨y7, hy7⟩ : ∃ r, r = y4 ^^^ y6 := ⟨_, rfl⟩
      have gy7 : bits .xor .u32 (y4.toNat : Int) (y6.toNat : Int) = (y7.toNat : Int) := by rw [xor32, hy7]
      obtain ⟨z3, hz3⟩ : ∃ r, r = u.a &&& u.b := ⟨_, rfl⟩
      have gz3 : bits .and .u32 (u.a.toNat : Int) (u.b.toNat : Int) = (z3.toNat : Int) := by rw [and32, hz3]
      obtain ⟨z4, hz4⟩ : ∃ r, r = u.a &&& u.c := ⟨_, rfl⟩
      have gz4 : bits .and .u32 (u.a.toNat : Int) (u.c.toNat : Int) = (z4.toNat : Int) := by rw [and32, hz4]
      obtain ⟨z5, hz5⟩ : ∃ r, r = z3 ^^^ z4 := ⟨_, rfl⟩
      have gz5 : bits .xor .u32 (z3.toNat : Int) (z4.toNat : Int) = (z5.toNat : Int) := by rw [xor32, hz5]
      obtain ⟨z6, hz6⟩ : ∃ r, r = u.b &&& u.c := ⟨_, rfl⟩
      have gz6 : bits .and .u32 (u.b.toNat : Int) (u.c.toNat : Int) = (z6.toNat : Int) := by rw [and32, hz6]
      obtain ⟨z7, hz7⟩ : ∃ r, r = z5 ^^^ z6 := ⟨_, rfl⟩
      have gz7 : bits .xor .u32 (z5.toNat : Int) (z6.toNat : Int) = (z7.toNat : Int) := by rw [xor32, hz7]
      have Hch : Hid (y7 = chs u.e u.f u.g) := Lib.hid (by rw [hy7, hy6, hy5, hy4]; rfl)
      have Hz7 : Hid (z7 = maj u.a u.b u.c) := Lib.hid (by rw [hz7, hz6, hz5, hz4, hz3]; rfl)
      clear hy4 hy5 hy6 hy7 hz3 hz4 hz5 hz6 hz7
      go_wp2
      clear c4 c5 c6 c0 c1 c2 gy4 gy5 gy5' gy6 gy7 gz3 gz4 gz5 gz6 gz7
      have c7 : wr.cell? ⟨b7, 7, none⟩ = some (.int .u32 (u.h.toNat : Int)) := by rw [hB.s7.word 7 (by omega), HF.out 7 (by omega)]; rfl
      have c4 : wr.cell? ⟨b7, 4, none⟩ = some (.int .u32 (u.e.toNat : Int)) := by rw [hB.s7.word 4 (by omega), HF.out 4 (by omega)]; rfl
      obtain ⟨r6, hr6⟩ : ∃ r, r = rotr u.e 6 := ⟨_, rfl⟩
      obtain ⟨r11, hr11⟩ : ∃ r, r = rotr u.e 11 := ⟨_, rfl⟩
      obtain ⟨r25, hr25⟩ : ∃ r, r = rotr u.e 25 := ⟨_, rfl⟩
      obtain ⟨y2, hy2⟩ : ∃ r, r = r6 ^^^ r11 ^^^ r25 := ⟨_, rfl⟩
      have Q6 := Lib.hid (rturnQ_6 wr u.e r6 hr6)
      have Q11 := Lib.hid (rturnQ_11 wr u.e r11 hr11)
      have Q25 := Lib.hid (rturnQ_25 wr u.e r25 hr25)
      have Q3 := Lib.hid (threeQ wr r6 r11 r25 y2 hy2)
      obtain ⟨y3, hy3⟩ : ∃ r, r = u.h + y2 := ⟨_, rfl⟩
      have gy3 : IntKind.u32.wrap ((u.h.toNat : Int) + (y2.toNat : Int)) = (y3.toNat : Int) := by rw [add32, hy3]
      have my3 : ((u.h.toNat : Int) + (y2.toNat : Int)) % 4294967296 = (y3.toNat : Int) := by rw [add32m, hy3]
      obtain ⟨y8, hy8⟩ : ∃ r, r = y3 + y7 := ⟨_, rfl⟩
      have gy8 : IntKind.u32.wrap ((y3.toNat : Int) + (y7.toNat : Int)) = (y8.toNat : Int) := by rw [add32, hy8]
      have my8 : ((y3.toNat : Int) + (y7.toNat : Int)) % 4294967296 = (y8.toNat : Int) := by rw [add32m, hy8]
      obtain ⟨kt, hkt⟩ : ∃ r, r = KF t := ⟨_, rfl⟩
      obtain ⟨y9, hy9⟩ : ∃ r, r = y8 + kt := ⟨_, rfl⟩
      have gy9 : IntKind.u32.wrap ((y8.toNat : Int) + (kt.toNat : Int)) = (y9.toNat : Int) := by rw [add32, hy9]
      have my9 : ((y8.toNat : Int) + (kt.toNat : Int)) % 4294967296 = (y9.toNat : Int) := by rw [add32m, hy9]
      obtain ⟨wt, hwt⟩ : ∃ r, r = Wf t := ⟨_, rfl⟩
      obtain ⟨x, hx⟩ : ∃ r, r = y9 + wt := ⟨_, rfl⟩
      have gx : IntKind.u32.wrap ((y9.toNat : Int) + (wt.toNat : Int)) = (x.toNat : Int) := by rw [add32, hx]
      have mx : ((y9.toNat : Int) + (wt.toNat : Int)) % 4294967296 = (x.toNat : Int) := by rw [add32m, hx]
      obtain ⟨ta, hta⟩ : ∃ a, a = t / 8 := ⟨_, rfl⟩
      obtain ⟨tb, htb⟩ : ∃ b, b = t % 8 := ⟨_, rfl⟩
      have ta8 : ta < 8 := by omega
      have tb8 : tb < 8 := by omega
      have ga1 : (t : Int) / 8 = (ta : Int) := by omega
      have gb1 : (t : Int) % 8 = (tb : Int) := by omega
      have ga2 : (t : Int).tdiv 8 = (ta : Int) := by rw [Int.tdiv_eq_ediv_of_nonneg (by omega)]; exact ga1
      have gb2 : (t : Int).tmod 8 = (tb : Int) := by rw [Int.tmod_eq_emod_of_nonneg (by omega)]; exact gb1
      have ga3 : IntKind.i64.wrap (ta : Int) = (ta : Int) := IntWalk.i64_in _ (by omega)
      have gb3 : IntKind.i64.wrap (tb : Int) = (tb : Int) := IntWalk.i64_in _ (by omega)
      have ga4 : 0 ≤ (ta : Int) := by omega
      have gb4 : 0 ≤ (tb : Int) := by omega
      have ga5 : (ta : Int) < 8 := by omega
      have gb5 : (tb : Int) < 8 := by omega
      have gt5 : (t : Int) < 64 := by omega
      have gt6 : 0 ≤ (t : Int) := by omega
      have ck : wr.cell? ⟨b5, ta * 8 + tb, none⟩ = some (.int .u32 (kt.toNat : Int)) := by rw [hB.s5.word (ta * 8 + tb) (by omega), hkt, show ta * 8 + tb = t by omega]
      have cw : wr.cell? ⟨b6, t, none⟩ = some (.int .u32 (wt.toNat : Int)) := by rw [hB.s6.word t hlt, hwt]
      have Hx : Hid (x = rndX (KF t) (Wf t) u) := Lib.hid (by rw [hx, hy9, hy8, hy3, hy2, Hch.out, hkt, hwt, hr6, hr11, hr25]; rfl)
      clear hta htb hr6 hr11 hr25 hy2 hy3 hy8 hkt hy9 hwt hx
      go_quiet (first | (with_reducible exact Q6.out _) | (with_reducible exact Q11.out _) | (with_reducible exact Q25.out _) | (with_reducible exact Q3.out _))
      clear c7 c4 ck cw ga1 gb1 ga2 gb2 ga3 gb3 ga4 gb4 ga5 gb5 gt5 gt6 gy3 my3 gy8 my8 gy9 my9 gx
      try simp only [mx]
      clear mx
      obtain ⟨wa, hwa⟩ : ∃ wa, wa = wr.drewN nq := ⟨_, rfl⟩
      rw [← hwa]
      have hBa : Bl w wa b5 b6 b7 h Wf F := by rw [hwa]; exact hB.drewN _
      clear hwa hB lb5 lb6 lb7
      have lb7 := hBa.s7.lt
      have c0 : wa.cell? ⟨b7, 0, none⟩ = some (.int .u32 (u.a.toNat : Int)) := by rw [hBa.s7.word 0 (by omega), HF.out 0 (by omega)]; rfl
      obtain ⟨r2, hr2⟩ : ∃ r, r = rotr u.a 2 := ⟨_, rfl⟩
      obtain ⟨r13, hr13⟩ : ∃ r, r = rotr u.a 13 := ⟨_, rfl⟩
      obtain ⟨r22, hr22⟩ : ∃ r, r = rotr u.a 22 := ⟨_, rfl⟩
      obtain ⟨z2, hz2⟩ : ∃ r, r = r2 ^^^ r13 ^^^ r22 := ⟨_, rfl⟩
      have Q2 := Lib.hid (rturnQ_2 wa u.a r2 hr2)
      have Q13 := Lib.hid (rturnQ_13 wa u.a r13 hr13)
      have Q22 := Lib.hid (rturnQ_22 wa u.a r22 hr22)
      have Q4 := Lib.hid (threeQ wa r2 r13 r22 z2 hz2)
      obtain ⟨y, hy⟩ : ∃ r, r = z2 + z7 := ⟨_, rfl⟩
      have gy : IntKind.u32.wrap ((z2.toNat : Int) + (z7.toNat : Int)) = (y.toNat : Int) := by rw [add32, hy]
      have my : ((z2.toNat : Int) + (z7.toNat : Int)) % 4294967296 = (y.toNat : Int) := by rw [add32m, hy]
      have Hy : Hid (y = rndY u) := Lib.hid (by rw [hy, hz2, hr2, hr13, hr22, Hz7.out]; rfl)
      clear hr2 hr13 hr22 hz2 hy
      go_wp2
      go_quiet (first | (with_reducible exact Q2.out _) | (with_reducible exact Q13.out _) | (with_reducible exact Q22.out _) | (with_reducible exact Q4.out _))
      clear c0 gy
      try simp only [my]
      clear my
      obtain ⟨wb, hwb⟩ : ∃ wb, wb = wa.drewN nq := ⟨_, rfl⟩
      rw [← hwb]
      have hBb : Bl w wb b5 b6 b7 h Wf F := by rw [hwb]; exact hBa.drewN _
      clear hwb hBa lb7
      go_wp2
      go_loopw [13] (fun i wx => ∃ (k : Nat) (F' : Nat → UInt32), k ≤ 7 ∧ i = .int .i64 k ∧ Bl w wx b5 b6 b7 h Wf F' ∧ (∀ j, j < 8 → F' j = shiftF F k j)) (fun i _ => (intOf i).toNat)
      case atStart => exact ⟨7, F, Nat.le_refl _, rfl, hBb, fun j hj => by unfold shiftF; rw [if_neg (by omega)]⟩
      case round =>
        clear hBb
        obtain ⟨k, F', hk, rfl, hBk, hFk⟩ := hrel
        have HFk := Lib.hid hFk; clear hFk
        have lb7 := hBk.s7.lt
        by_cases hk0 : 0 < k
        · obtain ⟨v, hv⟩ : ∃ v, v = F' (k - 1) := ⟨_, rfl⟩
          have cv : wr.cell? ⟨b7, k - 1, none⟩ = some (.int .u32 (v.toNat : Int)) := by rw [hv]; exact hBk.s7.word (k - 1) (by omega)
          have cq := hBk.s7.word k (by omega)
          have zq := hBk.s7.frozen k
          have Hv : Hid (v = F (k - 1)) := Lib.hid (by rw [hv, HFk.out (k - 1) (by omega)]; unfold shiftF; rw [if_neg (by omega)])
          have e1 : ((k : Int) - 1).toNat = k - 1 := by omega
          have e2 : 1 ≤ (k : Int) := by omega
          have e3 : (k : Int) < 8 := by omega
          have e4 : (k : Int) - 1 = ((k - 1 : Nat) : Int) := by omega
          have E4 := Lib.hid e4; clear e4 hv
          go_wp2
          go_roundw
          case rel =>
            refine ⟨k - 1, upd F' k v, by omega, congrArg (Value.int .i64) E4.out, hBk.set k v, fun j hj => ?_⟩
            unfold shiftF
            by_cases hjk : j = k
            · subst hjk; rw [upd_same, if_pos (by omega), Hv.out]
            · rw [upd_other _ _ _ _ hjk, HFk.out j hj]
              unfold shiftF
              by_cases hlt2 : k < j
              · rw [if_pos hlt2, if_pos (by omega)]
              · rw [if_neg hlt2, if_neg (by omega)]
          case measure => simp [intOf]; omega
        · have Hk0 : Hid (k = 0) := Lib.hid (by omega)
          have c4 : wr.cell? ⟨b7, 4, none⟩ = some (.int .u32 (u.d.toNat : Int)) := by rw [hBk.s7.word 4 (by omega), HFk.out 4 (by omega), Hk0.out]; unfold shiftF; rw [if_pos (by omega), HF.out 3 (by omega)]; rfl
          have z4' := hBk.s7.frozen 4; have z0 := hBk.s7.frozen 0
          have c0 := hBk.s7.word 0 (by omega)
          obtain ⟨a4, ha4⟩ : ∃ r, r = u.d + x := ⟨_, rfl⟩
          obtain ⟨a0, ha0⟩ : ∃ r, r = x + y := ⟨_, rfl⟩
          have q1 : IntKind.u32.wrap ((u.d.toNat : Int) + (x.toNat : Int)) = (a4.toNat : Int) := by rw [add32, ha4]
          have q2 : ((u.d.toNat : Int) + (x.toNat : Int)) % 4294967296 = (a4.toNat : Int) := by rw [add32m, ha4]
          have q3 : IntKind.u32.wrap ((x.toNat : Int) + (y.toNat : Int)) = (a0.toNat : Int) := by rw [add32, ha0]
          have q4 : ((x.toNat : Int) + (y.toNat : Int)) % 4294967296 = (a0.toNat : Int) := by rw [add32m, ha0]
          have Ha4 := Lib.hid ha4; have Ha0 := Lib.hid ha0; clear ha4 ha0
          go_wp2
          go_roundw
          case rel =>
            have hF1 : ∀ j, j < 8 → F' j = shiftF u.get 0 j := fun j hj => by
              rw [HFk.out j hj, Hk0.out]
              unfold shiftF
              by_cases h0 : 0 < j
              · rw [if_pos h0, if_pos h0, HF.out _ (by omega)]
              · rw [if_neg h0, if_neg h0, HF.out _ hj]
            refine ⟨t + 1, upd (upd F' 4 a4) 0 a0, rnd (KF t) (Wf t) u, by omega, by go_num, ?_, by rw [rnds, ← Hu.out], rnd_get (KF t) (Wf t) u x y Hx.out Hy.out F' hF1 a4 a0 Ha4.out Ha0.out⟩
            first | exact (hBk.set 4 a4).set 0 a0 | (rw [q2, q4]; exact (hBk.set 4 a4).set 0 a0) | (simp only [q2, q4]; exact (hBk.set 4 a4).set 0 a0)
          case measure => simp [intOf]; omega
    · have Hu64 : Hid (u = rnds KF Wf h 64) := Lib.hid (by rw [Hu.out, show t = 64 by omega])
      have hno : decide ((t : Int) < 64) = false := decide_eq_false (by omega)
      clear Hu
      go_wp2
      go_loopw [14] (fun i wx => ∃ (k : Nat) (G : Nat → UInt32), k ≤ 8 ∧ i = .int .i64 k ∧ Below w.heap.size w wx ∧ Blk wx w.heap.size 42 (u32s 8 G) ∧ Blk wx (w.heap.size + 1) 42 (u32s 8 fun _ => 0) ∧ Blk wx b7 42 (u32s 8 F) ∧ (∀ j, j < 8 → G j = if j < k then (addV h u).get j else h.get j)) (fun i _ => 8 - (intOf i).toNat)
      case atStart => exact ⟨0, h.get, Nat.zero_le _, rfl, hB.below, hB.s2, hB.s4, hB.s7, fun j hj => by rw [if_neg (Nat.not_lt_zero _)]⟩
      case round =>
        clear hB lb5 lb6 lb7
        obtain ⟨k, G, hk, rfl, hb, s2, s4, s7, hG⟩ := hrel
        have HG := Lib.hid hG; clear hG
        have l2 := s2.lt; have l7 := s7.lt
        by_cases hk8 : k < 8
        · obtain ⟨p, hp⟩ : ∃ p, p = h.get k := ⟨_, rfl⟩
          obtain ⟨q, hq⟩ : ∃ q, q = u.get k := ⟨_, rfl⟩
          have cp : wr.cell? ⟨w.heap.size, k, none⟩ = some (.int .u32 (p.toNat : Int)) := by rw [s2.word k hk8, HG.out k hk8, if_neg (Nat.lt_irrefl _), hp]
          have cq : wr.cell? ⟨b7, k, none⟩ = some (.int .u32 (q.toNat : Int)) := by rw [s7.word k hk8, HF.out k hk8, hq]
          obtain ⟨r, hr⟩ : ∃ r, r = p + q := ⟨_, rfl⟩
          have Hr : Hid ((addV h u).get k = r) := Lib.hid (by rw [hr, hp, hq]; exact addV_get h u k hk8)
          have g1 : IntKind.u32.wrap ((p.toNat : Int) + (q.toNat : Int)) = (r.toNat : Int) := by rw [add32, hr]
          have j1 : 0 ≤ (k : Int) := by omega
          have j2 : (k : Int) < 8 := by omega
          clear hp hq hr
          go_wp2
          go_still_tail 8, (by kernel_rfl)
          clear cp cq g1
          change wpList _ _ _ _ _ wr.drew
          obtain ⟨wq, hwq⟩ : ∃ wq, wq = wr.drew := ⟨_, rfl⟩
          rw [← hwq]
          have t2 : Blk wq w.heap.size 42 (u32s 8 G) := by rw [hwq]; exact s2
          have t4 : Blk wq (w.heap.size + 1) 42 (u32s 8 fun _ => 0) := by rw [hwq]; exact s4
          have t7 : Blk wq b7 42 (u32s 8 F) := by rw [hwq]; exact s7
          have lq : Below w.heap.size w wq := by rw [hwq]; exact hb.drew
          have cq := t2.word k hk8
          have zq := t2.frozen k
          clear hwq s2 s4 s7 hb l2 l7
          go_wp2
          go_roundw
          case rel =>
            refine ⟨k + 1, upd G k r, by omega, by go_num, lq.setCell (Nat.le_refl _) _, t2.setW k r, t4.far (by simp) _, t7.far (by show b7 ≠ w.heap.size; omega) _, fun j hj => ?_⟩
            by_cases hjk : j = k
            · subst hjk; rw [upd_same, if_pos (by omega), Hr.out]
            · rw [upd_other _ _ _ _ hjk, HG.out j hj]
              by_cases h1 : j < k
              · rw [if_pos h1, if_pos (by omega)]
              · rw [if_neg h1, if_neg (by omega)]
          case measure => simp [intOf]; omega
        · have Hz : Hid (u32s 8 G = u32s 8 (mixV KF h m).get) := Lib.hid (u32s_congr fun j hj => by
            rw [HG.out j hj, if_pos (by omega), Hu64.out, HWf.out]; rfl)
          obtain ⟨R8, hR8⟩ : ∃ R, R = u32s 8 G := ⟨_, rfl⟩
          rw [← hR8] at s2 Hz
          have HRs : Hid (R8.size = 8) := Lib.hid (by rw [hR8, u32s_size])
          have HRo : Hid (R8.all (·.oneCell') = true) := Lib.hid (by rw [hR8]; exact u32s_one 8 _)
          have rw7 : Blk (wr.setRow (w.heap.size + 1) R8) (w.heap.size + 1) 42 R8 := setRow_heap wr (w.heap.size + 1) _ _ _ _ s4
          have lw7 : Below w.heap.size w (wr.setRow (w.heap.size + 1) R8) := below_setRow hb (by omega) _
          clear hR8
          go_wp2_with (first
            | (refine wpList_load_row rfl 42 _ rfl w.heap.size rfl 42 R8 (0, 0) _ s2 Tryd.underlying42 rfl (by rw [HRs.out]; kernel_rfl) ?_)
            | (refine wpList_store_row rfl 42 _ _ rfl (w.heap.size + 1) R8 rfl rfl 42 (u32s 8 fun _ => 0) s4 (by rw [HRs.out]; kernel_rfl) (by rw [HRs.out, u32s_size]) HRo.out ?_))
          exact bodyPost_ret (v := .agg R8) (results_cell_row rfl _ _ (w.heap.size + 1) 42 R8 (0, 0) _ rfl rw7 Tryd.underlying42 rfl (by rw [HRs.out]; kernel_rfl)) rfl ⟨by rw [Hz.out], lw7⟩
end Go.Proofs.YtjbagoedaelmnaaDoor
