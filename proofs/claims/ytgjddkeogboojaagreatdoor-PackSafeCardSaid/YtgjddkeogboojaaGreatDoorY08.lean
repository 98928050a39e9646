/-
  checkTree, walked. A region that draws its order, step by step: what may come up alone, or one of two. lines: what each line has that begins with the word. checkParents, checkChange: an error, if that is no commit.
-/
import Derived.Test.YtgjddkeogboojaaGreatDoorY07
import Derived.OrdersHeld
import Derived.Deep.RegionHeld
import Derived.Test.YtgjddkeogboojaaGreatDoorY03
set_option maxHeartbeats 16000000
set_option maxRecDepth 100000
namespace Go.Proofs.YtgjddkeogboojaaGreatDoor
open Go Go.RowKit Go.Shelf
def CkPost (b : Bool) (w : World) (e : Ending) (w' : World) : Prop :=
 ((b = true ∧ e = .returned .nilIface) ∨ (b = false ∧ ∃ p, e = .returned (.iface 232 (.pointer (some p))))) ∧ Below w.heap.size w w'
def CkRel (l : List Itm) (w : World) (k : Nat) (vn : Value) (wr : World) : Prop :=
 OwK 9 1 strC wr w.heap.size vn ((l.take k).map Itm.name) ∧ Below w.heap.size w wr ∧ ∀ i, i < k → z4y l i = true
theorem OwK.drewN {α : Type} {t : TypeId} {k : Nat} {f : α → List Value} {w : World} {base : Nat} {v : Value} {l : List α} (h : OwK t k f w base v l) (n : Nat) : OwK t k f (w.drewN n) base v l := h
theorem z12 {b : Nat} {w w1 : World} (h : Below b w w1) (n : Nat) : Below b w (w1.drewN n) := ⟨h.os, h.tape, h.output, h.size, h.block⟩
theorem bdr {w w2 : World} (l : Below w.drew.heap.size w.drew w2) : Below w.heap.size w w2 := ⟨l.os, l.tape, l.output, l.size, l.block⟩
theorem CkRel.step {l : List Itm} {w w1 w2 : World} {k : Nat} {v' : Value} {x : Itm} {ns : List (zB)} (hns : ns = (l.take k).map Itm.name) (hk : k < l.length) (hx : x = l.getD k z1c) (hg : ∀ i, i < k → z4y l i = true) (hgk : z4y l k = true) (ho : OwK 9 1 strC w2 w.heap.size v' (ns ++ [x.name])) (h1 : Below w.heap.size w w1) (h2 : Below w.heap.size w1 w2) : CkRel l w (k + 1) v' w2 := by
 refine ⟨?_, h1.trans h2, fun i hi => ?_⟩
 · rw [names_snoc l k hk, ← hx, ← hns]; exact ho
 · rcases Nat.lt_or_ge i k with h | h
   · exact hg i h
   · rw [show i = k by omega]; exact hgk
theorem z6k {l : List Itm} {k : Nat} (hk : k < l.length) (h : z4y l k = false) : z0k l = false := by
 cases hr : z0k l
 · rfl
 · have := (z0w.1 hr).2.1 k hk;rw [h] at this; cases this
theorem zl7 {l : List Itm} (hl : l.length ≤ 256) (hg : ∀ i, i < l.length → z4y l i = true) : z0k l = decide ((l.map Itm.name).Nodup) := by
 rw [Bool.eq_iff_iff, z0w, decide_eq_true_iff];exact ⟨fun h => h.2.2, fun h => ⟨hl, hg, h⟩⟩
theorem zbr (l : List Itm) (v : Value) (w : World) (hr : ItmsR w v l) (hs : Smalls l) (hl : l.length ≤ 256) (he : Er w) (ht : Tb w) :
 Calls Tryz.prog 177 #[v] w (CkPost (z0k l) w) := by
 obtain ⟨A, c, rfl⟩ := hr.shape;have HR := zh hr; have HS := zh hs; have HE := zh he; have HT := zh ht;have hl2 : ¬ (256 : Int) < (l.length : Int) := by omega
 have HL := zh hl;clear hr hs he ht hl
 go_enter Tryz.func177, Tryz.ntmps177
 go_wp2_with fail
 go_loopw [3, 16] (fun vn vi wr => ∃ k : Nat, k ≤ l.length ∧ vi = .int .i64 k ∧ Hid (CkRel l w k vn wr)) (fun _ vi _ => l.length - (intOf vi).toNat)
 case atStart => exact ⟨0, Nat.zero_le _, rfl, zh ⟨OwK.nil _ _ _ _ _, Below.refl _ _, fun i hi => absurd hi (Nat.not_lt_zero _)⟩⟩
 case round =>
  obtain ⟨k, hk, rfl, hrel⟩ := hrel;by_cases hlt : k < l.length
  · have hB := hrel.out.2.1;obtain ⟨g, o, c', e, _, hg⟩ := HR.out.pos (by omega);cases e;obtain ⟨c0, c1, c2⟩ := ItmsR.cells (HR.out.below hB zl) k hlt;obtain ⟨x, hx⟩ := zx (l.getD k z1c);rw [← hx] at c0 c1 c2;have HX := zh hx;obtain ⟨m, nm, di⟩ := x;unfold SV at c1 c2;simp only at c0 c1 c2;clear hx;have hsm := HS.out.get hlt HX.out
    have hck : ∀ W, Below w.heap.size w W → Calls Tryz.prog 188 #[.agg #[.int .i64 m, .string ⟨nm.toArray⟩, .string ⟨di.toArray⟩]] W (CkPost (z39 ⟨m, nm, di⟩) W) := fun W hW => by
     cases hi : z39 ⟨m, nm, di⟩
     · exact (zcq ⟨m, nm, di⟩ (by unfold maxLen; have := hsm.1; omega) (by unfold maxLen; have := hsm.2; omega) W (HE.out.below hW) hi).mono fun e w' ⟨p, h1, h2⟩ => ⟨.inr ⟨rfl, p, h1⟩, h2⟩
     · exact (zbn ⟨m, nm, di⟩ (by unfold maxLen; have := hsm.1; omega) (by unfold maxLen; have := hsm.2; omega) W (HE.out.below hW) hi).mono fun e w' ⟨h1, h2⟩ => ⟨.inl ⟨rfl, h1⟩, h2⟩
    have hit : ∀ W, Below w.heap.size w W → Calls Tryz.prog 176 #[.int .i64 (k : Int)] W fun e w' => (∃ s, e = .returned (.string s)) ∧ Below W.heap.size W w' := fun W hW => zgq k (by have := HL.out; omega) W (HT.out.below hW);have HC := zh hck; have HSm := zh hsm; have HI := zh hit;have L0 := zh (hB.alloc hB.size (.cells #[.int .i64 m, .string ⟨nm.toArray⟩, .string ⟨di.toArray⟩] 126));have HB := zh hB;clear hck hsm hit hB
    go_wp2_with fail
    refine (HC.out _ L0.out).mono ?_;rintro e w1 ⟨⟨hi, rfl⟩ | ⟨hi, p, rfl⟩, l1⟩
    · have L1 := zh (L0.out.trans (l1.mono L0.out.size));have HI1 := zh hi;have b0 : w1.cell? ⟨wr.heap.size, 0, none⟩ = some (.int .i64 m) := (l1.cell (p := ⟨wr.heap.size, 0, none⟩) (by simp)).trans (by simp);have b1 : w1.cell? ⟨wr.heap.size, 1, none⟩ = some (.string ⟨nm.toArray⟩) := (l1.cell (p := ⟨wr.heap.size, 1, none⟩) (by simp)).trans (by simp);have b2 : w1.cell? ⟨wr.heap.size, 2, none⟩ = some (.string ⟨di.toArray⟩) := (l1.cell (p := ⟨wr.heap.size, 2, none⟩) (by simp)).trans (by simp);have hbs : wr.heap.size < w1.heap.size := by have := l1.size; simp at this; omega
      have hown : OwK 9 1 strC w1 w.heap.size u3 ((l.take k).map Itm.name) := (hrel.out.1.below (below_new wr _) zl).below l1 zl;obtain ⟨ns, hns⟩ := zx ((l.take k).map Itm.name);rw [← hns] at hown;have hnl : ns.length ≤ 256 := by rw [hns, List.length_map, List.length_take]; have := HL.out; omega
      have HO := zh hown; have HN := zh hns; have HNL := zh hnl;clear hi hown hns hnl c0 c1 c2 l1;by_cases hk0 : k = 0
      · have d0 : decide ((0 : Int) < (k : Int)) = false := decide_eq_false (by omega);have d1 : decide (0 < k) = false := decide_eq_false (by omega);have Hk0 := zh hk0;clear hk0
        have hgk : z4y l k = true := by
         rw [z5i HX.out rfl, HI1.out, Hk0.out]; rfl
        have HG := zh hgk;clear hgk
        go_wp2_with fail
        go_quiet (fail)
        go_wp2_with (at_builtin; refine z0z strK rfl _ _ rfl w.heap.size u3 _ nm _ rfl rfl rfl (OwK.drewN HO.out _) ?c1 (by decide) ?c2 ?_)
        case c1 => have := HNL.out; omega
        case c2 => exact L1.out.size
        intro v' w2 ho2 hb2;have HR2 := zh (CkRel.step HN.out hlt HX.out hrel.out.2.2 HG.out ho2 (z12 L1.out _) hb2);clear ho2 hb2
        go_wp2_with fail
        go_roundw
        case rel => exact ⟨k + 1, by omega, by go_num, HR2⟩
        case measure => simp [intOf]; omega
      · obtain ⟨j, hj⟩ : ∃ j, k = j + 1 := ⟨k - 1, by omega⟩
        have hjl : j < l.length := by omega
        obtain ⟨q0, q1, q2⟩ := ItmsR.cells (HR.out.below L1.out zl) j hjl;obtain ⟨y, hy⟩ := zx (l.getD j z1c);rw [← hy] at q0 q1 q2;have hy2 : y = l.getD (k - 1) z1c := by rw [hy, hj]; rfl
        have hsy := HS.out.get hjl hy;have HY := zh hy2;have hst := fun W => z7r ⟨m, nm, di⟩ (HSm.out.1) W;have hsp := fun W => z7r y hsy.1 W;obtain ⟨m2, nm2, di2⟩ := y;unfold SV at q1 q2 hst hsp;simp only at q0 q1 q2 hst hsp;obtain ⟨ka, hka⟩ := zx (keyL ⟨m2, nm2, di2⟩);obtain ⟨kb, hkb⟩ := zx (keyL ⟨m, nm, di⟩);rw [← hka] at hsp;rw [← hkb] at hst;have HP := zh hsp; have HQ := zh hst
        have hgk : z4y l k = bytesBefore ka kb := by
         rw [z5i HX.out HY.out, HI1.out, show (k == 0) = false by simp; omega, hka, hkb]; rfl
        have HG := zh hgk;have d0 : decide ((0 : Int) < (k : Int)) = true := decide_eq_true (by omega);have d1 : decide (0 < k) = true := decide_eq_true (by omega);have e1 : IntKind.i64.wrap ((k : Int) - 1) = (j : Int) := by rw [IntWalk.i64_in _ (by omega)]; omega
        have e2 : 0 ≤ (j : Int) := by omega
        have e3 : (j : Int) < (l.length : Int) := by omega
        have gl1 : g < w1.heap.size := by have := L1.out.size; omega
        clear hst hsp hka hkb hgk hy hy2 hsy hj hk0;cases hbb : bytesBefore ka kb
        · have hle : Op.bytesLess ka kb = false := (z3f ka kb).trans hbb;have HF := zh (z6k hlt (HG.out.trans hbb));clear hbb
          go_wp2_with fail
          go_region_held3 (fun W => W.cell? ⟨g, o + j * 3, none⟩ = some (.int .i64 m2) ∧ W.cell? ⟨g, o + j * 3 + 1, none⟩ = some (.string ⟨nm2.toArray⟩) ∧ W.cell? ⟨g, o + j * 3 + 2, none⟩ = some (.string ⟨di2.toArray⟩) ∧ W.cell? ⟨wr.heap.size, 0, none⟩ = some (.int .i64 m) ∧ W.cell? ⟨wr.heap.size, 1, none⟩ = some (.string ⟨nm.toArray⟩) ∧ W.cell? ⟨wr.heap.size, 2, none⟩ = some (.string ⟨di.toArray⟩) ∧ Below w1.heap.size w1 W)
           (first | exact ⟨q0, q1, q2, b0, b1, b2, (Below.refl _ _).drew⟩ | assumption | go_keep)
           (first
             | (go_at_call 189; (with_reducible refine (HP.out _).mono ?_); rintro e w2 ⟨rfl, l2⟩; have hS2 := And.intro (cell_to q0 (bdr l2)) (And.intro (cell_to q1 (bdr l2)) (And.intro (cell_to q2 (bdr l2)) (And.intro (cell_to b0 (bdr l2)) (And.intro (cell_to b1 (bdr l2)) (And.intro (cell_to b2 (bdr l2)) (bdr l2)))))))
             | (go_at_call 189; (with_reducible refine (HQ.out _).mono ?_); rintro e w3 ⟨rfl, l3⟩; have hS3 := And.intro (cell_to hS2.1 l3) (And.intro (cell_to hS2.2.1 l3) (And.intro (cell_to hS2.2.2.1 l3) (And.intro (cell_to hS2.2.2.2.1 l3) (And.intro (cell_to hS2.2.2.2.2.1 l3) (And.intro (cell_to hS2.2.2.2.2.2.1 l3) (hS2.2.2.2.2.2.2.trans (l3.mono hS2.2.2.2.2.2.2.size)))))))))
          have LT := zh (hS3.2.2.2.2.2.2);have bn := hS3.2.2.2.2.1;clear hS2 hS3 q0 q1 q2 b0 b1 b2 l2 l3 e1 e2 e3 d0 d1;have L3 := zh (L1.out.trans (LT.out.mono L1.out.size));obtain ⟨ew, cw⟩ := (HE.out.below L3.out).wrong;clear bn
          go_wp2_with fail
          go_region_held3 (fun W => W.cell? ⟨4, 0, none⟩ = some (.iface 336 (.pointer (some ew))))
           (first | exact cw | assumption | go_keep)
           (first
             | (go_at_call 176; refine (HI.out _ (L3.out.drew)).mono ?_; rintro e w4 ⟨⟨s, rfl⟩, l4⟩; have hS4 := cell_to cw (bdr l4); have hS5 := fun o => cell_to hS4 (below_new w4 o); have l5 := zh (L3.out.trans ((bdr l4).mono L3.out.size)); clear l4))
          go_wp2_with fail
          go_ret
          exact ⟨.inr ⟨HF.out, _, rfl⟩, l5.out.alloc l5.out.size _⟩
        · have hle : Op.bytesLess ka kb = true := (z3f ka kb).trans hbb;have HG2 := zh (HG.out.trans hbb);clear hbb
          go_wp2_with fail
          go_region_held3 (fun W => W.cell? ⟨g, o + j * 3, none⟩ = some (.int .i64 m2) ∧ W.cell? ⟨g, o + j * 3 + 1, none⟩ = some (.string ⟨nm2.toArray⟩) ∧ W.cell? ⟨g, o + j * 3 + 2, none⟩ = some (.string ⟨di2.toArray⟩) ∧ W.cell? ⟨wr.heap.size, 0, none⟩ = some (.int .i64 m) ∧ W.cell? ⟨wr.heap.size, 1, none⟩ = some (.string ⟨nm.toArray⟩) ∧ W.cell? ⟨wr.heap.size, 2, none⟩ = some (.string ⟨di.toArray⟩) ∧ Below w1.heap.size w1 W)
           (first | exact ⟨q0, q1, q2, b0, b1, b2, (Below.refl _ _).drew⟩ | assumption | go_keep)
           (first
             | (go_at_call 189; (with_reducible refine (HP.out _).mono ?_); rintro e w2 ⟨rfl, l2⟩; have hS2 := And.intro (cell_to q0 (bdr l2)) (And.intro (cell_to q1 (bdr l2)) (And.intro (cell_to q2 (bdr l2)) (And.intro (cell_to b0 (bdr l2)) (And.intro (cell_to b1 (bdr l2)) (And.intro (cell_to b2 (bdr l2)) (bdr l2)))))))
             | (go_at_call 189; (with_reducible refine (HQ.out _).mono ?_); rintro e w3 ⟨rfl, l3⟩; have hS3 := And.intro (cell_to hS2.1 l3) (And.intro (cell_to hS2.2.1 l3) (And.intro (cell_to hS2.2.2.1 l3) (And.intro (cell_to hS2.2.2.2.1 l3) (And.intro (cell_to hS2.2.2.2.2.1 l3) (And.intro (cell_to hS2.2.2.2.2.2.1 l3) (hS2.2.2.2.2.2.2.trans (l3.mono hS2.2.2.2.2.2.2.size)))))))))
          have LT := zh (hS3.2.2.2.2.2.2);have bn := hS3.2.2.2.2.1;clear hS2 hS3 q0 q1 q2 b0 b1 b2 l2 l3 e1 e2 e3 d0 d1
          go_wp2_with (at_builtin; refine z0z strK rfl _ _ rfl w.heap.size u3 _ nm _ rfl rfl rfl (HO.out.below LT.out zl) ?d1 (by decide) ?d2 ?_)
          case d1 => have := HNL.out; omega
          case d2 => have := L1.out.size; have := LT.out.size; omega
          intro v' w4 ho2 hb2;have HR2 := zh (CkRel.step HN.out hlt HX.out hrel.out.2.2 HG2.out ho2 (L1.out.trans (LT.out.mono L1.out.size)) hb2);clear ho2 hb2
          go_wp2_with fail
          go_roundw
          case rel => exact ⟨k + 1, by omega, by go_num, HR2⟩
          case measure => simp [intOf]; omega
    · have L1 := zh (L0.out.trans (l1.mono L0.out.size));have HF : Hid (z0k l = false) := zh (z6k hlt (by rw [z5i HX.out rfl, hi]; rfl));clear hi l1 c0 c1 c2
      go_wp2_with fail
      refine (HI.out _ L1.out).mono ?_;rintro e w2 ⟨⟨s, rfl⟩, l2⟩;have L2 := zh (L1.out.trans (l2.mono L1.out.size));clear l2
      go_wp2_with fail
      go_ret
      exact ⟨.inr ⟨HF.out, _, rfl⟩, L2.out.alloc L2.out.size _⟩
  · obtain rfl : k = l.length := by omega
    obtain ⟨ho, hb, hg⟩ := hrel.out;rw [List.take_length] at ho;have HO := zh ho; have HB := zh hb; have HG := zh hg
    have hone : ∀ b, decide ((l.map Itm.name).Nodup) = b → Calls Tryz.prog 190 #[u3] wr (CkPost b wr) := fun b hb' => by
     have hr3 : StrsR wr u3 (l.map Itm.name) := ho.rd z19;have hl3 : (l.map Itm.name).length ≤ 1000000 := by rw [List.length_map]; have := HL.out; omega
     cases b
     · exact (z7w _ hl3 u3 wr hr3 (HE.out.below hb) (of_decide_eq_false hb')).mono fun e w' ⟨p, h1, h2⟩ => ⟨.inr ⟨rfl, p, h1⟩, h2⟩
     · exact (z6j _ hl3 u3 wr hr3 (HE.out.below hb) (of_decide_eq_true hb')).mono fun e w' ⟨h1, h2⟩ => ⟨.inl ⟨rfl, h1⟩, h2⟩
    have HRT := zh (zl7 HL.out hg);cases hd : decide ((l.map Itm.name).Nodup)
    · have H1 := zh (hone _ hd);have HF : Hid (z0k l = false) := zh (HRT.out.trans hd);clear hone hd ho hb hg hrel
      go_wp2_with fail
      refine H1.out.mono ?_;rintro e w1 ⟨⟨hx, _⟩ | ⟨_, p, rfl⟩, l1⟩
      · cases hx
      have HWn := zh (z1l ⟨#[105, 116, 101, 109, 115]⟩ (.iface 232 (.pointer (some p))) ⟨p, rfl⟩ w1);have L1 := zh (HB.out.trans (l1.mono HB.out.size));clear l1
      go_wp2_with fail
      refine HWn.out.mono ?_;rintro e w2 ⟨rfl, rfl⟩
      go_wp2_with fail
      go_ret
      exact ⟨.inr ⟨HF.out, _, rfl⟩, L1.out.alloc L1.out.size _⟩
    · have H1 := zh (hone _ hd);have HF : Hid (z0k l = true) := zh (HRT.out.trans hd);clear hone hd ho hb hg hrel
      go_wp2_with fail
      refine H1.out.mono ?_;rintro e w1 ⟨⟨_, rfl⟩ | ⟨hx, _⟩, l1⟩
      case inr => cases hx
      have HWn := zh (z3w (.string ⟨#[105, 116, 101, 109, 115]⟩) w1);have L1 := zh (HB.out.trans (l1.mono HB.out.size));clear l1
      go_wp2_with fail
      refine HWn.out.mono ?_;rintro e w2 ⟨rfl, rfl⟩
      go_wp2_with fail
      go_ret
      exact ⟨.inl ⟨HF.out, rfl⟩, L1.out⟩
theorem zbs (l : List Itm) (v : Value) (w : World) (hr : ItmsR w v l) (hs : Smalls l) (hl : l.length ≤ 1000000) (he : Er w) (ht : Tb w) :
 Calls Tryz.prog 177 #[v] w (CkPost (z0k l) w) := by
 by_cases h : l.length ≤ 256
 · exact zbr l v w hr hs h he ht
 · have hf : z0k l = false := by
    cases hr : z0k l
    · rfl
    · exact absurd (z0w.1 hr).1 h
   have HF := zh hf;obtain ⟨A, c, rfl⟩ := hr.shape;obtain ⟨pe, c0⟩ := he.over;have hl2 : (256 : Int) < (l.length : Int) := by omega
   clear hr hs he ht hf h
   go_enter Tryz.func177, Tryz.ntmps177
   go_wp2_with fail
   go_ret
   exact ⟨.inr ⟨HF.out, _, rfl⟩, below_new w _⟩
end Go.Proofs.YtgjddkeogboojaaGreatDoor
namespace Go.Proofs.YtgjddkeogboojaaGreatDoor
open Go Go.RowKit
section
variable {P : Program} {ops : Array Oper} {Q : Exit → Go.Act → World → Prop} {S : World → Prop}
theorem held_start (S : World → Prop) {id : Nat} {a : Go.Act} {w : World} (hm : P.follows .mixedOrders = true) (h : wpAnyH P .any ops Q S ops.size (Array.replicate ops.size false) a w.drew) : (Code.region id ops true).wp P Q a w :=
 wp_region_held hm h
theorem held_take (i : Nat) (v : Value) {oi : Oper} {fuel : Nat} {listed : Array Bool} {a : Go.Act} {w : World} (hi : ops[i]? = some oi)
 (hs : Region.noSelect ops = true) (hf : Region.free .any ops listed i = true) (hr : (Region.ready .any ops listed).contains i = true)
 (hQ : ∀ c a w, Q (.panic c) (a.put oi.dst v) w → Q (.panic c) a w) (hw : Region.wanted oi (yielded ops a.tmps) = true)
 (hy : ∀ W, S W → (execOp a.eval oi).run P W = .ok (.value v) W) (hS : S w)
 (h : wpAnyH P .any ops Q S fuel (listed.setIfInBounds i true) (a.put oi.dst v) w) : wpAnyH P .any ops Q S (fuel + 1) listed a w :=
 wpAnyH_take hi hs hf hr hQ (.inl ⟨hw, hy⟩) hS h
theorem held_op {i : Nat} (v : Value) (w' : World) {oi : Oper} {fuel : Nat} {listed : Array Bool} {a : Go.Act} {w : World} (hi : ops[i]? = some oi) (hw : Region.wanted oi (yielded ops a.tmps) = true)
 (he : (execOp a.eval oi).run P w = .ok (.value v) w') (hS : S w') (h : wpAnyH P .any ops Q S fuel (listed.setIfInBounds i true) (a.put oi.dst v) w') :
 wpOp P ops Q i (fun a' w' => S w' ∧ wpAnyH P .any ops Q S fuel (listed.setIfInBounds i true) a' w') a w := by
 unfold wpOp;rw [hi];simp only;rw [if_pos hw];left;unfold Oper.wp;rw [he];exact ⟨hS, h⟩
theorem z5j {i : Nat} (w' : World) {oi : Oper} {fuel : Nat} {listed : Array Bool} {a : Go.Act} {w : World} (hi : ops[i]? = some oi) (hw : Region.wanted oi (yielded ops a.tmps) = true)
 (he : (execOp a.eval oi).run P w = .ok .skip w') (hS : S w') (h : wpAnyH P .any ops Q S fuel (listed.setIfInBounds i true) (a.put oi.dst undef) w') :
 wpOp P ops Q i (fun a' w' => S w' ∧ wpAnyH P .any ops Q S fuel (listed.setIfInBounds i true) a' w') a w := by
 unfold wpOp;rw [hi];simp only;rw [if_pos hw];left;unfold Oper.wp;rw [he];exact ⟨hS, h⟩
theorem held_one {i : Nat} {fuel : Nat} {listed : Array Bool} {a : Go.Act} {w : World} (hr : Region.ready .any ops listed = [i])
 (h : wpOp P ops Q i (fun a' w' => S w' ∧ wpAnyH P .any ops Q S fuel (listed.setIfInBounds i true) a' w') a w) : wpAnyH P .any ops Q S (fuel + 1) listed a w :=
 wpAnyH_all hr (by simp) (fun j hj => by have e : j = i := by simpa using hj
                                         subst e; exact h)
theorem zgr {i j : Nat} {fuel : Nat} {listed : Array Bool} {a : Go.Act} {w : World} (hr : Region.ready .any ops listed = [i, j])
 (h : wpOp P ops Q i (fun a' w' => S w' ∧ wpAnyH P .any ops Q S fuel (listed.setIfInBounds i true) a' w') a w)
 (h' : wpOp P ops Q j (fun a' w' => S w' ∧ wpAnyH P .any ops Q S fuel (listed.setIfInBounds j true) a' w') a w) : wpAnyH P .any ops Q S (fuel + 1) listed a w :=
 wpAnyH_all hr (by simp) (fun k hk => by
  have e : k = i ∨ k = j := by simpa using hk
  rcases e with e | e
  · subst e; exact h
  · subst e; exact h')
theorem held_done {listed : Array Bool} {a : Go.Act} {w : World} (fuel : Nat) (hr : Region.ready .any ops listed = []) (h : Q .normal a w) : wpAnyH P .any ops Q S fuel listed a w :=
 wpAnyH_done hr h fuel
end
section
variable {P : Program} {a : Go.Act} {o : Oper} {W : World}
theorem z0f {t : TypeId} {s : Operand} {sv r : Value} (ho : o.op = .load t s) (hs : a.eval s = sv) (h : (Instr.loadAt t sv).run P W = .ok r W) : (execOp a.eval o).run P W = .ok (.value r) W := by
 subst hs;simp only [execOp, ho];simp [h, Result.andThen]
theorem zfc {t : TypeId} {s x : Operand} {sv xv : Value} {W' : World} (ho : o.op = .store t s x) (hs : a.eval s = sv) (hx : a.eval x = xv) (h : (Instr.storeAt t sv xv).run P W = .ok () W') : (execOp a.eval o).run P W = .ok .skip W' := by
 subst hs hx;simp only [execOp, ho];simp [h, Result.andThen]
theorem z8e {st : TypeId} {s y : Operand} {sv yv r : Value} {W' : World} (ho : o.op = .call { callee := .builtin .append, args := #[s, y], argTypes := #[st, st] }) (hs : a.eval s = sv) (hy : a.eval y = yv)
 (h : (Builtin.append_ #[st, st] o.type #[sv, yv]).run P W = .ok r W') : (execOp a.eval o).run P W = .ok (.value r) W' := by
 subst hs hy;simp [execOp, ho, resolve, invoke, builtin, h, Result.andThen]
end
end Go.Proofs.YtgjddkeogboojaaGreatDoor
namespace Go.Proofs.YtgjddkeogboojaaGreatDoor
open Go Go.RowKit Go.Shelf
theorem z1n {word r a q : zB} (h : z0e word r = some (a, q)) : q.length < r.length := by
 rw [(z0y h).1]; simp; omega
theorem zie {cs : Array Value} {o : Nat} {v : Value} (h : cs[o]? = some v) : cs.setIfInBounds o v = cs := by
 apply Array.ext_getElem?;intro i;rw [Array.getElem?_setIfInBounds];split
 · rename_i e;subst e;split
   · exact h.symm
   · rename_i hn; rw [Array.getElem?_eq_none (by omega)]
 · rfl
structure LsR (w : World) (word s : zB) (tb o : Nat) (cs : Array Value) (t : TypeId) (r : zB) (l : List (zB)) (vl : Value) (wr : World) : Prop where
 gr : w.grownBy wr (some tb)
 blk : wr.heap[tb]? = some (.cells (cs.setIfInBounds o vl) t (0, 0))
 own : OwK 9 1 strC wr w.heap.size vl l
 len : l.length ≤ 8
 eq : z1f word 8 s = (z1f word (8 - l.length) r).map fun p => (l ++ p.1, p.2)
theorem LsR.start {w : World} {word s : zB} {tb o : Nat} {cs : Array Value} {t : TypeId} (h : w.heap[tb]? = some (.cells cs t (0, 0))) (ho : cs[o]? = some (.slice none 0 0)) : LsR w word s tb o cs t s [] (.slice none 0 0) w :=
 ⟨z78 _ _, by rw [zie ho]; exact h, OwK.nil _ _ _ _ _, by simp, by simp⟩
def zfd (w : World) (word s : zB) (tb o : Nat) (cs : Array Value) (t : TypeId) (r : zB) (w' : World) : Prop := ∃ l v, z1f word 8 s = some (l, r) ∧ w.grownBy w' (some tb) ∧ w'.heap[tb]? = some (.cells (cs.setIfInBounds o v) t (0, 0)) ∧ OwK 9 1 strC w' w.heap.size v l
def zl8 (w : World) (word s : zB) (tb : Nat) (_ : Value) (w' : World) : Prop := z1f word 8 s = none ∧ w.grownBy w' (some tb)
theorem z5k {word r : zB} {n : Nat} : z1f word (n + 1) r = if word.isPrefixOf r then (match z0e word r with | none => none | some (a, q) => (z1f word n q).map fun p => (a :: p.1, p.2)) else some ([], r) := by
 rw [z1f];by_cases h : word.isPrefixOf r = true
 · rw [if_pos h, if_pos h, z8x h]; rfl
 · rw [if_neg h, if_neg h]
section
variable {w wr : World} {word s : zB} {tb o : Nat} {cs : Array Value} {t : TypeId} {r : zB} {l : List (zB)} {vl : Value}
theorem LsR.full (h : LsR w word s tb o cs t r l vl wr) (hl : l.length = 8) {w' : World} (hb : Below wr.heap.size wr w') (htl : tb < w.heap.size) : zfd w word s tb o cs t r w' :=
 ⟨l, vl, by rw [h.eq, hl]; simp [z1f], z1x h.gr hb, (hb.block tb (Nat.lt_of_lt_of_le htl h.gr.size)).trans h.blk, h.own.below hb zl⟩
theorem LsR.stop (h : LsR w word s tb o cs t r l vl wr) (hl : l.length < 8) (hp : word.isPrefixOf r = false) {w' : World} (hb : Below wr.heap.size wr w') (htl : tb < w.heap.size) : zfd w word s tb o cs t r w' := by
 obtain ⟨n, hn⟩ : ∃ n, 8 - l.length = n + 1 := ⟨7 - l.length, by omega⟩
 exact ⟨l, vl, by rw [h.eq, hn, z5k, hp]; simp, z1x h.gr hb, (hb.block tb (Nat.lt_of_lt_of_le htl h.gr.size)).trans h.blk, h.own.below hb zl⟩
theorem LsR.fail (h : LsR w word s tb o cs t r l vl wr) (hl : l.length < 8) (hp : word.isPrefixOf r = true) (hn : z0e word r = none) {w' : World} (hb : Below wr.heap.size wr w') (v : Value) : zl8 w word s tb v w' := by
 obtain ⟨n, hn2⟩ : ∃ n, 8 - l.length = n + 1 := ⟨7 - l.length, by omega⟩
 exact ⟨by rw [h.eq, hn2, z5k, hp, hn]; rfl, z1x h.gr hb⟩
theorem z2i {b1 b2 : Nat} {w : World} {k : Nat} {v : Value} {l : List (zB)} (h : OwK 9 k strC w b1 v l) (hb : b2 < b1) (o : Nat) (x : Value) : OwK 9 k strC (w.setCell ⟨b2, o, none⟩ x) b1 v l := by
 obtain ⟨h1, h2⟩ := h;refine ⟨h1, ?_⟩;rcases h2 with h2 | ⟨g, cap, cur, rfl, hbg, hg, r⟩
 · exact .inl h2
 · exact .inr ⟨g, cap, cur, rfl, hbg, (Below.heap_setCell _ _ _ _ (fun e => by simp at e; omega)).trans hg, r⟩
theorem LsR.step (h : LsR w word s tb o cs t r l vl wr) (hl : l.length < 8) (htl : tb < w.heap.size) {a q : zB} (hp : z0e word r = some (a, q)) {w4 w5 : World} {v' : Value} (hb : Below wr.heap.size wr w4) (ho : OwK 9 1 strC w5 w.heap.size v' (l ++ [a])) (hb5 : Below w.heap.size w4 w5) :
 LsR w word s tb o cs t q (l ++ [a]) v' (w5.setCell ⟨tb, o, none⟩ v') := by
 have hpr : word.isPrefixOf r = true := by
  unfold z0e at hp;by_cases h : word.isPrefixOf r = true
  · exact h
  · rw [if_neg h] at hp; cases hp
 have hblk : w5.heap[tb]? = some (.cells (cs.setIfInBounds o vl) t (0, 0)) := (hb5.block tb htl).trans ((hb.block tb (Nat.lt_of_lt_of_le htl h.gr.size)).trans h.blk);refine ⟨?_, ?_, z2i ho htl o v', by simp; omega, ?_⟩
 · have g4 := z1x h.gr hb;exact ⟨hb5.os.trans g4.os, hb5.tape.trans g4.tape, hb5.output.trans g4.output, by simp [World.setCell]; exact Nat.le_trans g4.size hb5.size, fun k hk hkt => (Below.heap_setCell _ _ _ _ (fun e => hkt (congrArg some e))).trans ((hb5.block k hk).trans (g4.block k hk hkt))⟩
 · simp [World.setCell, Array.getElem?_modify, hblk]
 · obtain ⟨n, hn⟩ : ∃ n, 8 - l.length = n + 1 := ⟨7 - l.length, by omega⟩
   have hn2 : 8 - (l ++ [a]).length = n := by simp; omega
   rw [h.eq, hn, hn2, z5k, hpr, hp];show ((z1f word n q).map _).map _ = _;rw [Option.map_map]
   congr 1
   funext p;simp
end
theorem z03 {W : World} {b i : Nat} {cs : Array Value} {t : TypeId} {v : Value} (h : W.heap[b]? = some (.cells cs t (0, 0))) (hv : cs[i]? = some v) : W.cell? ⟨b, i, none⟩ = some v := (cell_of_row W b i cs t (0, 0) h).trans hv
def lsP (W0 : World) (word s : zB) (tb o : Nat) : Nat → zB → World → Prop
 | 0, s', W => s' = s ∧ W = W0
 | _, s', W => LineOk W0 word s tb o s' W
theorem zl9 (s word : zB) (hs : s.length ≤ 1000000) (W0 : World) (he : Er W0) (blk b1 b2 tb o : Nat) (old : Value)
 (c0 : W0.cell? ⟨blk, 0, none⟩ = some (.func (.func 191) #[] #[.pointer (some ⟨b1, 0, none⟩), .pointer (some ⟨b2, 0, none⟩)]))
 (h1 : W0.cell? ⟨b1, 0, none⟩ = some (.string ⟨word.toArray⟩)) (h2 : W0.cell? ⟨b2, 0, none⟩ = some (.pointer (some ⟨tb, o, none⟩)))
 (ht : W0.cell? ⟨tb, o, none⟩ = some old) (hf : W0.frozen? ⟨tb, o, none⟩ = false) (hg : 4 ≠ tb) (n1 : b1 ≠ tb) (n2 : b2 ≠ tb) :
 Calls Tryz.prog 178 #[.string ⟨s.toArray⟩, .slice (some ⟨blk, 0, none⟩) 1 1] W0 (StepPost (LineOk W0 word s tb o) (LineNo W0 word s tb)) := by
 refine z6i 1 1 blk (by decide) (fun _ => 191) (fun _ => #[.pointer (some ⟨b1, 0, none⟩), .pointer (some ⟨b2, 0, none⟩)]) (lsP W0 word s tb o) (LineNo W0 word s tb) ?_ ?_ ?_ s W0 ⟨rfl, rfl⟩
 · intro i r W hi hP
   match i, hi, hP with
   | 0, _, hP => obtain ⟨_, rfl⟩ := hP; exact c0
 · intro i hi;exact enters_of Tryz.func191 (by kernel_rfl) rfl
 · intro i r W hi hP
   match i, hi, hP with
   | 0, _, hP =>
     obtain ⟨rfl, rfl⟩ := hP;exact z5h r word hs W he b1 b2 tb o old h1 h2 ht hf hg n1 n2
theorem zd0 (W : World) (word : zB) :
 let W0 := (((W.alloc (.cells #[.string ⟨#[]⟩] 9)).alloc (.cells #[.string ⟨word.toArray⟩] 9)).alloc (.cells #[.pointer (some ⟨W.heap.size, 0, none⟩)] 285)).alloc (.cells #[.func (.func 191) #[] #[.pointer (some ⟨W.heap.size + 1, 0, none⟩), .pointer (some ⟨W.heap.size + 1 + 1, 0, none⟩)]] 283)
 Below W.heap.size W W0 ∧ W0.cell? ⟨W.heap.size + 1 + 1 + 1, 0, none⟩ = some (.func (.func 191) #[] #[.pointer (some ⟨W.heap.size + 1, 0, none⟩), .pointer (some ⟨W.heap.size + 1 + 1, 0, none⟩)])
  ∧ W0.cell? ⟨W.heap.size + 1, 0, none⟩ = some (.string ⟨word.toArray⟩) ∧ W0.cell? ⟨W.heap.size + 1 + 1, 0, none⟩ = some (.pointer (some ⟨W.heap.size, 0, none⟩))
  ∧ W0.heap[W.heap.size]? = some (.cells #[.string ⟨#[]⟩] 9 (0, 0)) := by
 refine ⟨(((Below.refl W.heap.size W).alloc zl _ |>.alloc (by simp) _).alloc (by simp; omega) _).alloc (by simp; omega) _, ?_, ?_, ?_, ?_⟩
 all_goals (simp only [World.cell?, z4f, Array.getElem?_push, Array.size_push, Nat.add_assoc, Nat.reduceAdd]; simp)
def RdPost (wr : World) (word r : zB) (e : Ending) (w4 : World) : Prop :=
 Below wr.heap.size wr w4 ∧ ((∃ a q, z0e word r = some (a, q) ∧ e = .returned (.tuple #[.string ⟨q.toArray⟩, .nilIface]) ∧ w4.cell? ⟨wr.heap.size, 0, none⟩ = some (.string ⟨a.toArray⟩))
  ∨ (∃ x p, z0e word r = none ∧ e = .returned (.tuple #[.string x, .iface 232 (.pointer (some p))]) ∧ ∃ c, w4.cell? ⟨7, 0, none⟩ = some (.iface 336 (.pointer (some c))) ∧ Calls Tryz.prog 154 #[.iface 232 (.pointer (some p)), .iface 336 (.pointer (some c))] w4 (BoolPost (!word.isPrefixOf r) w4)))
theorem zif (r word : zB) (hs : r.length ≤ 1000000) (W : World) (he : Eb W) :
 Calls Tryz.prog 178 #[.string ⟨r.toArray⟩, .slice (some ⟨W.heap.size + 1 + 1 + 1, 0, none⟩) 1 1]
  ((((W.alloc (.cells #[.string ⟨#[]⟩] 9)).alloc (.cells #[.string ⟨word.toArray⟩] 9)).alloc (.cells #[.pointer (some ⟨W.heap.size, 0, none⟩)] 285)).alloc (.cells #[.func (.func 191) #[] #[.pointer (some ⟨W.heap.size + 1, 0, none⟩), .pointer (some ⟨W.heap.size + 1 + 1, 0, none⟩)]] 283)) (RdPost W word r) := by
 obtain ⟨k0, k1, k2, k3, k4⟩ := zd0 W word
 have hlt : 4 < W.heap.size := by
  obtain ⟨a, h⟩ := he.er.wrong; exact World.block_lt_of_cell? W _ h
 refine (zl9 r word hs _ (he.er.below k0) _ _ _ W.heap.size 0 _ k1 k2 k3 (z03 k4 rfl) (by simp [World.frozen?, k4]) (by omega) (by omega) (by omega)).mono ?_;intro e w4 h;have hg := zaq h;have hb : Below W.heap.size W w4 := k0.grown hg k0.size (fun k e => by cases e; exact Nat.le_refl _);refine ⟨hb, ?_⟩;obtain ⟨q, rfl, a, h1, h2⟩ | ⟨x, p, rfl, h1, _, a, c, ab, e, h3, h4, h5, h6⟩ := h
 · refine .inl ⟨a, q, h1, rfl, ?_⟩;have := h2.2 _ _ k4;exact z03 this (by simp [SV])
 · cases e;obtain ⟨_, ea, eb, ca, cb, ta, tb, hne, g1, g2, g3, g4⟩ := he;have j3 := (hb.block _ (lt_heap g3)).trans g3;have j4 := (hb.block _ (lt_heap g4)).trans g4;refine .inr ⟨x, _, h1, rfl, eb, cell_to g2 hb, ?_⟩;cases hp : word.isPrefixOf r
   · have e2 := (cell_to g2 k0).symm.trans (h6 hp);have e3 : eb = c := by simpa using e2
     subst e3;exact zgo a eb true w4 (is_same a eb ab w4 h3)
   · have e2 := (cell_to g1 k0).symm.trans (h5 hp);have e3 : ea = c := by simpa using e2
     subst e3;exact zgo a eb false w4 (is_other a eb ea ab w4 h3 hne j3 j4)
theorem zla (s word : zB) (hs : s.length ≤ 1000000) (w : World) (b1 b2 b3 tb o : Nat) (cs : Array Value) (t : TypeId)
 (h1 : w.cell? ⟨b1, 0, none⟩ = some (.pointer (some ⟨tb, o, none⟩))) (h2 : w.cell? ⟨b2, 0, none⟩ = some (.int .i64 8)) (h3 : w.cell? ⟨b3, 0, none⟩ = some (.string ⟨word.toArray⟩))
 (hblk : w.heap[tb]? = some (.cells cs t (0, 0))) (ho : cs[o]? = some (.slice none 0 0)) (n1 : b1 ≠ tb) (n2 : b2 ≠ tb) (n3 : b3 ≠ tb)
 (hEb : ∀ W, w.grownBy W (some tb) → Eb W) :
 Calls Tryz.prog 192 #[.string ⟨s.toArray⟩, .pointer (some ⟨b1, 0, none⟩), .pointer (some ⟨b2, 0, none⟩), .pointer (some ⟨b3, 0, none⟩)] w (StepPost (zfd w word s tb o cs t) (zl8 w word s tb)) := by
 have htl := lt_heap hblk
 have hcl : ∀ W, w.grownBy W (some tb) → W.cell? ⟨b1, 0, none⟩ = some (.pointer (some ⟨tb, o, none⟩)) ∧ W.cell? ⟨b2, 0, none⟩ = some (.int .i64 8) ∧ W.cell? ⟨b3, 0, none⟩ = some (.string ⟨word.toArray⟩) := fun W hW =>
  ⟨(World.cell?_of_block (w := w) (a := ⟨b1, 0, none⟩) (hW.block b1 (World.block_lt_of_cell? w _ h1) (fun e => n1 (Option.some.inj e)))).trans h1,
   (World.cell?_of_block (w := w) (a := ⟨b2, 0, none⟩) (hW.block b2 (World.block_lt_of_cell? w _ h2) (fun e => n2 (Option.some.inj e)))).trans h2,
   (World.cell?_of_block (w := w) (a := ⟨b3, 0, none⟩) (hW.block b3 (World.block_lt_of_cell? w _ h3) (fun e => n3 (Option.some.inj e)))).trans h3⟩
 have HB1 := zh (World.block_lt_of_cell? w _ h1);have HCL := zh hcl; have HEB := zh hEb; have HTL := zh htl;have H0 := zh (LsR.start (word := word) (s := s) hblk ho);have HS := zh hs
 have hcs : ∀ vl : Value, (cs.setIfInBounds o vl)[o]? = some vl := fun vl => by
  rw [Array.getElem?_setIfInBounds]
  have : o < cs.size := by
   rcases Nat.lt_or_ge o cs.size with h | h
   · exact h
   · rw [Array.getElem?_eq_none h] at ho; cases ho
  simp [this]
 have HCS := zh hcs;clear hs hEb hcl htl hblk ho h1 h2 h3 hcs
 go_enter Tryz.func192, Tryz.ntmps192
 go_wp2_with fail
 go_loopw [0] (fun vs wr => ∃ (r : zB) (l : List (zB)) (vl : Value), vs = .string ⟨r.toArray⟩ ∧ Hid (r.length ≤ 1000000) ∧ Hid (LsR w word s tb o cs t r l vl wr)) (fun vs _ => match vs with | .string b => b.size | _ => 0)
 case atStart => exact ⟨s, [], _, rfl, HS, H0⟩
 case round =>
  obtain ⟨r, l, vl, rfl, hr, hrel⟩ := hrel;obtain ⟨c1, c2, c3⟩ := HCL.out wr hrel.out.gr;have hR := hrel.out.own.rd z19;obtain ⟨A, cc, e0⟩ := hR.shape;subst e0;have x0 : wr.cell? ⟨tb, o, none⟩ = some (.slice A l.length cc) := z03 hrel.out.blk (HCS.out _);have hll := hrel.out.len;clear hR;by_cases hl : l.length < 8
  · have hl2 : (l.length : Int) < 8 := by omega
    go_wp2_with fail
    go_quiet (fail)
    have hrel1 : LsR w word s tb o cs t r l (.slice A l.length cc) (wr.drewN nq) := ⟨⟨hrel.out.gr.os, hrel.out.gr.tape, hrel.out.gr.output, hrel.out.gr.size, hrel.out.gr.block⟩, hrel.out.blk, hrel.out.own, hrel.out.len, hrel.out.eq⟩
    clear hrel c1 c2 c3 x0;obtain ⟨W1, hW1⟩ := zx (wr.drewN nq);rw [← hW1] at hrel1 ⊢;clear hW1;obtain ⟨c1, c2, c3⟩ := HCL.out W1 hrel1.gr;have HR1 := zh hrel1;have hE1 := HEB.out W1 hrel1.gr;have HE1 := zh hE1;have HRd := zh (zif r word hr.out W1 hE1);have c3' : (W1.alloc (.cells #[.string ⟨#[]⟩] 9)).cell? ⟨b3, 0, none⟩ = some (.string ⟨word.toArray⟩) := cell_to c3 (below_new W1 _);clear hrel1 hE1
    go_wp2_with fail
    refine (z7e _ _ _).mono ?_;rintro e w2 ⟨rfl, rfl⟩
    go_wp2_with fail
    refine HRd.out.mono ?_;clear c3';rintro e w4 ⟨hb4, ⟨a, q, hp, rfl, ha⟩ | ⟨x, p, hp, rfl, ec, he4, hIs⟩⟩
    · obtain ⟨_, ec, _, _, ge⟩ := (HE1.out.below hb4).er.two;have HP := zh hp; have HB4 := zh hb4;have HI := zh (errIs_nil (.pointer (some ec)) w4);clear hp
      go_wp2_with fail
      refine HI.out.mono ?_;rintro e w5 ⟨rfl, rfl⟩;obtain ⟨k1, _, _⟩ := HCL.out w4 (z1x HR1.out.gr HB4.out);have hblk4 := (HB4.out.block tb (Nat.lt_of_lt_of_le HTL.out HR1.out.gr.size)).trans HR1.out.blk;have k0 : w4.cell? ⟨tb, o, none⟩ = some (.slice A l.length cc) := z03 hblk4 (HCS.out _);have kf : w4.frozen? ⟨tb, o, none⟩ = false := by simp [World.frozen?, hblk4]
      have HO := zh (HR1.out.own.below HB4.out zl);have HZ : Hid (w.heap.size ≤ w4.heap.size) := zh (Nat.le_trans HR1.out.gr.size HB4.out.size);have HLL : Hid (l.length + 1 ≤ 1000000) := zh (by omega);have hS0 := k1;have nb : (⟨tb, o, none⟩ : Addr).block ≠ (⟨b1, 0, none⟩ : Addr).block := fun e => n1 e.symm;have hlt : b1 < w4.heap.size := Nat.lt_of_lt_of_le HB1.out HZ.out;have kA := k0; have kD : w4.drew.cell? ⟨W1.heap.size, 0, none⟩ = some (.string ⟨a.toArray⟩) := ha;have kT : w4.drew.cell? ⟨tb, o, none⟩ = some (.slice A l.length cc) := k0;obtain ⟨v', w5, hrun, ho5, hb5⟩ := zfb strK (w := w4.drew) (base := w.heap.size) (v := .slice A l.length cc) (l := l) HO.out HLL.out (by decide) HZ.out a #[.string ⟨a.toArray⟩] rfl 94;obtain ⟨A5, c5, e5⟩ := (ho5.rd z19).shape;rw [show (l ++ [a]).length = l.length + 1 by simp] at e5;subst e5;have hS1 : (w4.drew.alloc (.cells #[.string ⟨a.toArray⟩] 9)).cell? ⟨b1, 0, none⟩ = some (.pointer (some ⟨tb, o, none⟩)) := (World.cell?_alloc_lt _ _ ⟨b1, 0, none⟩ hlt).trans k1;have kT1 : (w4.drew.alloc (.cells #[.string ⟨a.toArray⟩] 9)).cell? ⟨tb, o, none⟩ = some (.slice A l.length cc) := (World.cell?_alloc_lt w4.drew _ ⟨tb, o, none⟩ (World.block_lt_of_cell? w4 _ k0)).trans k0;have kT2 : (w4.alloc (.cells #[.string ⟨a.toArray⟩] 9)).drew.cell? ⟨tb, o, none⟩ = some (.slice A l.length cc) := kT1;have hS5 : w5.cell? ⟨b1, 0, none⟩ = some (.pointer (some ⟨tb, o, none⟩)) := (hb5.cell (p := ⟨b1, 0, none⟩) HB1.out).trans k1;have kT5 : w5.cell? ⟨tb, o, none⟩ = some (.slice A l.length cc) := (hb5.cell (p := ⟨tb, o, none⟩) HTL.out).trans k0;have kf5 : w5.frozen? ⟨tb, o, none⟩ = false := (World.frozen?_of_block (w := w4) (a := ⟨tb, o, none⟩) (hb5.block tb HTL.out)).trans kf;have hS6 : (w5.setCell ⟨tb, o, none⟩ (.slice A5 (l.length + 1) c5)).cell? ⟨b1, 0, none⟩ = some (.pointer (some ⟨tb, o, none⟩)) := (World.cell?_setCell_far _ _ _ _ nb).trans hS5;have hb5a : Below w.heap.size w4 w5 := ⟨hb5.os, hb5.tape, hb5.output, hb5.size, hb5.block⟩
      have HN := zh (HR1.out.step hl HTL.out HP.out HB4.out ho5 hb5a);clear hblk4 ge
      go_wp2_with fail
      refine held_start (fun W => W.cell? ⟨b1, 0, none⟩ = some (.pointer (some ⟨tb, o, none⟩))) (by kernel_rfl) ?_;replace hS0 : w4.drew.cell? ⟨b1, 0, none⟩ = some (.pointer (some ⟨tb, o, none⟩)) := k1;refine held_take 0 (.pointer (some ⟨tb, o, none⟩)) rfl (by kernel_rfl) (by kernel_rfl) (by kernel_rfl) (fun _ _ _ h => h) (by kernel_rfl) (fun W hW => z0f (sv := .pointer (some ⟨b1, 0, none⟩)) rfl (by kernel_rfl) (by have hW2 : W.cell? ⟨b1, 0, none⟩ = some (.pointer (some ⟨tb, o, none⟩)) := hW; simp [go_sem, hW2])) hS0 ?_;refine held_take 1 (.pointer (some ⟨tb, o, none⟩)) rfl (by kernel_rfl) (by kernel_rfl) (by kernel_rfl) (fun _ _ _ h => h) (by kernel_rfl) (fun W hW => z0f (sv := .pointer (some ⟨b1, 0, none⟩)) rfl (by kernel_rfl) (by have hW2 : W.cell? ⟨b1, 0, none⟩ = some (.pointer (some ⟨tb, o, none⟩)) := hW; simp [go_sem, hW2])) hS0 ?_;refine held_take 2 (.pointer (some ⟨tb, o, none⟩)) rfl (by kernel_rfl) (by kernel_rfl) (by kernel_rfl) (fun _ _ _ h => h) (by kernel_rfl) (fun W hW => by kernel_rfl) hS0 ?_;refine zgr (i := 3) (j := 4) (by kernel_rfl) ?_ ?_
      · refine (held_op (.slice A l.length cc) w4.drew rfl (by kernel_rfl) (z0f (sv := .pointer (some ⟨tb, o, none⟩)) rfl (by kernel_rfl) (by simp [go_sem, kT])) hS0 ?_);refine held_one (i := 4) (by kernel_rfl) (held_op (.string ⟨a.toArray⟩) w4.drew rfl (by kernel_rfl) (z0f (sv := .pointer (some ⟨W1.heap.size, 0, none⟩)) rfl (by kernel_rfl) (by simp [go_sem, kD])) hS0 ?_);refine held_one (i := 5) (by kernel_rfl) (held_op (.slice (some ⟨w4.heap.size, 0, none⟩) 1 1) (w4.drew.alloc (.cells #[.string ⟨a.toArray⟩] 9)) rfl (by kernel_rfl) (by kernel_rfl) hS1 ?_);refine held_one (i := 6) (by kernel_rfl) (held_op (.slice A5 (l.length + 1) c5) w5 rfl (by kernel_rfl) (z8e (sv := .slice A l.length cc) (yv := .slice (some ⟨w4.heap.size, 0, none⟩) 1 1) rfl (by kernel_rfl) (by kernel_rfl) hrun) hS5 ?_);refine held_one (i := 7) (by kernel_rfl) (held_op (.pointer (some ⟨tb, o, none⟩)) w5 rfl (by kernel_rfl) (by kernel_rfl) hS5 ?_);refine held_one (i := 8) (by kernel_rfl) (z5j (w5.setCell ⟨tb, o, none⟩ (.slice A5 (l.length + 1) c5)) rfl (by kernel_rfl) (zfc (sv := .pointer (some ⟨tb, o, none⟩)) (xv := .slice A5 (l.length + 1) c5) rfl (by kernel_rfl) (by kernel_rfl) (by simp [go_sem, kT5, kf5])) hS6 ?_);refine held_done _ (by kernel_rfl) ?_;go_simp
        go_wp2_with fail
        go_roundw
        case rel => exact ⟨q, l ++ [a], _, rfl, zh (by have := hr.out; have := z1n HP.out; omega), HN⟩
        case measure => exact z1n HP.out
      · refine (held_op (.string ⟨a.toArray⟩) w4.drew rfl (by kernel_rfl) (z0f (sv := .pointer (some ⟨W1.heap.size, 0, none⟩)) rfl (by kernel_rfl) (by simp [go_sem, kD])) hS0 ?_);refine zgr (i := 3) (j := 5) (by kernel_rfl) ?_ ?_
        · refine (held_op (.slice A l.length cc) w4.drew rfl (by kernel_rfl) (z0f (sv := .pointer (some ⟨tb, o, none⟩)) rfl (by kernel_rfl) (by simp [go_sem, kT])) hS0 ?_);refine held_one (i := 5) (by kernel_rfl) (held_op (.slice (some ⟨w4.heap.size, 0, none⟩) 1 1) (w4.drew.alloc (.cells #[.string ⟨a.toArray⟩] 9)) rfl (by kernel_rfl) (by kernel_rfl) hS1 ?_);refine held_one (i := 6) (by kernel_rfl) (held_op (.slice A5 (l.length + 1) c5) w5 rfl (by kernel_rfl) (z8e (sv := .slice A l.length cc) (yv := .slice (some ⟨w4.heap.size, 0, none⟩) 1 1) rfl (by kernel_rfl) (by kernel_rfl) hrun) hS5 ?_);refine held_one (i := 7) (by kernel_rfl) (held_op (.pointer (some ⟨tb, o, none⟩)) w5 rfl (by kernel_rfl) (by kernel_rfl) hS5 ?_);refine held_one (i := 8) (by kernel_rfl) (z5j (w5.setCell ⟨tb, o, none⟩ (.slice A5 (l.length + 1) c5)) rfl (by kernel_rfl) (zfc (sv := .pointer (some ⟨tb, o, none⟩)) (xv := .slice A5 (l.length + 1) c5) rfl (by kernel_rfl) (by kernel_rfl) (by simp [go_sem, kT5, kf5])) hS6 ?_);refine held_done _ (by kernel_rfl) ?_;go_simp
          go_wp2_with fail
          go_roundw
          case rel => exact ⟨q, l ++ [a], _, rfl, zh (by have := hr.out; have := z1n HP.out; omega), HN⟩
          case measure => exact z1n HP.out
        · refine (held_op (.slice (some ⟨w4.heap.size, 0, none⟩) 1 1) (w4.drew.alloc (.cells #[.string ⟨a.toArray⟩] 9)) rfl (by kernel_rfl) (by kernel_rfl) hS1 ?_);refine held_one (i := 3) (by kernel_rfl) (held_op (.slice A l.length cc) (w4.drew.alloc (.cells #[.string ⟨a.toArray⟩] 9)) rfl (by kernel_rfl) (z0f (sv := .pointer (some ⟨tb, o, none⟩)) rfl (by kernel_rfl) (by simp [go_sem, kT2])) hS1 ?_);refine held_one (i := 6) (by kernel_rfl) (held_op (.slice A5 (l.length + 1) c5) w5 rfl (by kernel_rfl) (z8e (sv := .slice A l.length cc) (yv := .slice (some ⟨w4.heap.size, 0, none⟩) 1 1) rfl (by kernel_rfl) (by kernel_rfl) hrun) hS5 ?_);refine held_one (i := 7) (by kernel_rfl) (held_op (.pointer (some ⟨tb, o, none⟩)) w5 rfl (by kernel_rfl) (by kernel_rfl) hS5 ?_);refine held_one (i := 8) (by kernel_rfl) (z5j (w5.setCell ⟨tb, o, none⟩ (.slice A5 (l.length + 1) c5)) rfl (by kernel_rfl) (zfc (sv := .pointer (some ⟨tb, o, none⟩)) (xv := .slice A5 (l.length + 1) c5) rfl (by kernel_rfl) (by kernel_rfl) (by simp [go_sem, kT5, kf5])) hS6 ?_);refine held_done _ (by kernel_rfl) ?_;go_simp
          go_wp2_with fail
          go_roundw
          case rel => exact ⟨q, l ++ [a], _, rfl, zh (by have := hr.out; have := z1n HP.out; omega), HN⟩
          case measure => exact z1n HP.out
    · have HB4 := zh hb4; have HI := zh hIs; have HP := zh hp;clear hb4 hIs hp;cases hpr : word.isPrefixOf r
      · rw [hpr] at HI;have HF := zh (HR1.out.stop hl hpr HB4.out HTL.out);clear hpr
        go_wp2_with fail
        refine HI.out.mono ?_;rintro e w5 ⟨rfl, rfl⟩
        go_wp2_with fail
        go_ret2
        exact .inl ⟨r, rfl, HF.out⟩
      · rw [hpr] at HI;have HF := zh (HR1.out.fail hl hpr HP.out HB4.out);clear hpr
        go_wp2_with fail
        refine HI.out.mono ?_;rintro e w5 ⟨rfl, rfl⟩
        go_wp2_with fail
        go_ret2
        exact .inr ⟨_, p, rfl, HF.out _⟩
  · have hl8 : l.length = 8 := by omega
    have hl2 : ¬ (l.length : Int) < 8 := by omega
    have HF := zh (fun w' hb => hrel.out.full (w' := w') hl8 hb HTL.out);clear hl8 hrel
    go_wp2_with fail
    go_quiet (fail)
    go_wp2_with fail
    go_ret2
    exact .inl ⟨r, rfl, HF.out _ (z12 (Below.refl _ _) _)⟩
theorem zlb (s : zB) (hs : s.length ≤ 1000000) (w : World) (he : Er w) : Calls Tryz.prog 195 #[.string ⟨s.toArray⟩] w (CkPost (z0c s) w) := by
 cases h : z0c s
 · exact (z7s s (by unfold maxLen; omega) w he h).mono fun e w' ⟨p, h1, h2⟩ => ⟨.inr ⟨rfl, p, h1⟩, h2⟩
 · exact (z6h s (by unfold maxLen; omega) w he h).mono fun e w' ⟨h1, h2⟩ => ⟨.inl ⟨rfl, h1⟩, h2⟩
theorem ckPart (s : zB) (hs : s.length ≤ 1000000) (w : World) (he : Er w) : Calls Tryz.prog 198 #[.string ⟨s.toArray⟩] w (CkPost (z2a s) w) := by
 cases h : z2a s
 · exact (z7t s (by unfold maxLen; omega) w he h).mono fun e w' ⟨p, h1, h2⟩ => ⟨.inr ⟨rfl, p, h1⟩, h2⟩
 · exact (z4c s (by unfold maxLen; omega) w he h).mono fun e w' ⟨h1, h2⟩ => ⟨.inl ⟨rfl, h1⟩, h2⟩
theorem ckWho (s : zB) (hs : s.length ≤ 1000000) (w : World) (he : Er w) : Calls Tryz.prog 197 #[.string ⟨s.toArray⟩] w (CkPost (whoB s) w) := by
 cases h : whoB s
 · exact (zf0 s (by unfold maxLen; omega) w he h).mono fun e w' ⟨p, h1, h2⟩ => ⟨.inr ⟨rfl, p, h1⟩, h2⟩
 · exact (zco s (by unfold maxLen; omega) w he h).mono fun e w' ⟨h1, h2⟩ => ⟨.inl ⟨rfl, h1⟩, h2⟩
theorem ckOnce (zs : List (zB)) (hl : zs.length ≤ 1000000) (v : Value) (w : World) (hr : StrsR w v zs) (he : Er w) : Calls Tryz.prog 190 #[v] w (CkPost (decide zs.Nodup) w) := by
 by_cases h : zs.Nodup
 · exact (z6j zs hl v w hr he h).mono fun e w' ⟨h1, h2⟩ => ⟨.inl ⟨decide_eq_true h, h1⟩, h2⟩
 · exact (z7w zs hl v w hr he h).mono fun e w' ⟨p, h1, h2⟩ => ⟨.inr ⟨decide_eq_false h, p, h1⟩, h2⟩
theorem CkPost.thru {b b' : Bool} {w w1 : World} {e : Ending} {w' : World} (h : CkPost b w1 e w') (hb : b = b') (hw : Below w.heap.size w w1) : CkPost b' w e w' := by
 subst hb; exact ⟨h.1, hw.trans (h.2.mono hw.size)⟩
theorem CkPost.ret {b : Bool} {w : World} {e : Ending} {w' : World} (h : CkPost b w e w') : ∃ v, e = .returned v := by
 obtain ⟨⟨_, h⟩ | ⟨_, p, h⟩, _⟩ := h <;> exact ⟨_, h⟩
def parB (l : List (zB)) : Bool := decide (l.length ≤ 8) && l.all z0c && decide l.Nodup
def zd1 (l : List (zB)) : Prop := ∀ x ∈ l, x.length ≤ 1000000
theorem zlc {l : List (zB)} {k : Nat} (hk : k < l.length) (h : z0c (l.getD k []) = false) : parB l = false := by
 unfold parB
 have : l.all z0c = false := by
  rw [List.all_eq_false]; exact ⟨_, z1w l [] k hk, by rw [h]; simp⟩
 rw [this]; simp
theorem zld {l : List (zB)} (hl : l.length ≤ 8) (h : ∀ i, i < l.length → z0c (l.getD i []) = true) : parB l = decide l.Nodup := by
 unfold parB
 have : l.all z0c = true := by
  rw [List.all_eq_true];intro x hx;obtain ⟨i, hi, rfl⟩ := List.mem_iff_getElem.1 hx;have := h i hi
  rwa [zg, zj hi] at this
 rw [this, decide_eq_true hl]; simp
theorem z82 (l : List (zB)) (v : Value) (w : World) (hr : StrsR w v l) (hs : zd1 l) (hl : l.length ≤ 8) (he : Er w) :
 Calls Tryz.prog 196 #[v] w (CkPost (parB l) w) := by
 obtain ⟨A, c, rfl⟩ := hr.shape;have HR := zh hr; have HS := zh hs; have HE := zh he;have hl2 : ¬ (8 : Int) < (l.length : Int) := by omega
 clear hr hs he
 go_enter Tryz.func196, Tryz.ntmps196
 go_wp2_with fail
 go_loopw [15] (fun vi wr => ∃ k : Nat, k ≤ l.length ∧ vi = .int .i64 k ∧ Hid (Below w.heap.size w wr) ∧ Hid (∀ i, i < k → z0c (l.getD i []) = true)) (fun vi _ => l.length - (intOf vi).toNat)
 case atStart => exact ⟨0, Nat.zero_le _, rfl, zh (Below.refl _ _), zh fun i hi => absurd hi (Nat.not_lt_zero _)⟩
 case round =>
  obtain ⟨k, hk, rfl, hB, hN⟩ := hrel;by_cases hlt : k < l.length
  · obtain ⟨g, o, c', e, _, hg⟩ := HR.out.pos (by omega);cases e;have c0 := StrsR.cell (HR.out.below hB.out zl) k hlt;have hsx := HS.out _ (z1w l [] k hlt);have hno := @zlc l k hlt
    have hnx : z0c (l.getD k []) = true → ∀ i, i < k + 1 → z0c (l.getD i []) = true := fun h i hi => by
     rcases Nat.lt_or_ge i k with h2 | h2
     · exact hN.out i h2
     · rw [show i = k by omega]; exact h
    have HNx := zh hnx;have HNo := zh hno;obtain ⟨x, hx⟩ := zx (l.getD k []);rw [← hx] at c0 hsx HNx HNo;unfold SV at c0;have HC := zh (zlb x hsx wr (HE.out.below hB.out));clear hx hsx hno hnx
    go_wp2_with fail
    refine HC.out.mono ?_;rintro e w1 ⟨⟨hi, rfl⟩ | ⟨hi, p, rfl⟩, l1⟩
    · have HB1 := zh (hB.out.trans (l1.mono hB.out.size));have HN1 := zh (HNx.out hi);clear hi l1
      go_wp2_with fail
      go_roundw
      case rel => exact ⟨k + 1, by omega, by go_num, HB1, HN1⟩
      case measure => simp [intOf]; omega
    · have HB1 := zh (hB.out.trans (l1.mono hB.out.size));have HN1 := zh (HNo.out hi);clear hi l1
      go_wp2_with fail
      go_ret
      exact ⟨.inr ⟨HN1.out, p, rfl⟩, HB1.out⟩
  · obtain rfl : k = l.length := by omega
    have HC := zh (ckOnce l (by omega) _ wr (HR.out.below hB.out zl) (HE.out.below hB.out));have HQ := zh (zld hl hN.out)
    go_wp2_with fail
    refine HC.out.mono ?_;intro e w1 h1;have H1 := zh (h1.thru HQ.out.symm hB.out);obtain ⟨v, rfl⟩ := h1.ret;clear h1
    go_wp2_with fail
    go_ret
    exact H1.out
theorem zle (l : List (zB)) (v : Value) (w : World) (hr : StrsR w v l) (hs : zd1 l) (he : Er w) :
 Calls Tryz.prog 196 #[v] w (CkPost (parB l) w) := by
 by_cases h : l.length ≤ 8
 · exact z82 l v w hr hs h he
 · have hf : parB l = false := by unfold parB; rw [decide_eq_false h]; rfl
   have HF := zh hf;obtain ⟨A, c, rfl⟩ := hr.shape;obtain ⟨pe, c0⟩ := he.over;have hl2 : (8 : Int) < (l.length : Int) := by omega
   clear hr hs he hf h
   go_enter Tryz.func196, Tryz.ntmps196
   go_wp2_with fail
   go_ret
   exact ⟨.inr ⟨HF.out, _, rfl⟩, below_new w _⟩
def ChgV (c : Chg) (vp : Value) : Value := .agg #[.string ⟨c.tree.toArray⟩, vp, .string ⟨c.who.toArray⟩, .string ⟨c.text.toArray⟩]
def zgs (c : Chg) : Prop := c.tree.length ≤ 100000 ∧ zd1 c.parents ∧ c.who.length ≤ 100000 ∧ c.text.length ≤ 100000
theorem z8z (c : Chg) : z18 c = (z0c c.tree && parB c.parents && whoB c.who) := rfl
theorem z90 (c : Chg) (vp : Value) (w : World) (hr : StrsR w vp c.parents) (hs : zgs c) (he : Er w) :
 Calls Tryz.prog 182 #[ChgV c vp] w (CkPost (z18 c) w) := by
 obtain ⟨t, ps, wh, tx⟩ := c;obtain ⟨s1, s2, s3, s4⟩ := hs;simp only at s1 s2 s3 s4 hr;rw [z8z];obtain ⟨A, ca, rfl⟩ := hr.shape;unfold ChgV;simp only;have B0 := below_new w (.cells #[.string ⟨t.toArray⟩, .slice A ps.length ca, .string ⟨wh.toArray⟩, .string ⟨tx.toArray⟩] 96);have HB0 := zh B0;have HN := zh (zlb t (by omega) _ (he.below B0));have HP := zh (fun W (h : Below w.heap.size w W) => zle ps (.slice A ps.length ca) W (hr.below h zl) s2 (he.below h));have HW := zh (fun W (h : Below w.heap.size w W) => ckWho wh (by omega) W (he.below h));have hb1 : ∀ w1, Below (w.alloc (.cells #[.string ⟨t.toArray⟩, .slice A ps.length ca, .string ⟨wh.toArray⟩, .string ⟨tx.toArray⟩] 96)).heap.size (w.alloc (.cells #[.string ⟨t.toArray⟩, .slice A ps.length ca, .string ⟨wh.toArray⟩, .string ⟨tx.toArray⟩] 96)) w1 → Below w.heap.size w w1 ∧ w1.heap[w.heap.size]? = some (.cells #[.string ⟨t.toArray⟩, .slice A ps.length ca, .string ⟨wh.toArray⟩, .string ⟨tx.toArray⟩] 96 (0, 0)) := fun w1 h => ⟨B0.trans (h.mono B0.size), (h.block _ (by simp)).trans (heap_alloc_new _ _)⟩
 have HB1 := zh hb1;clear hr s1 s2 s3 s4 he B0 hb1
 go_enter Tryz.func182, Tryz.ntmps182
 go_wp2_with fail
 refine HN.out.mono ?_;rintro e w1 ⟨⟨hi, rfl⟩ | ⟨hi, p, rfl⟩, l1⟩
 · obtain ⟨h1, hb⟩ := HB1.out w1 l1;have q0 := (cell_of_row w1 w.heap.size 0 _ _ _ hb).trans (by rfl);have q1 := (cell_of_row w1 w.heap.size 1 _ _ _ hb).trans (by rfl);have q2 := (cell_of_row w1 w.heap.size 2 _ _ _ hb).trans (by rfl);have H1 := zh h1; have HI := zh hi; have HBk := zh hb;clear h1 hi hb l1
   go_wp2_with fail
   refine (HP.out w1 H1.out).mono ?_;rintro e w2 ⟨⟨hi, rfl⟩ | ⟨hi, p, rfl⟩, l2⟩
   · have hb2 := (l2.block w.heap.size (lt_heap HBk.out)).trans HBk.out;have r2 := (cell_of_row w2 w.heap.size 2 _ _ _ hb2).trans (by rfl);have H2 := zh (H1.out.trans (l2.mono H1.out.size)); have HI2 := zh hi;clear hi l2 hb2 q0 q1 q2
     go_wp2_with fail
     refine (HW.out w2 H2.out).mono ?_;intro e w3 h3;have H3 := zh (h3.thru (b' := z0c t && parB ps && whoB wh) (by rw [HI.out, HI2.out]; rfl) H2.out);obtain ⟨v, rfl⟩ := h3.ret;clear h3
     go_wp2_with fail
     go_ret
     exact H3.out
   · have H2 := zh (H1.out.trans (l2.mono H1.out.size)); have HI2 := zh hi;have HWn := zh (z1l ⟨#[112, 97, 114, 101, 110, 116, 115]⟩ (.iface 232 (.pointer (some p))) ⟨p, rfl⟩ w2);clear hi l2 q0 q1 q2
     go_wp2_with fail
     refine HWn.out.mono ?_;rintro e w3 ⟨rfl, rfl⟩
     go_wp2_with fail
     go_ret
     exact ⟨.inr ⟨by rw [HI2.out]; simp, _, rfl⟩, H2.out.alloc H2.out.size _⟩
 · obtain ⟨h1, _⟩ := HB1.out w1 l1;have H1 := zh h1; have HI := zh hi;have HWn := zh (z1l ⟨#[116, 114, 101, 101]⟩ (.iface 232 (.pointer (some p))) ⟨p, rfl⟩ w1);clear h1 hi l1
   go_wp2_with fail
   refine HWn.out.mono ?_;rintro e w3 ⟨rfl, rfl⟩
   go_wp2_with fail
   go_ret
   exact ⟨.inr ⟨by rw [HI.out]; simp, _, rfl⟩, H1.out.alloc H1.out.size _⟩
end Go.Proofs.YtgjddkeogboojaaGreatDoor
