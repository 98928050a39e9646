/-
  apart: a state is split.
-/
import Derived.Test.YtbgnemephcbgeaaGj
namespace Go.Proofs.Ytbgnemephcbgeaa
open Go Go.RowKit

theorem l_u8 (W : World) (b o : Nat) (x : Int) (h : W.cell? ⟨b, o, none⟩ = some (.int .u8 x)) : (Instr.loadAt 5 (.pointer (some ⟨b, o, none⟩))).run Try.prog W = .ok (.int .u8 x) W := by
  go_simp
theorem add1_i32 (W : World) (x : Nat) (h : x ≤ 2147483646) : (binOp .add 21 (.int .i32 (x : Int)) (.int .i32 1)).run Try.prog W = .ok (.int .i32 ((x : Int) + 1)) W := by
  have e : IntKind.i32.wrap ((x : Int) + 1) = (x : Int) + 1 := IntWalk.i32_in _ (by omega)
  simp [go_sem, e]
theorem eql_i32 (W : World) (x y : Int) (b : Bool) (h : (x == y) = b) : (binOp .eql 21 (.int .i32 x) (.int .i32 y)).run Try.prog W = .ok (.bool b) W := by
  subst h
  simp [go_sem]
theorem alloc_st (W : World) : (Instr.alloc 91 true (.tuple #[])).run Try.prog W = .ok (.pointer (some ⟨W.heap.size, 0, none⟩)) (W.alloc (.cells #[.int .i32 0, .int .i32 0, .int .i32 0, .int .i32 0] 91)) := by
  simp [go_sem]

def muA (A : Au) (v : Value) : Nat := if intOf v < 0 then 0 else (A.W (intOf v).toNat).length + 1
theorem mu_lt {A : Au} {y : Nat} {l : Option Nat} (h : ∀ x, l = some x → (A.W x).length < (A.W y).length) : muA A (.int .i32 (lnkI l)) < muA A (.int .i32 (y : Int)) := by
  have e : muA A (.int .i32 (y : Int)) = (A.W y).length + 1 := by
    unfold muA
    rw [show intOf (.int .i32 (y : Int)) = (y : Int) from rfl, if_neg (by omega), Int.toNat_natCast]
  rw [e]
  cases l with
  | none =>
    unfold muA
    rw [show intOf (.int .i32 (lnkI none)) = -1 from rfl, if_pos (by decide)]; omega
  | some x =>
    have := h x rfl
    unfold muA
    rw [show intOf (.int .i32 (lnkI (some x))) = (x : Int) from rfl, if_neg (by omega), Int.toNat_natCast]; omega

/-- What is left when a state is put apart: the graph, but for what is wider than the new one. -/
def ApPost (B gb sb K : Nat) (p : Bs) (A : Au) (c : UInt8) (w : World) (e : Ending) (w' : World) : Prop :=
  ∃ (x : Nat) (C' : Cg) (A' : Au) (own' : Nat → Nat) (eb Ke : Nat), e = .returned (.int .i32 (x : Int)) ∧ GrM w' B gb sb K eb Ke C' ∧ Below B w w' ∧ Rep C' A' own' ∧ A.n < A'.n ∧ A'.n ≤ A.n + 2 ∧ x < A'.n ∧ A'.W A.n = p ++ [c] ∧ Good (p ++ [c]) (A'.wide A.n (some x))

set_option maxHeartbeats 4000000 in
set_option maxRecDepth 100000 in
theorem apart_any {w : World} {B gb sb K eb Ke : Nat} {C : Cg} {own : Nat → Nat} {p : Bs} {A A1 : Au} {c : UInt8} {v q e : Nat} (h : GrM w B gb sb K eb Ke C) (R : Rep C A1 own) (M : Mid p A c (some v) A1) (Gd : Good p A) (Go : Goes p A c (some v))
    (he : EdgeAt C v c e) (hd : A.δ v c = some q) (hp : p.length ≤ 1000000) (hK : C.st.length + 1 ≤ K) (hs : C.st.length ≤ 2000000) :
    Calls Try.prog 54 #[.pointer (some ⟨gb, 0, none⟩), .int .i32 (v : Int), .int .i32 (e : Int)] w (ApPost B gb sb K p A c w) := by
  obtain ⟨hv, hvs⟩ := Go.lt v rfl
  have hvC : v < C.st.length := by rw [R.n, M.n]; omega
  have hqA : q < A.n := (Gd.edg v c q hv hd).1
  have hqC : q < C.st.length := by rw [R.n, M.n]; omega
  have hd1 : A1.δ v c = some q := by rw [M.free hv]; exact hd
  have he0 : e ≠ 0 := by
    rintro rfl
    have := R.δ v c 0 (by rw [M.n]; omega) he
    rw [hd1, if_pos rfl] at this; cases this
  have hto : (C.e e).to = q := by
    have := R.δ v c e (by rw [M.n]; omega) he
    rw [hd1, if_neg he0] at this
    exact (Option.some.inj this).symm
  have hby : (C.e e).by_ = c := (R.toWf.edgeAt_own hvC he he0).2
  have hel : e < C.ed.length := R.toWf.edgeAt_lt hvC he
  have hfew := R.toWf.few
  have L := Go.long_some Gd hd
  have hq : Of p A (A.W v ++ [c]) q := Gd.step (Good.of_self hv) hd
  obtain ⟨lv, hlv⟩ : ∃ l, l = (A.W v).length := ⟨_, rfl⟩
  obtain ⟨lq, hlq⟩ : ∃ l, l = (A.W q).length := ⟨_, rfl⟩
  have hlvp : lv ≤ 1000000 := by rw [hlv]; have := hvs.length_le; omega
  have hlqp : lq ≤ 1000000 := by rw [hlq]; have := (Gd.fst q hqA).1; have a := this.len; have b := this.1; omega
  have sv := R.s v (by rw [M.n]; omega)
  have sq := R.s q (by rw [M.n]; omega)
  rw [M.W v hv, ← hlv] at sv
  rw [M.W q hqA, ← hlq] at sq
  have g0 := h.g0; have g1 := h.g1
  have e0 := h.e0 hel; have e1 := h.e1 hel
  rw [hby] at e0; rw [hto] at e1
  have v0 := h.s0 hvC; have q0 := h.s0 hqC; have q1 := h.s1 hqC; have q2 := h.s2 hqC; have q3 := h.s3 hqC
  rw [sv.1] at v0; rw [sq.1] at q0
  obtain ⟨fq, hfq⟩ : ∃ f, f = (C.s q).fin := ⟨_, rfl⟩
  obtain ⟨wq, hwq⟩ : ∃ f, f = (C.s q).wider := ⟨_, rfl⟩
  obtain ⟨eq, heq⟩ : ∃ f, f = (C.s q).edge := ⟨_, rfl⟩
  rw [← hfq] at q1; rw [← hwq] at q2; rw [← heq] at q3
  have HG := Lib.hid h; have HRp := Lib.hid R; have HM := Lib.hid M; have HGd := Lib.hid Gd; have HL := Lib.hid L; have HQ := Lib.hid hq
  have HK := Lib.hid hK; have HVS := Lib.hid hvs; have HSq := Lib.hid sq
  have HEq := Lib.hid (And.intro hfq (And.intro hwq heq)); have HLv := Lib.hid hlv; have HLq := Lib.hid hlq
  have HDv := Lib.hid hd; have HvA := Lib.hid hv; have HqA := Lib.hid hqA
  have HsL := Lib.hid hs; have HP := Lib.hid hp; have HFw := Lib.hid hfew
  obtain ⟨n, hn⟩ : ∃ n, n = C.st.length := ⟨_, rfl⟩
  obtain ⟨m, hm⟩ : ∃ m, m = C.ed.length := ⟨_, rfl⟩
  have Hn := Lib.hid hn; have Hm := Lib.hid hm
  rw [← hn] at g0 hvC hqC hs
  rw [← hm] at g1 hel
  have HC := Lib.hid (And.intro g0 (And.intro g1 (And.intro e0 (And.intro e1 (And.intro v0 (And.intro q0 (And.intro q1 (And.intro q2 q3))))))))
  clear h R M Gd Go he hd hp hK hvs hd1 hto hby hfew L hq hlv hlq sv sq hfq hwq heq hn hm g0 g1 e0 e1 v0 q0 q1 q2 q3 hv hqA
  go_enter Try.func54, Try.ntmps54
  go_upto_region 1 with fail
  refine AnyK.start w.heap.size w (by kernel_rfl) ?_
  have LD := Lib.hid (show Below w.heap.size w w.drew from (Below.refl _ _).drew)
  refine AnyK.take 0 (.pointer (some ⟨gb, 0, none⟩)) (LD.out) rfl (by kernel_rfl) (by kernel_rfl) (by kernel_rfl) (fun _ _ _ h => h) (by kernel_rfl) (fun W hW => by kernel_rfl) ?_
  refine AnyK.take 1 (.pointer (some ⟨gb, 0, none⟩)) (LD.out) rfl (by kernel_rfl) (by kernel_rfl) (by kernel_rfl) (fun _ _ _ h => h) (by kernel_rfl) (fun W hW => by kernel_rfl) ?_
  refine AnyK.take 2 (.pointer (some ⟨gb, 1, none⟩)) (LD.out) rfl (by kernel_rfl) (by kernel_rfl) (by kernel_rfl) (fun _ _ _ h => h) (by kernel_rfl) (fun W hW => by kernel_rfl) ?_
  refine AnyK.take 3 (.slice (some ⟨eb, 0, none⟩) m Ke) (LD.out) rfl (by kernel_rfl) (by kernel_rfl) (by kernel_rfl) (fun _ _ _ h => h) (by kernel_rfl) (fun W hW => y_load (sv := .pointer (some ⟨gb, 1, none⟩)) rfl (by kernel_rfl) (l_el _ _ _ _ _ _ (cell_to HC.out.2.1 hW))) ?_
  refine AnyK.take 4 (.int .i32 (e : Int)) (LD.out) rfl (by kernel_rfl) (by kernel_rfl) (by kernel_rfl) (fun _ _ _ h => h) (by kernel_rfl) (fun W hW => by kernel_rfl) ?_
  refine AnyK.take 5 (.pointer (some ⟨eb, e * 3, none⟩)) (LD.out) rfl (by kernel_rfl) (by kernel_rfl) (by kernel_rfl) (fun _ _ _ h => h) (by kernel_rfl) (fun W hW => y_index (sv := .slice (some ⟨eb, 0, none⟩) m Ke) (iv := .int .i32 (e : Int)) rfl (by kernel_rfl) (by kernel_rfl) (at_ed W eb m Ke e hel)) ?_
  refine AnyK.take 6 (.pointer (some ⟨eb, e * 3, none⟩)) (LD.out) rfl (by kernel_rfl) (by kernel_rfl) (by kernel_rfl) (fun _ _ _ h => h) (by kernel_rfl) (fun W hW => by kernel_rfl) ?_
  refine AnyK.take 7 (.int .u8 (c.toNat : Int)) (LD.out) rfl (by kernel_rfl) (by kernel_rfl) (by kernel_rfl) (fun _ _ _ h => h) (by kernel_rfl) (fun W hW => y_load (sv := .pointer (some ⟨eb, e * 3, none⟩)) rfl (by kernel_rfl) (l_u8 _ _ _ _ (cell_to HC.out.2.2.1 hW))) ?_
  refine AnyK.take 8 (.pointer (some ⟨gb, 0, none⟩)) (LD.out) rfl (by kernel_rfl) (by kernel_rfl) (by kernel_rfl) (fun _ _ _ h => h) (by kernel_rfl) (fun W hW => by kernel_rfl) ?_
  refine AnyK.take 9 (.pointer (some ⟨gb, 0, none⟩)) (LD.out) rfl (by kernel_rfl) (by kernel_rfl) (by kernel_rfl) (fun _ _ _ h => h) (by kernel_rfl) (fun W hW => by kernel_rfl) ?_
  refine AnyK.take 10 (.pointer (some ⟨gb, 1, none⟩)) (LD.out) rfl (by kernel_rfl) (by kernel_rfl) (by kernel_rfl) (fun _ _ _ h => h) (by kernel_rfl) (fun W hW => by kernel_rfl) ?_
  refine AnyK.take 11 (.slice (some ⟨eb, 0, none⟩) m Ke) (LD.out) rfl (by kernel_rfl) (by kernel_rfl) (by kernel_rfl) (fun _ _ _ h => h) (by kernel_rfl) (fun W hW => y_load (sv := .pointer (some ⟨gb, 1, none⟩)) rfl (by kernel_rfl) (l_el _ _ _ _ _ _ (cell_to HC.out.2.1 hW))) ?_
  refine AnyK.take 12 (.int .i32 (e : Int)) (LD.out) rfl (by kernel_rfl) (by kernel_rfl) (by kernel_rfl) (fun _ _ _ h => h) (by kernel_rfl) (fun W hW => by kernel_rfl) ?_
  refine AnyK.take 13 (.pointer (some ⟨eb, e * 3, none⟩)) (LD.out) rfl (by kernel_rfl) (by kernel_rfl) (by kernel_rfl) (fun _ _ _ h => h) (by kernel_rfl) (fun W hW => y_index (sv := .slice (some ⟨eb, 0, none⟩) m Ke) (iv := .int .i32 (e : Int)) rfl (by kernel_rfl) (by kernel_rfl) (at_ed W eb m Ke e hel)) ?_
  refine AnyK.take 14 (.pointer (some ⟨eb, e * 3 + 1, none⟩)) (LD.out) rfl (by kernel_rfl) (by kernel_rfl) (by kernel_rfl) (fun _ _ _ h => h) (by kernel_rfl) (fun W hW => by kernel_rfl) ?_
  refine AnyK.take 15 (.int .i32 (q : Int)) (LD.out) rfl (by kernel_rfl) (by kernel_rfl) (by kernel_rfl) (fun _ _ _ h => h) (by kernel_rfl) (fun W hW => y_load (sv := .pointer (some ⟨eb, e * 3 + 1, none⟩)) rfl (by kernel_rfl) (l_i32 _ _ _ _ (cell_to HC.out.2.2.2.1 hW))) ?_
  refine AnyK.take 16 (.int .u8 (c.toNat : Int)) (LD.out) rfl (by kernel_rfl) (by kernel_rfl) (by kernel_rfl) (fun _ _ _ h => h) (by kernel_rfl) (fun W hW => by kernel_rfl) ?_
  refine AnyK.take 17 (.int .i32 (q : Int)) (LD.out) rfl (by kernel_rfl) (by kernel_rfl) (by kernel_rfl) (fun _ _ _ h => h) (by kernel_rfl) (fun W hW => by kernel_rfl) ?_
  refine AnyK.done _ (by kernel_rfl) ?_
  go_simp
  obtain ⟨w1, hw1⟩ : ∃ w1, w1 = w.drew := ⟨_, rfl⟩
  rw [← hw1] at LD ⊢
  have HL1 := LD
  clear hw1 LD
  have c0 := cell_to HC.out.1 HL1.out
  have c5 := cell_to HC.out.2.2.2.2.2.1 HL1.out
  have c6 := cell_to HC.out.2.2.2.2.2.2.1 HL1.out
  have c7 := cell_to HC.out.2.2.2.2.2.2.2.1 HL1.out
  have c8 := cell_to HC.out.2.2.2.2.2.2.2.2 HL1.out
  have hqI : (q : Int) < (n : Int) := by omega
  go_upto_region 3 with fail
  clear c0 c5 c6 c7 c8 hqI
  obtain ⟨b, hb⟩ : ∃ b, b = w1.heap.size := ⟨_, rfl⟩
  obtain ⟨w2, hw2⟩ : ∃ w2, w2 = w1.alloc (.cells #[.int .i32 (lq : Int), .int .i32 (fq : Int), .int .i32 wq, .int .i32 (eq : Int)] 91) := ⟨_, rfl⟩
  rw [← hw2, ← hb]
  have hk2 : w2.heap[b]? = some (.cells #[.int .i32 (lq : Int), .int .i32 (fq : Int), .int .i32 wq, .int .i32 (eq : Int)] 91 (0, 0)) := by rw [hw2, hb]; exact heap_alloc_new w1 _
  have L2 : Hid (Below w.heap.size w w2) := Lib.hid (by rw [hw2]; exact HL1.out.alloc HL1.out.size _)
  have HK2 := Lib.hid hk2
  have Hb : Hid (w.heap.size ≤ b) := Lib.hid (by rw [hb]; exact HL1.out.size)
  have B0 : Hid (w2.cell? ⟨b, 0, none⟩ = some (.int .i32 (lq : Int))) := Lib.hid ((cell_of_row w2 b 0 _ _ _ hk2).trans rfl)
  clear hb hw2 hk2 HL1
  have hS : Below w2.heap.size w2 w2.drew := (Below.refl _ _).drew
  by_cases hcmp : lq = lv + 1
  · have hcb : ((lq : Int) == (lv : Int) + 1) = true := by simp only [beq_iff_eq]; omega
    refine held_start (fun W : World => Below w2.heap.size w2 W) (by kernel_rfl) ?_
    refine held_take 0 (.pointer (some ⟨b, 0, none⟩)) rfl (by kernel_rfl) (by kernel_rfl) (by kernel_rfl) (fun _ _ _ h => h) (by kernel_rfl) (fun W hW => by kernel_rfl) (hS) ?_
    refine held_take 1 (.int .i32 (lq : Int)) rfl (by kernel_rfl) (by kernel_rfl) (by kernel_rfl) (fun _ _ _ h => h) (by kernel_rfl) (fun W hW => y_load (sv := .pointer (some ⟨b, 0, none⟩)) rfl (by kernel_rfl) (l_i32 _ _ _ _ (cell_to B0.out hW))) (hS) ?_
    refine held_take 2 (.pointer (some ⟨gb, 0, none⟩)) rfl (by kernel_rfl) (by kernel_rfl) (by kernel_rfl) (fun _ _ _ h => h) (by kernel_rfl) (fun W hW => by kernel_rfl) (hS) ?_
    refine held_take 3 (.pointer (some ⟨gb, 0, none⟩)) rfl (by kernel_rfl) (by kernel_rfl) (by kernel_rfl) (fun _ _ _ h => h) (by kernel_rfl) (fun W hW => by kernel_rfl) (hS) ?_
    refine held_take 4 (.pointer (some ⟨gb, 0, none⟩)) rfl (by kernel_rfl) (by kernel_rfl) (by kernel_rfl) (fun _ _ _ h => h) (by kernel_rfl) (fun W hW => by kernel_rfl) (hS) ?_
    refine held_take 5 (.slice (some ⟨sb, 0, none⟩) n K) rfl (by kernel_rfl) (by kernel_rfl) (by kernel_rfl) (fun _ _ _ h => h) (by kernel_rfl) (fun W hW => y_load (sv := .pointer (some ⟨gb, 0, none⟩)) rfl (by kernel_rfl) (l_sl _ _ _ _ _ _ (cell_to (cell_to HC.out.1 L2.out) hW))) (hS) ?_
    refine held_take 6 (.int .i32 (v : Int)) rfl (by kernel_rfl) (by kernel_rfl) (by kernel_rfl) (fun _ _ _ h => h) (by kernel_rfl) (fun W hW => by kernel_rfl) (hS) ?_
    refine held_take 7 (.pointer (some ⟨sb, v * 4, none⟩)) rfl (by kernel_rfl) (by kernel_rfl) (by kernel_rfl) (fun _ _ _ h => h) (by kernel_rfl) (fun W hW => y_index (sv := .slice (some ⟨sb, 0, none⟩) n K) (iv := .int .i32 (v : Int)) rfl (by kernel_rfl) (by kernel_rfl) (at_st W sb n K v hvC)) (hS) ?_
    refine held_take 8 (.pointer (some ⟨sb, v * 4, none⟩)) rfl (by kernel_rfl) (by kernel_rfl) (by kernel_rfl) (fun _ _ _ h => h) (by kernel_rfl) (fun W hW => by kernel_rfl) (hS) ?_
    refine held_take 9 (.int .i32 (lv : Int)) rfl (by kernel_rfl) (by kernel_rfl) (by kernel_rfl) (fun _ _ _ h => h) (by kernel_rfl) (fun W hW => y_load (sv := .pointer (some ⟨sb, v * 4, none⟩)) rfl (by kernel_rfl) (l_i32 _ _ _ _ (cell_to (cell_to HC.out.2.2.2.2.1 L2.out) hW))) (hS) ?_
    refine held_take 10 (.int .i32 ((lv : Int) + 1)) rfl (by kernel_rfl) (by kernel_rfl) (by kernel_rfl) (fun _ _ _ h => h) (by kernel_rfl) (fun W hW => y_bin (x := .int .i32 (lv : Int)) (y := .int .i32 1) rfl (by kernel_rfl) (by kernel_rfl) rfl (add1_i32 W lv (by omega))) (hS) ?_
    refine held_take 11 (.bool true) rfl (by kernel_rfl) (by kernel_rfl) (by kernel_rfl) (fun _ _ _ h => h) (by kernel_rfl) (fun W hW => y_bin (x := .int .i32 (lq : Int)) (y := .int .i32 ((lv : Int) + 1)) rfl (by kernel_rfl) (by kernel_rfl) rfl (eql_i32 W _ _ _ hcb)) (hS) ?_
    refine held_done _ (by kernel_rfl) ?_
    go_simp
    have HFin : Hid (ApPost B gb sb K p A c w (.returned (.int .i32 (q : Int))) w2.drew) := Lib.hid (by
      have hws : A.W q = A.W v ++ [c] := by
        have h1 := HGd.out.of_suffix HQ.out
        refine (h1.eq_of_length ?_).symm
        rw [← HLq.out, hcmp, HLv.out]; simp
      refine ⟨q, C, A1, own, eb, Ke, rfl, HG.out.below (L2.out.drew) (Nat.le_refl _), (L2.out.drew).mono (by have := HG.out.lt; have := HG.out.hB; omega), HRp.out, by rw [HM.out.n]; omega, by rw [HM.out.n]; omega, by rw [HM.out.n]; have := HqA.out; omega, HM.out.Wn, ?_⟩
      exact (HM.out.whole).good HGd.out HL.out HqA.out hws)
    clear hS hcb hcmp
    go_wp2
    go_ret
    exact HFin.out
  · have hcb : ((lq : Int) == (lv : Int) + 1) = false := by simp only [beq_eq_false_iff_ne, ne_eq]; omega
    refine held_start (fun W : World => Below w2.heap.size w2 W) (by kernel_rfl) ?_
    refine held_take 0 (.pointer (some ⟨b, 0, none⟩)) rfl (by kernel_rfl) (by kernel_rfl) (by kernel_rfl) (fun _ _ _ h => h) (by kernel_rfl) (fun W hW => by kernel_rfl) (hS) ?_
    refine held_take 1 (.int .i32 (lq : Int)) rfl (by kernel_rfl) (by kernel_rfl) (by kernel_rfl) (fun _ _ _ h => h) (by kernel_rfl) (fun W hW => y_load (sv := .pointer (some ⟨b, 0, none⟩)) rfl (by kernel_rfl) (l_i32 _ _ _ _ (cell_to B0.out hW))) (hS) ?_
    refine held_take 2 (.pointer (some ⟨gb, 0, none⟩)) rfl (by kernel_rfl) (by kernel_rfl) (by kernel_rfl) (fun _ _ _ h => h) (by kernel_rfl) (fun W hW => by kernel_rfl) (hS) ?_
    refine held_take 3 (.pointer (some ⟨gb, 0, none⟩)) rfl (by kernel_rfl) (by kernel_rfl) (by kernel_rfl) (fun _ _ _ h => h) (by kernel_rfl) (fun W hW => by kernel_rfl) (hS) ?_
    refine held_take 4 (.pointer (some ⟨gb, 0, none⟩)) rfl (by kernel_rfl) (by kernel_rfl) (by kernel_rfl) (fun _ _ _ h => h) (by kernel_rfl) (fun W hW => by kernel_rfl) (hS) ?_
    refine held_take 5 (.slice (some ⟨sb, 0, none⟩) n K) rfl (by kernel_rfl) (by kernel_rfl) (by kernel_rfl) (fun _ _ _ h => h) (by kernel_rfl) (fun W hW => y_load (sv := .pointer (some ⟨gb, 0, none⟩)) rfl (by kernel_rfl) (l_sl _ _ _ _ _ _ (cell_to (cell_to HC.out.1 L2.out) hW))) (hS) ?_
    refine held_take 6 (.int .i32 (v : Int)) rfl (by kernel_rfl) (by kernel_rfl) (by kernel_rfl) (fun _ _ _ h => h) (by kernel_rfl) (fun W hW => by kernel_rfl) (hS) ?_
    refine held_take 7 (.pointer (some ⟨sb, v * 4, none⟩)) rfl (by kernel_rfl) (by kernel_rfl) (by kernel_rfl) (fun _ _ _ h => h) (by kernel_rfl) (fun W hW => y_index (sv := .slice (some ⟨sb, 0, none⟩) n K) (iv := .int .i32 (v : Int)) rfl (by kernel_rfl) (by kernel_rfl) (at_st W sb n K v hvC)) (hS) ?_
    refine held_take 8 (.pointer (some ⟨sb, v * 4, none⟩)) rfl (by kernel_rfl) (by kernel_rfl) (by kernel_rfl) (fun _ _ _ h => h) (by kernel_rfl) (fun W hW => by kernel_rfl) (hS) ?_
    refine held_take 9 (.int .i32 (lv : Int)) rfl (by kernel_rfl) (by kernel_rfl) (by kernel_rfl) (fun _ _ _ h => h) (by kernel_rfl) (fun W hW => y_load (sv := .pointer (some ⟨sb, v * 4, none⟩)) rfl (by kernel_rfl) (l_i32 _ _ _ _ (cell_to (cell_to HC.out.2.2.2.2.1 L2.out) hW))) (hS) ?_
    refine held_take 10 (.int .i32 ((lv : Int) + 1)) rfl (by kernel_rfl) (by kernel_rfl) (by kernel_rfl) (fun _ _ _ h => h) (by kernel_rfl) (fun W hW => y_bin (x := .int .i32 (lv : Int)) (y := .int .i32 1) rfl (by kernel_rfl) (by kernel_rfl) rfl (add1_i32 W lv (by omega))) (hS) ?_
    refine held_take 11 (.bool false) rfl (by kernel_rfl) (by kernel_rfl) (by kernel_rfl) (fun _ _ _ h => h) (by kernel_rfl) (fun W hW => y_bin (x := .int .i32 (lq : Int)) (y := .int .i32 ((lv : Int) + 1)) rfl (by kernel_rfl) (by kernel_rfl) rfl (eql_i32 W _ _ _ hcb)) (hS) ?_
    refine held_done _ (by kernel_rfl) ?_
    go_simp
    clear hS hcb
    have hlt : lv + 1 < lq := by
      have := HQ.out.2.1
      rw [← HLq.out, List.length_append, List.length_singleton, ← HLv.out] at this
      omega
    have HLt := Lib.hid hlt
    obtain ⟨w3, hw3⟩ : ∃ w3, w3 = w2.drew := ⟨_, rfl⟩
    have L3 : Hid (Below w.heap.size w w3) := Lib.hid (by rw [hw3]; exact L2.out.drew)
    have hk3 : w3.heap[b]? = some (.cells #[.int .i32 (lq : Int), .int .i32 (fq : Int), .int .i32 wq, .int .i32 (eq : Int)] 91 (0, 0)) := by rw [hw3]; exact HK2.out
    have k0 : w3.cell? ⟨b, 0, none⟩ = some (.int .i32 (lq : Int)) := (cell_of_row w3 b 0 _ _ _ hk3).trans rfl
    have k1 : w3.cell? ⟨b, 1, none⟩ = some (.int .i32 (fq : Int)) := (cell_of_row w3 b 1 _ _ _ hk3).trans rfl
    have k2 : w3.cell? ⟨b, 2, none⟩ = some (.int .i32 wq) := (cell_of_row w3 b 2 _ _ _ hk3).trans rfl
    have k3 : w3.cell? ⟨b, 3, none⟩ = some (.int .i32 (eq : Int)) := (cell_of_row w3 b 3 _ _ _ hk3).trans rfl
    have f0 := frozen_of (i := 0) hk3
    have f3 := frozen_of (i := 3) hk3
    have g0 := cell_to HC.out.1 L3.out
    have v0 := cell_to HC.out.2.2.2.2.1 L3.out
    have hvI : (v : Int) < (n : Int) := by omega
    have nb : sb ≠ b := by have := HG.out.lt; have := Hb.out; omega
    have HBl : Hid (∀ W, W = (w3.setCell ⟨b, 0, none⟩ (.int .i32 ((lv : Int) + 1))).setCell ⟨b, 3, none⟩ (.int .i32 0) → Below w.heap.size w W) := Lib.hid fun W hW => by
      rw [hW]
      exact L3.out.trans ⟨rfl, rfl, rfl, by rw [size_setCell, size_setCell]; exact Nat.le_refl _, fun k hk => by rw [setCell_other _ _ _ _ _ (by have := Hb.out; omega), setCell_other _ _ _ _ _ (by have := Hb.out; omega)]⟩
    have HPut : Hid (∀ W, Below w.heap.size w W → Calls Try.prog 47 #[.pointer (some ⟨gb, 0, none⟩), .agg #[.int .i32 ((lv : Int) + 1), .int .i32 (fq : Int), .int .i32 wq, .int .i32 0]] W (PutPost B gb sb K eb Ke (C.put ⟨lv + 1, fq, wq, 0⟩) (.int .i32 (n : Int)) W)) := Lib.hid fun W hW => by
      have := put_any (HG.out.below hW (Nat.le_refl _)) ⟨lv + 1, fq, wq, 0⟩ HK.out (by have := HsL.out; omega)
      rw [← Hn.out] at this
      exact this
    rw [← hw3]
    clear hk3 hw3 hlt
    go_wp2_with fail
    refine (HPut.out _ (HBl.out _ rfl)).mono ?_
    rintro e4 w4 ⟨rfl, hg4, hb4⟩
    have L4 : Hid (Below B w w4) := Lib.hid (((HBl.out _ rfl).mono (by have := HG.out.lt; have := HG.out.hB; omega)).trans hb4)
    have HG4 := Lib.hid hg4
    clear hg4 hb4 HPut HBl k0 k1 k2 k3 f0 f3 g0 v0 nb L3
    have R4 : Hid (Rep (C.put ⟨lv + 1, fq, wq, 0⟩) (A1.put (A.W v ++ [c]) (A.fin q) (A.link q)) own) := Lib.hid (by
      refine HRp.out.put (by simp; exact HLv.out) ?_ ?_ rfl
      · show fq = A.fin q
        rw [HEq.out.1, HSq.out.2.1, HM.out.fin q HqA.out]
      · show wq = lnkI (A.link q)
        rw [HEq.out.2.1, HSq.out.2.2, HM.out.link q HqA.out])
    have hq0 : q ≠ 0 := by
      rintro rfl
      have := HLq.out
      rw [HGd.out.w0] at this
      simp at this
      have := HLt.out
      omega
    have P4 : Hid (Cop p A c (A.W v ++ [c]) v q (A1.put (A.W v ++ [c]) (A.fin q) (A.link q))) := Lib.hid (HM.out.cop _)
    have hqs : (C.put ⟨lv + 1, fq, wq, 0⟩).s q = C.s q := s_put (by have := Hn.out; omega)
    have K4 : Hid (Copied (C.put ⟨lv + 1, fq, wq, 0⟩) (A1.put (A.W v ++ [c]) (A.fin q) (A.link q)) (A.n + 1) q eq) := Lib.hid (by
      have := Copied.start (C := C.put ⟨lv + 1, fq, wq, 0⟩) (B := A1.put (A.W v ++ [c]) (A.fin q) (A.link q)) (S := A.n + 1) (q := q) hq0 (fun d => by unfold Au.put; simp only; rw [if_pos HM.out.n.symm])
      rw [hqs, ← HEq.out.2.2] at this
      exact this)
    obtain ⟨C4, hC4⟩ : ∃ C4, C4 = C.put ⟨lv + 1, fq, wq, 0⟩ := ⟨_, rfl⟩
    obtain ⟨A4, hA4⟩ : ∃ A4, A4 = A1.put (A.W v ++ [c]) (A.fin q) (A.link q) := ⟨_, rfl⟩
    rw [← hC4] at HG4 R4 hqs K4
    rw [← hA4] at R4 P4 K4
    have hn4 : C4.st.length = n + 1 := by rw [hC4]; unfold Cg.put; simp; exact Hn.out.symm
    have HN4 := Lib.hid hn4
    have hqs4 := hqs
    have HOwn : Hid (eq < C4.ed.length ∧ (eq ≠ 0 → own eq = q)) := Lib.hid (by
      have he4 : (C4.s q).edge = eq := by rw [hqs4]; exact HEq.out.2.2.symm
      refine ⟨by rw [← he4]; exact R4.out.edge q (by rw [hn4]; omega), fun h0 => ?_⟩
      have := R4.out.o1 q (by rw [hn4]; omega) hq0 (by rw [he4]; exact h0)
      rw [he4] at this; exact this)
    have c0 := HG4.out.g0
    have c3 := HG4.out.s3 (v := q) (by rw [hn4]; omega)
    rw [hn4] at c0
    rw [hqs4, ← HEq.out.2.2] at c3
    have hqI : (q : Int) < ((n + 1 : Nat) : Int) := by omega
    have HQ0 := Lib.hid hq0
    clear hC4 hA4 hqs hqs4 hn4 hq0
    go_wp2_with fail
    have hnA : A.n + 1 = n := by have := R4.out.n; have := P4.out.n; have := HN4.out; omega
    rw [hnA] at K4
    have HnA := Lib.hid hnA
    clear hnA c0 c3 hqI
    go_loopw [11] (fun v11 wr => ∃ (e3 : Nat) (C3 : Cg) (A3 : Au) (own3 : Nat → Nat) (eb3 Ke3 : Nat), v11 = .int .i32 (e3 : Int) ∧ Hid (C3.st.length = n + 1) ∧ Hid (e3 < C3.ed.length ∧ (e3 ≠ 0 → own3 e3 = q)) ∧ Hid (GrM wr B gb sb K eb3 Ke3 C3) ∧ Hid (Below B w wr) ∧ Hid (Rep C3 A3 own3) ∧ Hid (Cop p A c (A.W v ++ [c]) v q A3) ∧ Hid (Copied C3 A3 n q e3)) (fun v11 _ => (intOf v11).toNat)
    case atStart => exact ⟨eq, C4, A4, own, eb, Ke, rfl, HN4, HOwn, HG4, L4, R4, P4, K4⟩
    case round =>
      obtain ⟨e3, C3, A3, own3, eb3, Ke3, rfl, Hn3, HO3, HG3, L3, HR3, HP3, HK3⟩ := hrel
      clear HN4 HOwn HG4 L4 R4 P4 K4
      by_cases h0 : e3 = 0
      · subst h0
        have hQn : q < C3.st.length := by have := Hn3.out; omega
        obtain ⟨w5, hw5⟩ : ∃ w5, w5 = wr := ⟨_, rfl⟩
        rw [← hw5] at HG3 L3 ⊢
        clear hw5
        have c0 := HG3.out.g0
        have c2 := HG3.out.s2 hQn
        obtain ⟨curS, _, _, hsS, _⟩ := HG3.out.st.blk
        have f2 := frozen_of (i := q * 4 + 2) hsS
        rw [Hn3.out] at c0
        have hqI : (q : Int) < ((n + 1 : Nat) : Int) := by omega
        have hqI' : (q : Int) < (n : Int) + 1 := by omega
        have HR6 : Hid (Rep (C3.wide q n) (A3.wide q (some n)) own3) := Lib.hid (by
          have := HR3.out.wide (v := q) (by rw [← HR3.out.n]; exact hQn) (some n)
          exact this)
        have HP6 : Hid (Red p A c (A.W v ++ [c]) q (some v) (A3.wide q (some n))) := Lib.hid (by
          have := HP3.out.red rfl HvA.out HVS.out HqA.out (fun d => by
            have := HK3.out.done HR3.out (by rw [← HR3.out.n]; exact hQn) d
            rw [HnA.out]; exact this)
          rw [HnA.out] at this; exact this)
        have HB6 : Hid (∀ W, W = w5.setCell ⟨sb, q * 4 + 2, none⟩ (.int .i32 (n : Int)) → GrM W B gb sb K eb3 Ke3 (C3.wide q n) ∧ Below B w W) := Lib.hid fun W hW => by
          have h := HG3.out
          refine ⟨⟨?_, ?_, ?_, h.n1, h.n2, h.n3, h.hB, h.bs, h.be⟩, ?_⟩
          · rw [hW, setCell_other _ _ _ _ _ h.n1, h.g]
            unfold grC Cg.wide; simp
          · rw [hW]
            have := h.st.setCell stC_len (Cg.s_get hQn) (i := 2) (by decide) (u := .int .i32 (n : Int)) (y := { C3.s q with wider := (n : Int) }) rfl
            have e : (C3.wide q n).st.length = C3.st.length := wide_len
            rw [e]
            exact this
          · rw [hW]; exact h.ed.other (setCell_other _ _ _ _ _ (fun e => h.n3 e.symm))
          · rw [hW]
            refine L3.out.trans ⟨rfl, rfl, rfl, by rw [size_setCell]; exact Nat.le_refl _, fun k hk => setCell_other _ _ _ _ _ (by have := h.bs; omega)⟩
        have HN6 : Hid ((C3.wide q n).st.length = n + 1) := Lib.hid (by rw [wide_len]; exact Hn3.out)
        clear hsS hQn HK3 HO3
        go_wp2_with fail
        obtain ⟨w6, hw6⟩ : ∃ w6, w6 = w5.setCell ⟨sb, q * 4 + 2, none⟩ (.int .i32 (n : Int)) := ⟨_, rfl⟩
        have hb6 := HB6.out w6 hw6
        rw [← hw6]
        have HG6 := Lib.hid hb6.1; have L6 := Lib.hid hb6.2
        obtain ⟨C6, hC6⟩ : ∃ C6, C6 = C3.wide q n := ⟨_, rfl⟩
        obtain ⟨A6, hA6⟩ : ∃ A6, A6 = A3.wide q (some n) := ⟨_, rfl⟩
        rw [← hC6] at HR6 HG6 HN6
        rw [← hA6] at HR6 HP6
        clear hb6 hw6 HB6 HG3 L3 HR3 HP3 c0 c2 f2 hqI hqI' hC6 hA6 Hn3
        go_loopw [1, 12] (fun v1 _ wr => ∃ (y : Option Nat) (C7 : Cg) (A7 : Au) (own7 : Nat → Nat) (eb7 Ke7 : Nat), v1 = .int .i32 (lnkI y) ∧ Hid (C7.st.length = n + 1) ∧ Hid (GrM wr B gb sb K eb7 Ke7 C7) ∧ Hid (Below B w wr) ∧ Hid (Rep C7 A7 own7) ∧ Hid (Red p A c (A.W v ++ [c]) q y A7)) (fun v1 _ _ => muA A v1)
        case atStart => exact ⟨some v, C6, A6, own3, eb3, Ke3, rfl, HN6, HG6, L6, HR6, HP6⟩
        case round =>
          obtain ⟨y, C7, A7, own7, eb7, Ke7, rfl, Hn7, HG7, L7, HR7, HP7⟩ := hrel
          clear HN6 HG6 L6 HR6 HP6
          have HEnd : Hid (Split p A c (A.W v ++ [c]) q (A7.wide A.n (some n)) → ApPost B gb sb K p A c w (.returned (.int .i32 (n : Int))) wr) := Lib.hid fun hsp => by
            have e1 := HP7.out.n
            have e2 := HnA.out
            refine ⟨n, C7, A7, own7, eb7, Ke7, rfl, HG7.out, L7.out, HR7.out, by omega, by omega, by omega, HP7.out.Wn, ?_⟩
            refine hsp.good HGd.out HL.out HQ.out ?_
            rw [List.length_append, List.length_singleton, ← HLv.out, ← HLq.out]; exact HLt.out
          rcases y with _ | y0
          · have hpost := Lib.hid (HEnd.out (by have := HP7.out.done HqA.out; rw [HnA.out] at this; exact this))
            rw [show lnkI none = -1 from rfl]
            clear HEnd
            go_wp2
            go_ret
            exact hpost.out
          · rw [show lnkI (some y0) = (y0 : Int) from rfl]
            obtain ⟨hy1, hy2, hy3⟩ := HP7.out.on y0 rfl
            have hyA7 : y0 < A7.n := by have := HP7.out.n; omega
            have hyC : y0 < C7.st.length := by rw [HR7.out.n]; exact hyA7
            obtain ⟨r, hr, hrl⟩ := HR7.out.toWf.edgeAt hyC c
            have hδ := HR7.out.δ y0 c r hyA7 hr
            have hyet : A7.δ y0 c = A.δ y0 c := HP7.out.yet y0 y0 hy1 hy2 hy3 rfl (Nat.le_refl _)
            have hocc : A.δ y0 c ≠ none := fun h => HGd.out.stuck (Good.of_self hy1) h (HL.out.occ.suffix (HL.out.below hy2 hy3))
            have hr0 : r ≠ 0 := by
              rintro rfl
              rw [if_pos rfl, hyet] at hδ
              exact hocc hδ
            rw [if_neg hr0, hyet] at hδ
            have hyq : y0 ≠ q := by
              rintro rfl
              have h1 := HLq.out
              have h2 := HLt.out
              rw [List.length_append, List.length_singleton, ← HLv.out, ← h1] at hy3
              omega
            have HE := Lib.hid (edge_any HG7.out HR7.out.toWf hyC c hr)
            obtain ⟨t7, ht7⟩ : ∃ t, t = (C7.e r).to := ⟨_, rfl⟩
            obtain ⟨m7, hm7⟩ : ∃ m, m = C7.ed.length := ⟨_, rfl⟩
            obtain ⟨l7, hl7⟩ : ∃ l, l = lnkI (A.link y0) := ⟨_, rfl⟩
            have c1 := HG7.out.g1
            have ce := HG7.out.e1 hrl
            rw [← ht7] at ce hδ
            rw [← hm7] at c1 hrl
            have b0 : ((y0 : Int) != -1) = true := by simp only [bne_iff_ne, ne_eq]; omega
            have hrI : (r : Int) < (m7 : Int) := by omega
            by_cases ht : t7 = q
            · have b1 : ((t7 : Int) != (q : Int)) = false := by simp only [bne_eq_false_iff_eq]; omega
              have hd : A.δ y0 c = some q := by rw [← ht]; exact hδ
              have HR8 : Hid (Rep (C7.turn r n) (A7.edge y0 c n) own7) := Lib.hid (HR7.out.turn hyA7 (by have := HP7.out.n; have := HnA.out; omega) hr hr0)
              have HP8 : Hid (Red p A c (A.W v ++ [c]) q (A.link y0) (A7.edge y0 c n)) := Lib.hid (by
                have := HP7.out.next HGd.out (by rw [List.length_append, List.length_singleton, ← HLv.out, ← HLq.out]; exact HLt.out) hd
                rw [HnA.out] at this; exact this)
              have HN8 : Hid ((C7.turn r n).st.length = n + 1) := Hn7
              have HB8 : Hid (∀ W, W = wr.setCell ⟨eb7, r * 3 + 1, none⟩ (.int .i32 (n : Int)) → GrM W B gb sb K eb7 Ke7 (C7.turn r n) ∧ Below B w W) := Lib.hid fun W hW => by
                have h := HG7.out
                refine ⟨⟨?_, ?_, ?_, h.n1, h.n2, h.n3, h.hB, h.bs, h.be⟩, ?_⟩
                · rw [hW, setCell_other _ _ _ _ _ h.n2, h.g]
                  unfold grC Cg.turn; simp
                · rw [hW]; exact h.st.other (setCell_other _ _ _ _ _ h.n3)
                · rw [hW]
                  have := h.ed.setCell edC_len (Cg.e_get (by rw [← hm7]; exact hrl)) (i := 1) (by decide) (u := .int .i32 (n : Int)) (y := { C7.e r with to := n }) rfl
                  have e : (C7.turn r n).ed.length = C7.ed.length := by unfold Cg.turn; simp
                  rw [e]
                  exact this
                · rw [hW]
                  refine L7.out.trans ⟨rfl, rfl, rfl, by rw [size_setCell]; exact Nat.le_refl _, fun k hk => setCell_other _ _ _ _ _ (by have := h.be; omega)⟩
              have c0 := HG7.out.g0
              have c2 := HG7.out.s2 hyC
              have hw2 : (C7.s y0).wider = l7 := by rw [(HR7.out.s y0 hyA7).2.2, HP7.out.link y0 hy1 hyq, hl7]
              rw [Hn7.out] at c0
              rw [hw2] at c2
              have hyI : (y0 : Int) < ((n + 1 : Nat) : Int) := by have := Hn7.out; omega
              have hyI' : (y0 : Int) < (n : Int) + 1 := by omega
              have k2 := HG7.out.n2
              have k3 := HG7.out.n3
              obtain ⟨curE, _, _, hsE, _⟩ := HG7.out.ed.blk
              have fe := frozen_of (i := r * 3 + 1) hsE
              have HMu : Hid (muA A (.int .i32 l7) < muA A (.int .i32 (y0 : Int))) := Lib.hid (by
                rw [hl7]; exact mu_lt fun x hx => (HGd.out.chain hy1 hy2 hx).2.1)
              have Hl7 := Lib.hid hl7
              clear HEnd hδ hyet hocc hr0 hyq ht7 hm7 hl7 hd hw2 hsE hy1 hy2 hy3 hyA7 hyC hr
              go_wp2_with fail
              refine HE.out.mono ?_
              intro e9 w9 hh
              rw [hh.1, ← hh.2]
              clear hh w9 e9
              go_wp2_with fail
              obtain ⟨w8, hw8⟩ : ∃ w8, w8 = wr.setCell ⟨eb7, r * 3 + 1, none⟩ (.int .i32 (n : Int)) := ⟨_, rfl⟩
              have hb8 := HB8.out w8 hw8
              have HG8 := Lib.hid hb8.1; have L8 := Lib.hid hb8.2
              rw [← hw8]
              clear hb8 HB8 hw8
              go_roundw
              case rel => exact ⟨A.link y0, C7.turn r n, A7.edge y0 c n, own7, eb7, Ke7, by rw [Hl7.out], HN8, HG8, L8, HR8, HP8⟩
              case measure => exact HMu.out
            · have b1 : ((t7 : Int) != (q : Int)) = true := by simp only [bne_iff_ne, ne_eq]; omega
              have hpost := Lib.hid (HEnd.out (by
                have := HP7.out.stop HGd.out HL.out HQ.out (by rw [hδ]; intro h; cases h; exact ht rfl)
                rw [HnA.out] at this; exact this))
              clear HEnd hδ hyet hocc hr0 hyq ht7 hm7 hl7 hy1 hy2 hy3 hyA7 hyC hr
              go_wp2_with fail
              refine HE.out.mono ?_
              intro e9 w9 hh
              rw [hh.1, ← hh.2]
              clear hh w9 e9
              go_wp2
              go_ret
              exact hpost.out
      · obtain ⟨m3, hm3⟩ : ∃ m3, m3 = C3.ed.length := ⟨_, rfl⟩
        obtain ⟨by3, hby⟩ : ∃ x, x = (C3.e e3).by_ := ⟨_, rfl⟩
        obtain ⟨to3, hto⟩ : ∃ x, x = (C3.e e3).to := ⟨_, rfl⟩
        obtain ⟨ot3, hot⟩ : ∃ x, x = (C3.e e3).other := ⟨_, rfl⟩
        have hem : e3 < m3 := by rw [hm3]; exact HO3.out.1
        have hlen := Hn3.out
        have hoth := HR3.out.other e3 (by omega) HO3.out.1
        have hnn : n < A3.n := by have := HP3.out.n; have := HnA.out; omega
        have hqn : q < A3.n := by have := HqA.out; have := HnA.out; omega
        have hat := HK3.out.at_ HR3.out HO3.out.1 h0 (HO3.out.2 h0)
        have HD1 : Hid (wr.drew.cell? ⟨gb, 1, none⟩ = some (.slice (some ⟨eb3, 0, none⟩) m3 Ke3)) := Lib.hid (by rw [hm3]; exact HG3.out.g1)
        have HD2 : Hid (wr.drew.cell? ⟨eb3, e3 * 3, none⟩ = some (.int .u8 (by3.toNat : Int))) := Lib.hid (by rw [hby]; exact HG3.out.e0 HO3.out.1)
        have HD3 : Hid (wr.drew.cell? ⟨eb3, e3 * 3 + 1, none⟩ = some (.int .i32 (to3 : Int))) := Lib.hid (by rw [hto]; exact HG3.out.e1 HO3.out.1)
        obtain ⟨C5, hC5⟩ : ∃ C5, C5 = C3.join n by3 to3 := ⟨_, rfl⟩
        obtain ⟨A5, hA5⟩ : ∃ A5, A5 = A3.edge n by3 to3 := ⟨_, rfl⟩
        obtain ⟨own5, hown5⟩ : ∃ o, o = ownJ C3 own3 n := ⟨_, rfl⟩
        have HR5 : Hid (Rep C5 A5 own5) := Lib.hid (by
          rw [hC5, hA5, hown5]
          refine HR3.out.join hnn ?_ ?_
          · rw [hto, ← HR3.out.n]; exact hoth.2
          · rw [hby]; exact hat.2)
        have HP5 : Hid (Cop p A c (A.W v ++ [c]) v q A5) := Lib.hid (by
          have := HP3.out.edge (t := to3) (d := by3)
          rw [HnA.out] at this
          rw [hA5]; exact this)
        have HK5 : Hid (Copied C5 A5 n q ot3) := Lib.hid (by
          have := HK3.out.next HR3.out hqn hnn (by have := HqA.out; have := HnA.out; omega) HO3.out.1 h0 (HO3.out.2 h0)
          rw [← hby, ← hto, ← hot] at this
          rw [hC5, hA5]; exact this)
        have hn5 : Hid (C5.st.length = n + 1) := Lib.hid (by rw [hC5, join_len]; exact hlen)
        have HO5 : Hid (ot3 < C5.ed.length ∧ (ot3 ≠ 0 → own5 ot3 = q)) := Lib.hid (by
          rw [← hot] at hoth
          refine ⟨by rw [hC5, join_ed]; omega, fun hne => ?_⟩
          rw [hown5]
          unfold ownJ
          rw [if_neg (by omega), hot, HR3.out.o2 e3 (by omega) HO3.out.1 (by rw [← hot]; exact hne)]
          exact HO3.out.2 h0)
        have hol : ot3 < e3 := by rw [hot]; exact hoth.1
        have HJ : Hid (Calls Try.prog 55 #[.pointer (some ⟨gb, 0, none⟩), .int .i32 (n : Int), .int .u8 (by3.toNat : Int), .int .i32 (to3 : Int)] wr.drew fun e w' => e = .returned (.tuple #[]) ∧ ∃ eb5 Ke5, w'.cell? ⟨gb, 1, none⟩ = some (.slice (some ⟨eb5, 0, none⟩) (m3 + 1) Ke5) ∧ w'.cell? ⟨eb5, e3 * 3 + 2, none⟩ = some (.int .i32 (ot3 : Int)) ∧ Hid (GrM w' B gb sb K eb5 Ke5 C5) ∧ Hid (Below B w w')) := Lib.hid (by
          have hG := HG3.out.below ((Below.refl wr.heap.size wr).drew) (Nat.le_refl _)
          refine (join_any hG (v := n) (by rw [hlen]; omega) by3 to3 (by have := HR3.out.few; have := HsL.out; have := Hn.out; omega)).mono ?_
          rintro e5 w5 ⟨h1, eb5, Ke5, h2, h3⟩
          rw [← hC5] at h2
          refine ⟨h1, eb5, Ke5, ?_, ?_, Lib.hid h2, Lib.hid ((L3.out.drew).trans h3)⟩
          · have := h2.g1
            rw [show C5.ed.length = m3 + 1 by rw [hC5, join_ed, hm3]] at this; exact this
          · have := h2.e2 (e := e3) (by rw [hC5, join_ed]; have := HO3.out.1; omega)
            rw [show (C5.e e3).other = ot3 by rw [hC5, e_join HO3.out.1, hot]] at this; exact this)
        have b1 : ((e3 : Int) != 0) = true := by simp only [bne_iff_ne, ne_eq]; omega
        have hen : ¬ (e3 : Int) = 0 := by omega
        have hemI : (e3 : Int) < ((m3 + 1 : Nat) : Int) := by omega
        have hemI' : (e3 : Int) < (m3 : Int) + 1 := by omega
        clear hm3 hby hto hot hC5 hA5 hown5 hoth hat hlen hnn hqn h0
        go_upto_region 11 with fail
        refine held_start (fun _ : World => True) (by kernel_rfl) ?_
        refine held_take 0 (.pointer (some ⟨gb, 0, none⟩)) rfl (by kernel_rfl) (by kernel_rfl) (by kernel_rfl) (fun _ _ _ h => h) (by kernel_rfl) (fun W hW => by kernel_rfl) (trivial) ?_
        refine held_take 1 (.int .i32 (n : Int)) rfl (by kernel_rfl) (by kernel_rfl) (by kernel_rfl) (fun _ _ _ h => h) (by kernel_rfl) (fun W hW => by kernel_rfl) (trivial) ?_
        refine held_take 2 (.pointer (some ⟨gb, 0, none⟩)) rfl (by kernel_rfl) (by kernel_rfl) (by kernel_rfl) (fun _ _ _ h => h) (by kernel_rfl) (fun W hW => by kernel_rfl) (trivial) ?_
        refine held_take 3 (.pointer (some ⟨gb, 0, none⟩)) rfl (by kernel_rfl) (by kernel_rfl) (by kernel_rfl) (fun _ _ _ h => h) (by kernel_rfl) (fun W hW => by kernel_rfl) (trivial) ?_
        refine held_take 4 (.pointer (some ⟨gb, 1, none⟩)) rfl (by kernel_rfl) (by kernel_rfl) (by kernel_rfl) (fun _ _ _ h => h) (by kernel_rfl) (fun W hW => by kernel_rfl) (trivial) ?_
        refine held_take 6 (.int .i32 (e3 : Int)) rfl (by kernel_rfl) (by kernel_rfl) (by kernel_rfl) (fun _ _ _ h => h) (by kernel_rfl) (fun W hW => by kernel_rfl) (trivial) ?_
        refine held_take 10 (.pointer (some ⟨gb, 0, none⟩)) rfl (by kernel_rfl) (by kernel_rfl) (by kernel_rfl) (fun _ _ _ h => h) (by kernel_rfl) (fun W hW => by kernel_rfl) (trivial) ?_
        refine held_take 11 (.pointer (some ⟨gb, 0, none⟩)) rfl (by kernel_rfl) (by kernel_rfl) (by kernel_rfl) (fun _ _ _ h => h) (by kernel_rfl) (fun W hW => by kernel_rfl) (trivial) ?_
        refine held_take 12 (.pointer (some ⟨gb, 1, none⟩)) rfl (by kernel_rfl) (by kernel_rfl) (by kernel_rfl) (fun _ _ _ h => h) (by kernel_rfl) (fun W hW => by kernel_rfl) (trivial) ?_
        refine held_take 14 (.int .i32 (e3 : Int)) rfl (by kernel_rfl) (by kernel_rfl) (by kernel_rfl) (fun _ _ _ h => h) (by kernel_rfl) (fun W hW => by kernel_rfl) (trivial) ?_
        refine held_two (i := 5) (j := 13) (by kernel_rfl) ?_ ?_
        · refine held_op (.slice (some ⟨eb3, 0, none⟩) m3 Ke3) _ rfl (by kernel_rfl) (y_load (sv := .pointer (some ⟨gb, 1, none⟩)) rfl (by kernel_rfl) (l_el _ _ _ _ _ _ HD1.out)) (trivial) ?_
          refine held_take 7 (.pointer (some ⟨eb3, e3 * 3, none⟩)) rfl (by kernel_rfl) (by kernel_rfl) (by kernel_rfl) (fun _ _ _ h => h) (by kernel_rfl) (fun W hW => y_index (sv := .slice (some ⟨eb3, 0, none⟩) m3 Ke3) (iv := .int .i32 (e3 : Int)) rfl (by kernel_rfl) (by kernel_rfl) (at_ed W eb3 m3 Ke3 e3 hem)) (trivial) ?_
          refine held_take 8 (.pointer (some ⟨eb3, e3 * 3, none⟩)) rfl (by kernel_rfl) (by kernel_rfl) (by kernel_rfl) (fun _ _ _ h => h) (by kernel_rfl) (fun W hW => by kernel_rfl) (trivial) ?_
          refine held_two (i := 9) (j := 13) (by kernel_rfl) ?_ ?_
          · refine held_op (.int .u8 (by3.toNat : Int)) _ rfl (by kernel_rfl) (y_load (sv := .pointer (some ⟨eb3, e3 * 3, none⟩)) rfl (by kernel_rfl) (l_u8 _ _ _ _ HD2.out)) (trivial) ?_
            refine held_one (i := 13) (by kernel_rfl) ?_
            refine held_op (.slice (some ⟨eb3, 0, none⟩) m3 Ke3) _ rfl (by kernel_rfl) (y_load (sv := .pointer (some ⟨gb, 1, none⟩)) rfl (by kernel_rfl) (l_el _ _ _ _ _ _ HD1.out)) (trivial) ?_
            refine held_take 15 (.pointer (some ⟨eb3, e3 * 3, none⟩)) rfl (by kernel_rfl) (by kernel_rfl) (by kernel_rfl) (fun _ _ _ h => h) (by kernel_rfl) (fun W hW => y_index (sv := .slice (some ⟨eb3, 0, none⟩) m3 Ke3) (iv := .int .i32 (e3 : Int)) rfl (by kernel_rfl) (by kernel_rfl) (at_ed W eb3 m3 Ke3 e3 hem)) (trivial) ?_
            refine held_take 16 (.pointer (some ⟨eb3, e3 * 3 + 1, none⟩)) rfl (by kernel_rfl) (by kernel_rfl) (by kernel_rfl) (fun _ _ _ h => h) (by kernel_rfl) (fun W hW => by kernel_rfl) (trivial) ?_
            refine held_one (i := 17) (by kernel_rfl) ?_
            refine held_op (.int .i32 (to3 : Int)) _ rfl (by kernel_rfl) (y_load (sv := .pointer (some ⟨eb3, e3 * 3 + 1, none⟩)) rfl (by kernel_rfl) (l_i32 _ _ _ _ HD3.out)) (trivial) ?_
            refine held_one (i := 18) (by kernel_rfl) ?_
            refine held_call 55 #[.pointer (some ⟨gb, 0, none⟩), .int .i32 (n : Int), .int .u8 (by3.toNat : Int), .int .i32 (to3 : Int)] rfl (by kernel_rfl) (by kernel_rfl) ?_
            refine HJ.out.mono ?_
            rintro e5 w5 ⟨rfl, eb5, Ke5, c51, c52, hg5, hb5⟩
            refine ⟨.tuple #[], rfl, trivial, ?_⟩
            refine held_done _ (by kernel_rfl) ?_
            go_simp
            go_wp2
            go_roundw
            case rel => exact ⟨ot3, C5, A5, own5, eb5, Ke5, rfl, hn5, HO5, hg5, hb5, HR5, HP5, HK5⟩
            case measure => simp [intOf]; omega
          · refine held_op (.slice (some ⟨eb3, 0, none⟩) m3 Ke3) _ rfl (by kernel_rfl) (y_load (sv := .pointer (some ⟨gb, 1, none⟩)) rfl (by kernel_rfl) (l_el _ _ _ _ _ _ HD1.out)) (trivial) ?_
            refine held_take 15 (.pointer (some ⟨eb3, e3 * 3, none⟩)) rfl (by kernel_rfl) (by kernel_rfl) (by kernel_rfl) (fun _ _ _ h => h) (by kernel_rfl) (fun W hW => y_index (sv := .slice (some ⟨eb3, 0, none⟩) m3 Ke3) (iv := .int .i32 (e3 : Int)) rfl (by kernel_rfl) (by kernel_rfl) (at_ed W eb3 m3 Ke3 e3 hem)) (trivial) ?_
            refine held_take 16 (.pointer (some ⟨eb3, e3 * 3 + 1, none⟩)) rfl (by kernel_rfl) (by kernel_rfl) (by kernel_rfl) (fun _ _ _ h => h) (by kernel_rfl) (fun W hW => by kernel_rfl) (trivial) ?_
            refine held_two (i := 9) (j := 17) (by kernel_rfl) ?_ ?_
            · refine held_op (.int .u8 (by3.toNat : Int)) _ rfl (by kernel_rfl) (y_load (sv := .pointer (some ⟨eb3, e3 * 3, none⟩)) rfl (by kernel_rfl) (l_u8 _ _ _ _ HD2.out)) (trivial) ?_
              refine held_one (i := 17) (by kernel_rfl) ?_
              refine held_op (.int .i32 (to3 : Int)) _ rfl (by kernel_rfl) (y_load (sv := .pointer (some ⟨eb3, e3 * 3 + 1, none⟩)) rfl (by kernel_rfl) (l_i32 _ _ _ _ HD3.out)) (trivial) ?_
              refine held_one (i := 18) (by kernel_rfl) ?_
              refine held_call 55 #[.pointer (some ⟨gb, 0, none⟩), .int .i32 (n : Int), .int .u8 (by3.toNat : Int), .int .i32 (to3 : Int)] rfl (by kernel_rfl) (by kernel_rfl) ?_
              refine HJ.out.mono ?_
              rintro e5 w5 ⟨rfl, eb5, Ke5, c51, c52, hg5, hb5⟩
              refine ⟨.tuple #[], rfl, trivial, ?_⟩
              refine held_done _ (by kernel_rfl) ?_
              go_simp
              go_wp2
              go_roundw
              case rel => exact ⟨ot3, C5, A5, own5, eb5, Ke5, rfl, hn5, HO5, hg5, hb5, HR5, HP5, HK5⟩
              case measure => simp [intOf]; omega
            · refine held_op (.int .i32 (to3 : Int)) _ rfl (by kernel_rfl) (y_load (sv := .pointer (some ⟨eb3, e3 * 3 + 1, none⟩)) rfl (by kernel_rfl) (l_i32 _ _ _ _ HD3.out)) (trivial) ?_
              refine held_one (i := 9) (by kernel_rfl) ?_
              refine held_op (.int .u8 (by3.toNat : Int)) _ rfl (by kernel_rfl) (y_load (sv := .pointer (some ⟨eb3, e3 * 3, none⟩)) rfl (by kernel_rfl) (l_u8 _ _ _ _ HD2.out)) (trivial) ?_
              refine held_one (i := 18) (by kernel_rfl) ?_
              refine held_call 55 #[.pointer (some ⟨gb, 0, none⟩), .int .i32 (n : Int), .int .u8 (by3.toNat : Int), .int .i32 (to3 : Int)] rfl (by kernel_rfl) (by kernel_rfl) ?_
              refine HJ.out.mono ?_
              rintro e5 w5 ⟨rfl, eb5, Ke5, c51, c52, hg5, hb5⟩
              refine ⟨.tuple #[], rfl, trivial, ?_⟩
              refine held_done _ (by kernel_rfl) ?_
              go_simp
              go_wp2
              go_roundw
              case rel => exact ⟨ot3, C5, A5, own5, eb5, Ke5, rfl, hn5, HO5, hg5, hb5, HR5, HP5, HK5⟩
              case measure => simp [intOf]; omega
        · refine held_op (.slice (some ⟨eb3, 0, none⟩) m3 Ke3) _ rfl (by kernel_rfl) (y_load (sv := .pointer (some ⟨gb, 1, none⟩)) rfl (by kernel_rfl) (l_el _ _ _ _ _ _ HD1.out)) (trivial) ?_
          refine held_take 15 (.pointer (some ⟨eb3, e3 * 3, none⟩)) rfl (by kernel_rfl) (by kernel_rfl) (by kernel_rfl) (fun _ _ _ h => h) (by kernel_rfl) (fun W hW => y_index (sv := .slice (some ⟨eb3, 0, none⟩) m3 Ke3) (iv := .int .i32 (e3 : Int)) rfl (by kernel_rfl) (by kernel_rfl) (at_ed W eb3 m3 Ke3 e3 hem)) (trivial) ?_
          refine held_take 16 (.pointer (some ⟨eb3, e3 * 3 + 1, none⟩)) rfl (by kernel_rfl) (by kernel_rfl) (by kernel_rfl) (fun _ _ _ h => h) (by kernel_rfl) (fun W hW => by kernel_rfl) (trivial) ?_
          refine held_two (i := 5) (j := 17) (by kernel_rfl) ?_ ?_
          · refine held_op (.slice (some ⟨eb3, 0, none⟩) m3 Ke3) _ rfl (by kernel_rfl) (y_load (sv := .pointer (some ⟨gb, 1, none⟩)) rfl (by kernel_rfl) (l_el _ _ _ _ _ _ HD1.out)) (trivial) ?_
            refine held_take 7 (.pointer (some ⟨eb3, e3 * 3, none⟩)) rfl (by kernel_rfl) (by kernel_rfl) (by kernel_rfl) (fun _ _ _ h => h) (by kernel_rfl) (fun W hW => y_index (sv := .slice (some ⟨eb3, 0, none⟩) m3 Ke3) (iv := .int .i32 (e3 : Int)) rfl (by kernel_rfl) (by kernel_rfl) (at_ed W eb3 m3 Ke3 e3 hem)) (trivial) ?_
            refine held_take 8 (.pointer (some ⟨eb3, e3 * 3, none⟩)) rfl (by kernel_rfl) (by kernel_rfl) (by kernel_rfl) (fun _ _ _ h => h) (by kernel_rfl) (fun W hW => by kernel_rfl) (trivial) ?_
            refine held_two (i := 9) (j := 17) (by kernel_rfl) ?_ ?_
            · refine held_op (.int .u8 (by3.toNat : Int)) _ rfl (by kernel_rfl) (y_load (sv := .pointer (some ⟨eb3, e3 * 3, none⟩)) rfl (by kernel_rfl) (l_u8 _ _ _ _ HD2.out)) (trivial) ?_
              refine held_one (i := 17) (by kernel_rfl) ?_
              refine held_op (.int .i32 (to3 : Int)) _ rfl (by kernel_rfl) (y_load (sv := .pointer (some ⟨eb3, e3 * 3 + 1, none⟩)) rfl (by kernel_rfl) (l_i32 _ _ _ _ HD3.out)) (trivial) ?_
              refine held_one (i := 18) (by kernel_rfl) ?_
              refine held_call 55 #[.pointer (some ⟨gb, 0, none⟩), .int .i32 (n : Int), .int .u8 (by3.toNat : Int), .int .i32 (to3 : Int)] rfl (by kernel_rfl) (by kernel_rfl) ?_
              refine HJ.out.mono ?_
              rintro e5 w5 ⟨rfl, eb5, Ke5, c51, c52, hg5, hb5⟩
              refine ⟨.tuple #[], rfl, trivial, ?_⟩
              refine held_done _ (by kernel_rfl) ?_
              go_simp
              go_wp2
              go_roundw
              case rel => exact ⟨ot3, C5, A5, own5, eb5, Ke5, rfl, hn5, HO5, hg5, hb5, HR5, HP5, HK5⟩
              case measure => simp [intOf]; omega
            · refine held_op (.int .i32 (to3 : Int)) _ rfl (by kernel_rfl) (y_load (sv := .pointer (some ⟨eb3, e3 * 3 + 1, none⟩)) rfl (by kernel_rfl) (l_i32 _ _ _ _ HD3.out)) (trivial) ?_
              refine held_one (i := 9) (by kernel_rfl) ?_
              refine held_op (.int .u8 (by3.toNat : Int)) _ rfl (by kernel_rfl) (y_load (sv := .pointer (some ⟨eb3, e3 * 3, none⟩)) rfl (by kernel_rfl) (l_u8 _ _ _ _ HD2.out)) (trivial) ?_
              refine held_one (i := 18) (by kernel_rfl) ?_
              refine held_call 55 #[.pointer (some ⟨gb, 0, none⟩), .int .i32 (n : Int), .int .u8 (by3.toNat : Int), .int .i32 (to3 : Int)] rfl (by kernel_rfl) (by kernel_rfl) ?_
              refine HJ.out.mono ?_
              rintro e5 w5 ⟨rfl, eb5, Ke5, c51, c52, hg5, hb5⟩
              refine ⟨.tuple #[], rfl, trivial, ?_⟩
              refine held_done _ (by kernel_rfl) ?_
              go_simp
              go_wp2
              go_roundw
              case rel => exact ⟨ot3, C5, A5, own5, eb5, Ke5, rfl, hn5, HO5, hg5, hb5, HR5, HP5, HK5⟩
              case measure => simp [intOf]; omega
          · refine held_op (.int .i32 (to3 : Int)) _ rfl (by kernel_rfl) (y_load (sv := .pointer (some ⟨eb3, e3 * 3 + 1, none⟩)) rfl (by kernel_rfl) (l_i32 _ _ _ _ HD3.out)) (trivial) ?_
            refine held_one (i := 5) (by kernel_rfl) ?_
            refine held_op (.slice (some ⟨eb3, 0, none⟩) m3 Ke3) _ rfl (by kernel_rfl) (y_load (sv := .pointer (some ⟨gb, 1, none⟩)) rfl (by kernel_rfl) (l_el _ _ _ _ _ _ HD1.out)) (trivial) ?_
            refine held_take 7 (.pointer (some ⟨eb3, e3 * 3, none⟩)) rfl (by kernel_rfl) (by kernel_rfl) (by kernel_rfl) (fun _ _ _ h => h) (by kernel_rfl) (fun W hW => y_index (sv := .slice (some ⟨eb3, 0, none⟩) m3 Ke3) (iv := .int .i32 (e3 : Int)) rfl (by kernel_rfl) (by kernel_rfl) (at_ed W eb3 m3 Ke3 e3 hem)) (trivial) ?_
            refine held_take 8 (.pointer (some ⟨eb3, e3 * 3, none⟩)) rfl (by kernel_rfl) (by kernel_rfl) (by kernel_rfl) (fun _ _ _ h => h) (by kernel_rfl) (fun W hW => by kernel_rfl) (trivial) ?_
            refine held_one (i := 9) (by kernel_rfl) ?_
            refine held_op (.int .u8 (by3.toNat : Int)) _ rfl (by kernel_rfl) (y_load (sv := .pointer (some ⟨eb3, e3 * 3, none⟩)) rfl (by kernel_rfl) (l_u8 _ _ _ _ HD2.out)) (trivial) ?_
            refine held_one (i := 18) (by kernel_rfl) ?_
            refine held_call 55 #[.pointer (some ⟨gb, 0, none⟩), .int .i32 (n : Int), .int .u8 (by3.toNat : Int), .int .i32 (to3 : Int)] rfl (by kernel_rfl) (by kernel_rfl) ?_
            refine HJ.out.mono ?_
            rintro e5 w5 ⟨rfl, eb5, Ke5, c51, c52, hg5, hb5⟩
            refine ⟨.tuple #[], rfl, trivial, ?_⟩
            refine held_done _ (by kernel_rfl) ?_
            go_simp
            go_wp2
            go_roundw
            case rel => exact ⟨ot3, C5, A5, own5, eb5, Ke5, rfl, hn5, HO5, hg5, hb5, HR5, HP5, HK5⟩
            case measure => simp [intOf]; omega
end Go.Proofs.Ytbgnemephcbgeaa
