/-
  The index: numbers of two bytes, put and read; bytes that are alike; a table's bytes.
-/
import Derived.Test.YtdjmcehoaneekaaDoorIClo
import Derived.Test.YtdjmcehoaneekaaDoorOrdA
namespace Go.Proofs.YtdjmcehoaneekaaDoor.Ix
open Go.Proofs.YtdjmcehoaneekaaDoor
open Go Go.RowKit

theorem wpList_app' {ops : Array Oper} {rest : List Oper} {o : Oper} {a : Go.Act} {w : World} {Q : Exit → Go.Act → World → Prop} (hgd : o.guard = none) (s x : Operand)
    (ho : o.op = .call { callee := .builtin .append, args := #[s, x], argTypes := #[23, 23] }) (base : Nat) (v sv : Value) (l m : Bs) (hs : a.eval s = v) (hx : a.eval x = sv)
    (h : Dl.Ow w base v l) (hr : Dl.Rb w sv m) (hl : l.length + m.length ≤ 140737488355328) (hb : base ≤ w.heap.size) {r : Bs} (hr9 : r = l ++ m)
    (k : ∀ v' w', Dl.Ow w' base v' r → Dl.AppF w v w' v' → wpList Tryd.prog ops Q rest (a.put o.dst v') w') : wpList Tryd.prog ops Q (o :: rest) a w := by
  subst hr9
  refine wpList_plain hgd fun K hK => ?_
  obtain ⟨v', w', h1, h2, h3⟩ := Dl.run_app' h hr hl hb o.type
  unfold Oper.wp
  simp [execOp, ho, resolve, invoke, builtin, hs, hx, h1, Result.andThen]
  exact hK _ _ (k v' w' h2 h3)
/-- A slice of one's own with more behind. -/
def OwnP (B : Nat) (v : Value) (l : Bs) (w : World) (e : Ending) (w' : World) : Prop := ∃ A N c, e = .returned (.slice A N c) ∧ N = l.length ∧ Dl.Ow w' B (.slice A N c) l ∧ Dl.AppF w v w' (.slice A N c)
theorem own_shape {w : World} {B : Nat} {v : Value} {l : Bs} (h : Dl.Ow w B v l) : ∃ A N c, v = .slice A N c ∧ N = l.length := by
  have hr : Rb w v l := Dl.Ow.rb h
  obtain ⟨A, c, e⟩ := hr.shape
  exact ⟨A, _, c, e, rfl⟩
theorem rb_two (w : World) (a b : UInt8) : Dl.Rb (w.alloc (.cells #[.int .u8 (a.toNat : Int), .int .u8 (b.toNat : Int)] 5)) (.slice (some ⟨w.heap.size, 0, none⟩) 2 2) [a, b] :=
  .inr ⟨w.heap.size, 0, 2, rfl, by simp, by simp, fun j hj => by
    have h : (w.alloc (.cells #[.int .u8 (a.toNat : Int), .int .u8 (b.toNat : Int)] 5)).heap[w.heap.size]? = some (.cells #[.int .u8 (a.toNat : Int), .int .u8 (b.toNat : Int)] 5 (0, 0)) := heap_alloc_new w _
    rw [Nat.zero_add, cell_of_row _ _ j _ _ _ h]
    match j, hj with
    | 0, _ => rfl
    | 1, _ => rfl⟩

set_option maxHeartbeats 1000000 in
theorem putNumber_any {w : World} {B : Nat} {v : Value} {pre : Bs} (ho : Dl.Ow w B v pre) (hB : B ≤ w.heap.size) (n : Nat) (hn : n < 65536) (hp : pre.length ≤ 10000000) :
    Calls Tryd.prog 42 #[v, .int .i64 (n : Int)] w (OwnP B v (pre ++ num2 n) w) := by
  obtain ⟨x, hx⟩ : ∃ x, x = UInt8.ofNat (n / 256) := ⟨_, rfl⟩
  obtain ⟨y, hy⟩ : ∃ y, y = UInt8.ofNat n := ⟨_, rfl⟩
  have g1 : IntKind.u8.wrap ((n : Int) / 256) = (x.toNat : Int) := by rw [IntKind.wrap_u8', hx, UInt8.toNat_ofNat']; omega
  have g2 : IntKind.u8.wrap (n : Int) = (y.toNat : Int) := by rw [IntKind.wrap_u8', hy, UInt8.toNat_ofNat']; omega
  obtain ⟨R, hR⟩ : ∃ R, R = pre ++ num2 n := ⟨_, rfl⟩
  rw [← hR]
  have hR' : R = pre ++ [x, y] := by rw [hR, hx, hy]; rfl
  obtain ⟨w1, hw1⟩ : ∃ w1, w1 = w.alloc (.cells #[.int .u8 (x.toNat : Int), .int .u8 (y.toNat : Int)] 5) := ⟨_, rfl⟩
  have hb1 : Below w.heap.size w w1 := by rw [hw1]; exact below_new w _
  have O1 : Hid (Dl.Ow w1 B v pre) := Lib.hid (ho.below hb1 (Nat.le_refl _))
  have R1 : Hid (Dl.Rb w1 (.slice (some ⟨w.heap.size, 0, none⟩) 2 2) [x, y]) := Lib.hid (by rw [hw1]; exact rb_two w x y)
  have S1 : Hid (B ≤ w1.heap.size) := Lib.hid (Nat.le_trans hB hb1.size)
  have Q1 : Hid (pre.length + ([x, y] : Bs).length ≤ 140737488355328) := Lib.hid (by simp; omega)
  have F1 : Hid (∀ {W : World} {V : Value}, Dl.AppF w1 v W V → Dl.AppF w v W V) := Lib.hid fun F => (Dl.AppF.new v hb1).trans F
  have HW1 := Lib.hid hw1; have HR := Lib.hid hR'
  obtain ⟨A, N, c, rfl, -⟩ := own_shape ho
  have hn0 : 0 ≤ (n : Int) := by omega
  clear hw1 hb1 ho hR hR' hx hy hB hp
  go_enter Tryd.func42, Tryd.ntmps42
  go_wp2_with (rw [← HW1.out]; refine wpList_app' (o := ⟨some 12, _, _, _, _, _⟩) rfl _ _ rfl B _ _ pre [x, y] rfl rfl O1.out R1.out Q1.out S1.out HR.out ?_)
  intro v2 w2 o2 l2
  obtain ⟨A2, N2, c2, rfl, hN2⟩ := own_shape o2
  have O2 := Lib.hid o2; have L2 := Lib.hid l2; have HN2 := Lib.hid hN2
  clear o2 l2 hN2
  go_wp2
  go_ret
  exact ⟨A2, N2, c2, rfl, HN2.out, O2.out, F1.out L2.out⟩

theorem or_i64 (x y : UInt8) : bits .or .i64 ((x.toNat : Int) * 256) (y.toNat : Int) = ((x.toNat * 256 + y.toNat : Nat) : Int) := by
  have h : ∀ x y : UInt8, bits .or .i64 ((x.toNat : Int) * 256) (y.toNat : Int) = ((x.toNat * 256 + y.toNat : Nat) : Int) := fun x y => by
    have hx := x.toNat_lt; have hy := y.toNat_lt
    have e1 : BitVec.ofInt 64 ((x.toNat : Int) * 256) = BitVec.ofNat 64 (x.toNat * 256) := by
      rw [show (x.toNat : Int) * 256 = ((x.toNat * 256 : Nat) : Int) by omega]; exact BitVec.ofInt_natCast 64 _
    have e2 : BitVec.ofInt 64 (y.toNat : Int) = BitVec.ofNat 64 y.toNat := by simp
    show IntKind.i64.wrap ((BitVec.ofInt 64 ((x.toNat : Int) * 256) ||| BitVec.ofInt 64 (y.toNat : Int)).toNat : Int) = _
    rw [e1, e2, BitVec.toNat_or, BitVec.toNat_ofNat, BitVec.toNat_ofNat, Nat.mod_eq_of_lt (by omega), Nat.mod_eq_of_lt (by omega)]
    have e3 : x.toNat * 256 ||| y.toNat = x.toNat * 256 + y.toNat := by
      have := Nat.shiftLeft_add_eq_or_of_lt (i := 8) (b := y.toNat) hy x.toNat
      rw [Nat.shiftLeft_eq] at this
      exact this.symm
    rw [e3, IntWalk.i64_in _ (by omega)]
  exact h x y
set_option maxHeartbeats 1000000 in
theorem number_any {w : World} {v : Value} {l : Bs} (h : Rb w v l) (hl : 2 ≤ l.length) (hm : l.length ≤ 140737488355328) : Calls Tryd.prog 60 #[v] w fun e w' => e = .returned (.int .i64 (unnum l : Int)) ∧ ∃ n, w' = w.drewN n := by
  rcases h with ⟨_, rfl⟩ | ⟨g, o, c, rfl, hc, hg, hcell⟩
  · simp at hl
  · obtain ⟨x, hx⟩ : ∃ x, x = l.getD 0 0 := ⟨_, rfl⟩
    obtain ⟨y, hy⟩ : ∃ y, y = l.getD 1 0 := ⟨_, rfl⟩
    have c0 := hcell 0 (by omega)
    have c1 := hcell 1 (by omega)
    rw [← hx, Nat.add_zero] at c0
    rw [← hy] at c1
    have hu : unnum l = x.toNat * 256 + y.toNat := by unfold unnum; rw [hx, hy]
    rw [hu]
    obtain ⟨n, hn⟩ : ∃ n, n = l.length := ⟨_, rfl⟩
    rw [← hn] at hl ⊢
    have hxl := x.toNat_lt; have hyl := y.toNat_lt
    have i0 : (0 : Int) < (n : Int) := by omega
    have i1 : (1 : Int) < (n : Int) := by omega
    have g0 : IntKind.i64.wrap (x.toNat : Int) = (x.toNat : Int) := IntWalk.i64_in _ (by omega)
    have g1 : IntKind.i64.wrap (y.toNat : Int) = (y.toNat : Int) := IntWalk.i64_in _ (by omega)
    have g2 : IntKind.i64.wrap ((x.toNat : Int) * 256) = (x.toNat : Int) * 256 := IntWalk.i64_in _ (by omega)
    obtain ⟨z, hz⟩ : ∃ z, z = x.toNat * 256 + y.toNat := ⟨_, rfl⟩
    have g3 : bits .or .i64 ((x.toNat : Int) * 256) (y.toNat : Int) = (z : Int) := by rw [or_i64, hz]
    rw [← hz]
    clear hx hy hn hz hu hcell hm
    go_enter Tryd.func60, Tryd.ntmps60
    go_wp2
    go_quiet (fail)
    go_wp2
    go_ret
    exact ⟨rfl, _, rfl⟩
set_option maxHeartbeats 1000000 in
theorem Equal_any {w : World} {u v : Value} {l m : Bs} (h1 : Rb w u l) (h2 : Rb w v m) : Calls Tryd.prog 48 #[u, v] w fun e w' => e = .returned (.bool (l == m)) ∧ w' = w := by
  have c1 := h1.conv
  have c2 := h2.conv
  obtain ⟨A, c, rfl⟩ := h1.shape
  obtain ⟨B, d, rfl⟩ := h2.shape
  have he : ∀ W : World, (binOp .eql 9 (.string ⟨l.toArray⟩) (.string ⟨m.toArray⟩)).run Tryd.prog W = .ok (.bool (l == m)) W := fun W => by
    show (Op.stringOp .eql _ _).run _ _ = _
    simp [go_sem, Op.stringOp]
  clear h1 h2
  go_enter Tryd.func48, Tryd.ntmps48
  go_wp2
  go_ret
  exact ⟨ret_bool (by simp), rfl⟩
end Go.Proofs.YtdjmcehoaneekaaDoor.Ix
