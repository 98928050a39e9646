/-
  head: a live question, whose answer is fixed; value.
-/
import Derived.Test.YtjbagoedaelmnaaDoorName
import Derived.Test.YtjbagoedaelmnaaDoorEval
import Derived.Lib.SlBytesConst
namespace Go.Proofs.YtjbagoedaelmnaaDoor
open Go Go.RowKit

set_option maxHeartbeats 400000 in
theorem value_any (c : UInt8) (hc : isD c = true) (w : World) : Calls Tryd.prog 16 #[.int .u8 (c.toNat : Int)] w fun e w' => e = .returned (.int .i64 ((if 97 ≤ c.toNat then c.toNat - 87 else c.toNat - 48 : Nat) : Int)) ∧ w = w' := by
  have hd : 48 ≤ c.toNat := by
    rw [isD_int] at hc
    simp at hc
    omega
  have hl := c.toNat_lt
  clear hc
  by_cases h : 97 ≤ c.toNat
  · go_enter Tryd.func16, Tryd.ntmps16
    go_wp2
    go_ret
    exact ⟨ret_i64 (by first | (rw [if_pos h]; omega) | omega), rfl⟩
  · go_enter Tryd.func16, Tryd.ntmps16
    go_wp2
    go_ret
    exact ⟨ret_i64 (by first | (rw [if_neg h]; omega) | omega), rfl⟩

set_option maxRecDepth 100000 in
set_option maxHeartbeats 1000000 in
theorem head_any (w : World) (hp : Pr w) : Calls Tryd.prog 9 #[] w fun e w' => e = .returned (.bool true) ∧ Below w.heap.size w w' := by
  have hplt := hp.lt
  obtain ⟨w0, hw0⟩ : ∃ w0, w0 = w.alloc (Obj.cells #[.int .u8 97, .int .u8 98, .int .u8 99] 5 (3, 4)) := ⟨_, rfl⟩
  have l0 : Below w.heap.size w w0 := by rw [hw0]; exact below_new w _
  have p0 : Pr w0 := hp.below l0 hplt
  have r0 : Rb w0 (.slice (some ⟨w.heap.size, 0, none⟩) 3 3) [97, 98, 99] := .inr ⟨w.heap.size, 0, 3, rfl, Nat.le_refl _, by rw [hw0]; simp, fun j hj => by
    have hb : w0.heap[w.heap.size]? = some (.cells #[.int .u8 97, .int .u8 98, .int .u8 99] 5 (3, 4)) := by rw [hw0]; exact heap_alloc_new w _
    rw [Nat.zero_add, cell_of_row w0 w.heap.size j _ _ _ hb]
    match j, hj with
    | 0, _ => rfl
    | 1, _ => rfl
    | 2, _ => rfl⟩
  have kc := fun (w : World) (C : Array Value) (n c : Nat) => Lib.run_convert_bytes_const (P := Tryd.prog) w 22 5 C n c Tryd.underlying22 Tryd.underlying5
  have HN := Name_any w0 _ _ p0 (by decide) r0
  obtain ⟨nm, hnm⟩ : ∃ nm, nm = nameL [97, 98, 99] := ⟨_, rfl⟩
  rw [← hnm] at HN
  have HN1 := Lib.hid HN
  rw [name_abc] at hnm
  have Hw0 := Lib.hid hw0; have Hnm := Lib.hid hnm; have P0 := Lib.hid p0
  clear hw0 hnm HN p0 hp
  go_enter Tryd.func9, Tryd.ntmps9
  go_wp2_with fail
  rw [← Hw0.out]
  refine HN1.out.mono ?_
  rintro e w1 ⟨rfl, l1⟩
  have lw1 : Below w.heap.size w w1 := l0.trans (l1.mono l0.size)
  have p1 : Pr w1 := P0.out.below l1 (by have := l0.size; omega)
  unfold SV
  have HN2 := Lib.hid (Name_any w1 (.slice none 0 0) [] p1 (by decide) (.inl ⟨⟨_, rfl⟩, rfl⟩))
  obtain ⟨n2, hn2⟩ : ∃ n2, n2 = nameL [] := ⟨_, rfl⟩
  rw [← hn2] at HN2
  have HD1 : Hid (namedB n2 = true) := Lib.hid (by rw [hn2]; exact named_nameL _)
  have hl2 : n2.length ≤ maxLen := by rw [hn2, nameL_length]; decide
  have HD2 := Lib.hid (Named_any [97, 98, 99] (w := ·) (by decide))
  have Hl2 := Lib.hid hl2
  clear hn2 hl2
  go_wp2_with fail
  · refine HN2.out.mono ?_
    rintro e w2 ⟨rfl, l2⟩
    have HD1' := Named_any n2 w2 Hl2.out
    rw [HD1.out] at HD1'
    have HD1'' := Lib.hid HD1'; clear HD1'
    unfold SV at HD1'' HD2
    unfold SV
    have hb2 : Below w.heap.size w w2 := lw1.trans (l2.mono lw1.size)
    have hno : namedB [97, 98, 99] = false := by decide
    rw [hno] at HD2
    go_wp2_with fail
    refine HD1''.out.mono ?_
    rintro e w3 ⟨rfl, rfl⟩
    go_wp2_with fail
    refine (HD2.out _).mono ?_
    rintro e w3 ⟨rfl, rfl⟩
    go_wp2
    go_ret
    exact ⟨rfl, hb2⟩
end Go.Proofs.YtjbagoedaelmnaaDoor
