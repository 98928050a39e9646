/-
  The digest: Sum, Name, Named.
-/
import Derived.Test.YtfnepffccenebaaGreatDoorDMem
import Derived.Test.YtfnepffccenebaaGreatDoorDPure
import Derived.Lib.BitFns
import Derived.Test.YtfnepffccenebaaGreatDoorLay
import Derived.Shelf.Small.Bits
import Derived.Shelf.Bits.Mul64
import Derived.Laws.Bits64b
import Derived.Laws.Shifts
import Derived.Lib.Mul64
import Derived.IntWalk
import Derived.Deep.QuietTactic
import Derived.BigQuiet
import Derived.Deep.CutBlock
import Derived.Deep.CutRange
import Derived.Laws.CopyOwn
import Derived.Laws.ResultCell
import Derived.Laws.IdiomStrings
import Derived.Stop.BytesEq
import Derived.Test.YtfnepffccenebaaGreatDoorDNamed
namespace Go.Proofs.YtfnepffccenebaaGreatDoor
open Go Go.RowKit
theorem add_none (g o j : Nat) : (⟨g, o, none⟩ : Addr).add j = ⟨g, o + j, none⟩ := by unfold Addr.add; split <;> simp_all
theorem below_new (w : World) (o : Obj) : Below w.heap.size w (w.alloc o) := (Below.refl _ w).alloc (Nat.le_refl _) o
end Go.Proofs.YtfnepffccenebaaGreatDoor
namespace Go.Proofs.YtfnepffccenebaaGreatDoor
open Go Go.RowKit
/-- The slice value v holds the bytes l. -/
def Rb (w : World) (v : Value) (l : List UInt8) : Prop :=
  ((∃ A, v = .slice A 0 0) ∧ l = []) ∨ ∃ g o c, v = .slice (some ⟨g, o, none⟩) l.length c ∧ l.length ≤ c ∧ g < w.heap.size ∧ ∀ j, j < l.length → w.cell? ⟨g, o + j, none⟩ = some (.int .u8 ((l.getD j 0).toNat : Int))
theorem Rb.below {w w' : World} {v : Value} {l : List UInt8} {b : Nat} (h : Rb w v l) (hb : Below b w w') (hlt : w.heap.size ≤ b) : Rb w' v l := by
  rcases h with h | ⟨g, o, c, rfl, hc, hg, hcell⟩
  · exact .inl h
  · exact .inr ⟨g, o, c, rfl, hc, Nat.lt_of_lt_of_le hg hb.size, fun j hj => by rw [hb.cell (p := ⟨g, o + j, none⟩) (by show g < b; omega)]; exact hcell j hj⟩
end Go.Proofs.YtfnepffccenebaaGreatDoor
namespace Go.Proofs.YtfnepffccenebaaGreatDoor
open Go Go.RowKit
/-- Two by two. -/
theorem pairs_gen (G : Nat → UInt8) (a b : Nat → UInt8) : ∀ n, (∀ j, j < n → G (2 * j) = a j ∧ G (2 * j + 1) = b j) → (List.range (2 * n)).map G = (List.range n).flatMap fun i => [a i, b i]
  | 0, _ => rfl
  | n + 1, h => by
    rw [show 2 * (n + 1) = 2 * n + 1 + 1 by omega, List.range_succ, List.range_succ, List.map_append, List.map_append, pairs_gen G a b n fun j hj => h j (by omega), List.range_succ, List.flatMap_append]
    simp [(h n (by omega)).1, (h n (by omega)).2]
theorem pairs_eq (G : Nat → UInt8) (a b : Nat → UInt8) (h : ∀ j, j < 32 → G (2 * j) = a j ∧ G (2 * j + 1) = b j) : (List.range 64).map G = (List.range 32).flatMap fun i => [a i, b i] := pairs_gen G a b 32 h
theorem u8s_cells (f : Nat → UInt8) (n : Nat) : u8s n f = (((List.range n).map f).map Extern.Stop.cell).toArray := by
  unfold u8s
  rw [List.map_map]; rfl
/-- The sum's bytes as cells. -/
def sumC (l : List UInt8) : List Value := (sumL l).map Extern.Stop.cell
theorem sumC_eq (l : List UInt8) : u8s 32 (byteV (sumV l)) = (sumC l).toArray := u8s_cells _ _
theorem name_eq (l : List UInt8) : ((List.range 32).flatMap fun i => [hexD (byteV (sumV l) i / 16), hexD (byteV (sumV l) i % 16)]) = nameL l := by
  unfold nameL sumL
  rw [List.flatMap_map]
end Go.Proofs.YtfnepffccenebaaGreatDoor
