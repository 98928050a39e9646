/-
  The document's Name.
-/
import Derived.Test.YtjbagoedaelmnaaDoorRSum
import Derived.Test.YtjbagoedaelmnaaDoorRNamed
import Derived.Deep.RegionHeld3
namespace Go.Proofs.YtjbagoedaelmnaaDoor
open Go Go.RowKit

theorem rb_two (w : World) (c d : UInt8) : Rb (w.alloc (.cells #[.int .u8 (c.toNat : Int), .int .u8 (d.toNat : Int)] 5)) (.slice (some ⟨w.heap.size, 0, none⟩) 2 2) [c, d] :=
  .inr ⟨w.heap.size, 0, 2, rfl, Nat.le_refl _, by simp, fun j hj => by
    have h0 : j = 0 ∨ j = 1 := by simp at hj; omega
    rw [Nat.zero_add, (Go.Proofs.YtjbagoedaelmnaaDoor.Blk.new w 5 #[.int .u8 (c.toNat : Int), .int .u8 (d.toNat : Int)]).cell]
    rcases h0 with rfl | rfl <;> rfl⟩

/-- At a step of a region that draws. -/
theorem step_app {ops : Array Oper} {o : Oper} {a : Act} {w : World} {K : Act → World → Prop} {Q : Exit → Act → World → Prop} {E : Prop} (hgd : o.guard = none) (s x : Operand)
    (ho : o.op = .call { callee := .builtin .append, args := #[s, x], argTypes := #[22, 22] }) (base : Nat) (v sv : Value) (l m : List UInt8) (hs : a.eval s = v) (hx : a.eval x = sv)
    (h : Ow w base v l) (hr : Rb w sv m) (hl : l.length + m.length ≤ 140737488355328) (hb : base ≤ w.heap.size)
    (k : ∀ v' w', Ow w' base v' (l ++ m) → Below base w w' → K (a.put o.dst v') w') : if Region.wanted o (yielded ops a.tmps) = true then Oper.wp Tryd.prog o a w K Q else E := by
  have hw : Region.wanted o (yielded ops a.tmps) = true := by simp [Region.wanted, hgd]
  rw [if_pos hw]
  obtain ⟨v', w', h1, h2, h3⟩ := run_app h hr hl hb o.type
  unfold Oper.wp
  simp [execOp, ho, resolve, invoke, builtin, hs, hx, h1, Result.andThen]
  exact k v' w' h2 h3

/-- The first k bytes as digits. -/
def hexs (F : Nat → UInt8) (k : Nat) : List UInt8 := (List.range k).flatMap fun i => [hexD (F i / 16), hexD (F i % 16)]
theorem hexs_succ (F : Nat → UInt8) (k : Nat) : hexs F k ++ [hexD (F k / 16), hexD (F k % 16)] = hexs F (k + 1) := by
  unfold hexs; rw [List.range_succ, List.flatMap_append]; simp
theorem hexs_length (F : Nat → UInt8) : ∀ k, (hexs F k).length = 2 * k
  | 0 => rfl
  | k + 1 => by rw [← hexs_succ, List.length_append, hexs_length F k]; simp; omega

set_option maxRecDepth 100000 in
set_option maxHeartbeats 1000000 in
theorem RName_any (w : World) (v : Value) (l : List UInt8) (hl : l.length ≤ 29000) (hr : Rb w v l) :
    Calls Tryd.prog 13 #[v] w fun e w' => e = .returned (SV (nameL l)) ∧ Below w.heap.size w w' := by
  have HS : Hid (∀ W : World, Below w.heap.size w W → Calls Tryd.prog 11 #[v] W fun e w' => e = .returned (.agg (u8s 32 (byteV (sumV l)))) ∧ Below W.heap.size W w') := Lib.hid fun W hW => by rw [sumC_eq]; exact RSum_any W v l hl (hr.below hW (Nat.le_refl _))
  have Hnm := Lib.hid (name_eq l)
  obtain ⟨F, hF⟩ : ∃ F, F = byteV (sumV l) := ⟨_, rfl⟩
  rw [← hF] at HS Hnm
  clear hr hF
  go_enter Tryd.func13, Tryd.ntmps13
  go_wp2_with fail
  refine (HS.out _ (Below.refl _ _)).mono ?_
  rintro e w1 ⟨rfl, l1⟩
  have b3 : Blk (w1.alloc (Obj.cells (u8s 32 F) 24)) w1.heap.size 24 (u8s 32 F) := Blk.new w1 _ _
  have l3 : Below w.heap.size w (w1.alloc (Obj.cells (u8s 32 F) 24)) := l1.alloc l1.size _
  have hz32 : ∀ W, (zeroValue 24).run Tryd.prog W = .ok (.agg (u8s 32 fun _ => 0)) W := (zero_of_info (n := 32) (by kernel_rfl)).1
  go_wp2_with (refine wpList_store_row rfl 24 _ _ rfl w1.heap.size (u8s 32 F) rfl rfl 24 (u8s 32 fun _ => 0) (by exact Blk.new w1 _ _) (by rw [u8s_size]; kernel_rfl) (by rw [u8s_size, u8s_size]) (u8s_one 32 F) ?_; rw [World.setRow_alloc_new])
  have B3 := Lib.hid b3; have L3 := Lib.hid l3
  obtain ⟨base, hbase⟩ : ∃ base, base = w1.heap.size + 1 := ⟨_, rfl⟩
  have hbs : (w1.alloc (Obj.cells (u8s 32 F) 24)).heap.size = base := by rw [hbase]; simp
  have Hbase : Hid (w.heap.size ≤ base ∧ w1.heap.size < base) := Lib.hid ⟨by have := l1.size; omega, by omega⟩
  have O3 := Lib.hid (Ow.nil (w1.alloc (Obj.cells (u8s 32 F) 24)) base)
  obtain ⟨w3, hw3⟩ : ∃ w3, w3 = w1.alloc (Obj.cells (u8s 32 F) 24) := ⟨_, rfl⟩
  rw [← hw3] at B3 L3 O3 hbs ⊢
  generalize w1.heap.size = b3n at *
  have Hbs := Lib.hid hbs
  clear b3 l3 l1 hw3 hbase hbs
  go_loopw [4, 5] (fun o i wx => ∃ (k K : Nat) (A : Option Addr) (c : Nat), k ≤ 32 ∧ i = .int .i64 k ∧ o = .slice A K c ∧ K = 2 * k ∧ Ow wx base (.slice A K c) (hexs F k) ∧ Below base w3 wx) (fun _ i _ => 32 - (intOf i).toNat)
  case atStart => exact ⟨0, 0, none, 0, Nat.zero_le _, rfl, rfl, rfl, O3.out, Below.refl _ _⟩
  case round =>
    clear O3
    obtain ⟨k, K, A, c, hk, rfl, rfl, hK, ho, hb⟩ := hrel
    by_cases hlt : k < 32
    · obtain ⟨x, hx⟩ : ∃ x, x = F k := ⟨_, rfl⟩
      have b3 := B3.out.below hb (by have := Hbase.out; omega)
      have cx : wr.cell? ⟨b3n, k, none⟩ = some (.int .u8 (x.toNat : Int)) := by rw [b3.byte k hlt, hx]
      obtain ⟨p, hp⟩ : ∃ p, p = x / 16 := ⟨_, rfl⟩
      obtain ⟨q, hq⟩ : ∃ q, q = x % 16 := ⟨_, rfl⟩
      have gp : (x.toNat : Int) / 16 = (p.toNat : Int) := by rw [hp, UInt8.toNat_div]; simp
      have gq : (x.toNat : Int) % 16 = (q.toNat : Int) := by rw [hq, UInt8.toNat_mod]; simp
      have gp2 : IntKind.u8.wrap (p.toNat : Int) = (p.toNat : Int) := by rw [IntKind.wrap_u8']; have := p.toNat_lt; omega
      have gq2 : IntKind.u8.wrap (q.toNat : Int) = (q.toNat : Int) := by rw [IntKind.wrap_u8']; have := q.toNat_lt; omega
      have gq3 : (x.toNat : Int).tmod 16 = (q.toNat : Int) := by rw [Int.tmod_eq_emod_of_nonneg (by omega)]; exact gq
      have hp16 : p < 16 := by rw [hp, UInt8.lt_iff_toNat_lt, UInt8.toNat_div]; have := x.toNat_lt; simp; omega
      have hq16 : q < 16 := by rw [hq, UInt8.lt_iff_toNat_lt, UInt8.toNat_mod]; simp; omega
      have HP : Hid (∀ W : World, Calls Tryd.prog 22 #[.int .u8 (p.toNat : Int)] W fun e w' => e = .returned (.int .u8 ((hexD p).toNat : Int)) ∧ w' = W) := Lib.hid fun W => (rdigit_any p hp16 W).mono fun _ _ h => ⟨h.1, h.2.symm⟩
      have HQ : Hid (∀ W : World, Calls Tryd.prog 22 #[.int .u8 (q.toNat : Int)] W fun e w' => e = .returned (.int .u8 ((hexD q).toNat : Int)) ∧ w' = W) := Lib.hid fun W => (rdigit_any q hq16 W).mono fun _ _ h => ⟨h.1, h.2.symm⟩
      have hs : hexs F k ++ [hexD p, hexD q] = hexs F (k + 1) := by rw [hp, hq, hx]; exact hexs_succ F k
      obtain ⟨a, ha⟩ : ∃ a, a = hexD p := ⟨_, rfl⟩
      obtain ⟨b, hb2⟩ : ∃ b, b = hexD q := ⟨_, rfl⟩
      rw [← ha, ← hb2] at hs
      rw [← ha] at HP
      rw [← hb2] at HQ
      have O1 : Hid (Ow (wr.drew.alloc (.cells #[.int .u8 (a.toNat : Int), .int .u8 (b.toNat : Int)] 5)) base (.slice A K c) (hexs F k)) := Lib.hid ((show Ow wr.drew base (.slice A K c) (hexs F k) from ho).below (below_new wr.drew _) (Nat.le_refl _))
      have R1 : Hid (Rb (wr.drew.alloc (.cells #[.int .u8 (a.toNat : Int), .int .u8 (b.toNat : Int)] 5)) (.slice (some ⟨wr.drew.heap.size, 0, none⟩) 2 2) [a, b]) := Lib.hid (rb_two wr.drew a b)
      have QL1 : Hid ((hexs F k).length + ([a, b] : List UInt8).length ≤ 140737488355328) := Lib.hid (by rw [hexs_length]; simp; omega)
      have S1 : Hid (base ≤ (wr.drew.alloc (.cells #[.int .u8 (a.toNat : Int), .int .u8 (b.toNat : Int)] 5)).heap.size) := Lib.hid (by
        have h1 := hb.size
        rw [Hbs.out] at h1
        have h2 : (wr.drew.alloc (.cells #[.int .u8 (a.toNat : Int), .int .u8 (b.toNat : Int)] 5)).heap.size = wr.heap.size + 1 := by simp
        omega)
      have L1 : Hid (Below base w3 (wr.drew.alloc (.cells #[.int .u8 (a.toNat : Int), .int .u8 (b.toNat : Int)] 5))) := Lib.hid (hb.drew.alloc (by have h1 := hb.size; rw [Hbs.out] at h1; exact h1) _)
      have HS1 := Lib.hid hs
      have HK := Lib.hid hK
      have hC : ∀ W, Below base wr W → W.cell? ⟨b3n, k, none⟩ = some (.int .u8 (x.toNat : Int)) := fun W hW => by
        rw [hW.cell (p := ⟨b3n, k, none⟩) Hbase.out.2]; exact cx
      have hsz : base ≤ wr.heap.size := by have h1 := hb.size; rw [Hbs.out] at h1; exact h1
      have d0 : Below base wr wr.drew := (Below.refl _ _).drew
      have d1 : Below base wr (wr.drew.alloc (.cells #[.int .u8 (a.toNat : Int), .int .u8 (b.toNat : Int)] 5)) := d0.alloc hsz _
      have c0 := hC _ d0
      have c1 := hC _ d1
      have HC := Lib.hid hC
      clear hx hp hq hs ha hb2 b3 ho hb hp16 hq16 hK hC hsz
      go_wp2
      go_region_held3 (fun W => W.cell? ⟨b3n, k, none⟩ = some (.int .u8 (x.toNat : Int)) ∧ Below base wr W)
        (first | exact ⟨by assumption, by assumption⟩ | exact And.intro c0 d0 | exact And.intro c1 d1)
        (first
          | (go_at_call 22; (first | with_reducible refine (HP.out _).mono ?_ | with_reducible refine (HQ.out _).mono ?_); rintro e w5 ⟨rfl, rfl⟩)
          | (refine step_app rfl (.tmp 12) (.tmp 23) rfl base _ _ _ _ rfl rfl O1.out R1.out QL1.out S1.out ?_; intro v2 w2 o2 l2; have d2 := d1.trans l2; have c2 := HC.out _ d2)
          | show False)
      rw [HS1.out] at o2
      have L2 := L1.out.trans l2
      obtain ⟨A2, c2, rfl⟩ := o2.rb.shape
      rw [hexs_length] at o2 ⊢
      clear O1 R1 QL1 S1 L1 l2 c0 c1 d0 d1 d2 gp gp2 gq gq2 gq3 cx HP HQ HC
      go_wp2
      go_roundw
      case rel => exact ⟨k + 1, 2 * (k + 1), A2, c2, by omega, by go_num, rfl, rfl, o2, L2⟩
      case measure => simp [intOf]; omega
    · have Hh : hexs F k = nameL l := by rw [show k = 32 by omega]; exact Hnm.out
      rw [Hh] at ho
      obtain ⟨nm, hnm⟩ : ∃ nm, nm = nameL l := ⟨_, rfl⟩
      have hlen : nm.length = 64 := by rw [hnm]; exact nameL_length l
      rw [← hnm] at ho
      have Hn2 := Lib.hid hnm
      have hK64 : K = 64 := by omega
      obtain ⟨g, cap, hv, hcap, hgl, hcells⟩ := ho.pos (by omega)
      rw [hlen] at hv hcap hcells
      simp only [Value.slice.injEq] at hv
      obtain ⟨rfl, rfl, rfl⟩ := hv
      have hconv : (convert 22 9 (.slice (some ⟨g, 0, none⟩) 64 c)).run Tryd.prog wr = .ok (.string ⟨nm.toArray⟩) wr := by
        have := run_convert_bytes_back (P := Tryd.prog) wr 22 9 5 ⟨g, 0, none⟩ c nm Tryd.underlying22 Tryd.underlying5 Tryd.underlying9 (fun j hj => by
          rw [add_none, Nat.zero_add, hcells j (by omega), List.getD_eq_getElem?_getD, List.getElem?_eq_getElem hj]
          rfl)
        rw [hlen] at this
        exact this
      have lw : Below w.heap.size w wr := L3.out.trans (hb.mono Hbase.out.1)
      clear hcells hnm ho hb hK Hnm
      go_wp2
      go_ret
      exact ⟨by rw [← Hn2.out]; rfl, lw⟩
end Go.Proofs.YtjbagoedaelmnaaDoor
