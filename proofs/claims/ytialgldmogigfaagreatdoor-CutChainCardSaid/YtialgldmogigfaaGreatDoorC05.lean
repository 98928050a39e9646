/-
  A number's decimals; what an item is called in an error.
  checkTree: an error, if items are no tree.
  checkTree, walked.
  A region that draws its order, step by step: what may come up alone, or one of two.
-/
import Derived.Lib.ItoaMem
import Derived.Lib.ItoaNum
import Derived.Lib.LaidTab
import Derived.Lib.AppendIntMem
import Derived.Test.YtialgldmogigfaaGreatDoorC02
import Derived.Test.YtialgldmogigfaaGreatDoorLay
import Derived.Deep.RegionHeld3
import Derived.Deep.QuietTactic
import Derived.BigQuiet
import Derived.Test.YtialgldmogigfaaGreatDoorC03
import Derived.Test.YtialgldmogigfaaGreatDoorC04
import Derived.OrdersHeld
import Derived.Deep.RegionHeld

namespace Go.Proofs.YtialgldmogigfaaGreatDoor
open Go Go.RowKit
/-- The table of the powers of ten. -/
def Tb (w : World) : Prop := Lib.TabIs Tryz.prog w "internal/strconv.uint64pow10" .u64 Lib.pow10Tab
theorem Tb.below {w w' : World} (h : Tb w) (hb : Below w.heap.size w w') : Tb w' := by
  have hg : Tryz.prog.globalNamed "internal/strconv.uint64pow10" = some 5 := by kernel_rfl
  have hlt : 5 < w.heap.size := World.block_lt_of_cell? w _ (Lib.TabIs.cell h hg 0 (by rw [Lib.pow10Tab_length]; decide))
  unfold Tb Lib.TabIs World.var? at h ⊢
  rw [hg] at h ⊢
  simp only [Option.bind_some] at h ⊢
  rw [hb.block _ hlt]
  exact h
theorem dd_lo {u : Nat} (h : u < 10) : Lib.decDigits u = [UInt8.ofNat (48 + u)] := by rw [Lib.decDigits, dif_pos h]
theorem dd_hi {u : Nat} (h : 10 ≤ u) : Lib.decDigits u = Lib.decDigits (u / 10) ++ [UInt8.ofNat (48 + u % 10)] := by rw [Lib.decDigits, dif_neg (by omega)]
theorem nd_len : ∀ (k u : Nat), u < 10 ^ (k + 1) → Lib.nDigits u ≤ k + 1
  | k, u, h => by
    by_cases hu : u < 10
    · rw [Lib.nDigits_small hu]; omega
    · rw [Lib.nDigits_big hu]
      cases k with
      | zero => rw [Nat.pow_one] at h; omega
      | succ k =>
        rw [Nat.pow_succ] at h
        have := nd_len k (u / 10) (by omega)
        omega
theorem dd_zero : Lib.decDigits 0 = [48] := by rw [dd_lo (by omega)]; rfl
theorem byte_of {n : Nat} (h : n < 256) : ((UInt8.ofNat n).toNat : Int) = (n : Int) := by rw [UInt8.toNat_ofNat']; omega
/-- A number's decimals; nothing below 0. -/
def textL (n : Int) : List UInt8 := if n < 0 then [] else Lib.decDigits n.toNat
theorem textL_nat (n : Nat) : textL (n : Int) = Lib.decDigits n := by unfold textL; rw [if_neg (by omega), Int.toNat_natCast]
theorem textL_len {n : Int} (h : n ≤ 9223372036854775807) : (textL n).length ≤ 20 := by
  unfold textL
  by_cases h0 : n < 0
  · rw [if_pos h0]; simp
  · rw [if_neg h0, Lib.decDigits_length]
    exact nd_len 19 n.toNat (by omega)
set_option maxHeartbeats 400000 in
theorem Text_any (n : Int) (h0 : -9223372036854775808 ≤ n) (h1 : n ≤ 9223372036854775807) (w : World) (hp : Tb w) :
    Calls Tryz.prog 120 #[.int .i64 n] w fun e w' => e = .returned (SV (textL n)) ∧ Below w.heap.size w w' := by
  have HI := Lib.hid (Any.strconv_Itoa Tryz.itoaA n h0 h1 w hp)
  clear hp
  by_cases h : n < 0
  · rw [show textL n = [] from if_pos h]
    unfold SV
    clear HI
    go_enter Tryz.func120, Tryz.ntmps120
    go_wp2
    go_ret
    exact ⟨rfl, Below.refl _ _⟩
  · have HT : Hid (Lib.itoa n = textL n) := Lib.hid (by unfold textL Lib.itoa; rw [if_neg h, if_neg h])
    rw [HT.out] at HI
    generalize textL n = t at HI ⊢
    clear HT
    unfold SV
    go_enter Tryz.func120, Tryz.ntmps120
    go_wp2_with fail
    refine HI.out.mono ?_
    rintro e w' ⟨rfl, k, os, rfl⟩
    go_wp2
    go_ret
    exact ⟨rfl, Lib.below_grow _ _ (Nat.le_refl _) _ _⟩
set_option maxHeartbeats 400000 in
theorem item_any (n : Nat) (h1 : n ≤ 1000000) (w : World) (hp : Tb w) :
    Calls Tryz.prog 109 #[.int .i64 (n : Int)] w fun e w' => (∃ s, e = .returned (.string s)) ∧ Below w.heap.size w w' := by
  have HT := Lib.hid (Text_any n (by omega) (by omega) w hp)
  have hl := textL_len (n := (n : Int)) (by omega)
  generalize textL (n : Int) = t at HT hl
  unfold SV at HT
  clear hp
  go_enter Tryz.func109, Tryz.ntmps109
  go_wp2_with fail
  refine HT.out.mono ?_
  rintro e w' ⟨rfl, l⟩
  go_wp2
  go_ret
  exact ⟨⟨_, rfl⟩, l⟩
end Go.Proofs.YtialgldmogigfaaGreatDoor


namespace Go.Proofs.YtialgldmogigfaaGreatDoor
open Go Go.RowKit Go.Shelf
theorem less_before : ∀ (a b : List UInt8), Op.bytesLess a b = bytesBefore a b
  | [], [] => rfl
  | [], _ :: _ => rfl
  | _ :: _, [] => rfl
  | x :: a, y :: b => by rw [Op.bytesLess, bytesBefore, less_before a b]
theorem goodI_of {l : List Itm} {k : Nat} {x p : Itm} (hx : x = l.getD k noItm) (hp : p = l.getD (k - 1) noItm) : goodI l k = (itemB x && (k == 0 || bytesBefore (keyL p) (keyL x))) := by
  rw [hx, hp]; rfl
/-- Lengths that may be. -/
def Smalls (l : List Itm) : Prop := ∀ x ∈ l, x.name.length ≤ 1000000 ∧ x.id.length ≤ 1000000
theorem Smalls.get {l : List Itm} (h : Smalls l) {k : Nat} (hk : k < l.length) {x : Itm} (hx : x = l.getD k noItm) : x.name.length ≤ 1000000 ∧ x.id.length ≤ 1000000 := by
  rw [hx]; exact h _ (getD_mem l noItm k hk)
theorem names_snoc (l : List Itm) (k : Nat) (hk : k < l.length) : (l.take (k + 1)).map Itm.name = (l.take k).map Itm.name ++ [(l.getD k noItm).name] := by
  rw [take_getD l noItm k hk, List.map_append]; rfl
theorem add_none' (g o j : Nat) : (⟨g, o, none⟩ : Addr).add j = ⟨g, o + j, none⟩ := by unfold Addr.add; split <;> simp_all
/-- What is known of an element's type. -/
structure ElK {α : Type} (st t : TypeId) (k bt : Nat) (f : α → List Value) : Prop where
  ut : Tryz.prog.underlying st = some (.slice t)
  info : ∃ z, (Tryz.prog.info? t).map (fun i => (i.zero, i.size, i.bytes)) = some (some z, k, bt) ∧ z.cells.size = k
  pos : 0 < k
  len : ∀ x, (f x).length = k
  one : ∀ x, ∀ u ∈ f x, u.oneCell' = true
theorem strK : ElK 23 9 1 16 strC := ⟨Tryz.underlying23, ⟨_, infoStr, rfl⟩, by decide, strC_len, fun x u hu => by
  simp only [strC, List.mem_singleton] at hu; subst hu; rfl⟩
theorem itmK : ElK 50 49 3 40 itmC := ⟨Tryz.underlying50, ⟨.agg #[.int .i64 0, .string ⟨#[]⟩, .string ⟨#[]⟩], by kernel_rfl, by kernel_rfl⟩, by decide, itmC_len, fun x u hu => by
  simp only [itmC, List.mem_cons, List.not_mem_nil, or_false] at hu; rcases hu with rfl | rfl | rfl <;> rfl⟩
theorem wantK : ElK 65 83 2 24 wantV := ⟨Tryz.underlying65, ⟨.agg #[.string ⟨#[]⟩, .int .i64 0], by kernel_rfl, by kernel_rfl⟩, by decide, wantV_len, fun x u hu => by
  simp only [wantV, List.mem_cons, List.not_mem_nil, or_false] at hu; rcases hu with rfl | rfl <;> rfl⟩
/-- One element more. -/
theorem run_one {α : Type} {st t : TypeId} {k bt : Nat} {f : α → List Value} (E : ElK st t k bt f) {w : World} {base : Nat} {v : Value} {l : List α} (h : OwK t k f w base v l) (hl : l.length + 1 ≤ 1000000) (hbt : bt ≤ 1000) (hb : base ≤ w.heap.size) (x : α) (cs : Array Value) (hcs : cs = (f x).toArray) (ty : TypeId) :
    ∃ v' w', (Builtin.append_ #[st, st] ty #[v, .slice (some ⟨w.heap.size, 0, none⟩) 1 1]).run Tryz.prog (w.alloc (.cells cs t)) = .ok v' w' ∧ OwK t k f w' base v' (l ++ [x]) ∧ Below base w w' := by
  obtain ⟨z, hz, hzs⟩ := E.info
  obtain ⟨i0, hi, hz0, hz1, hz2⟩ := info_parts hz
  subst hcs
  have ha : OwK t k f (w.alloc (.cells (f x).toArray t)) base v l := h.below (below_new w _) (Nat.le_refl _)
  obtain ⟨v', w', h1, h2, h3, _⟩ := run_append_own (P := Tryz.prog) _ base st ty t i0 z k bt E.ut hi hz0 hz1 hz2 hzs (by have := E.pos; omega) v l.length (l.flatMap f) ha ⟨w.heap.size, 0, none⟩ 1 1 (f x) (by rw [E.len, Nat.one_mul]) (fun j u hj => by
    rw [add_none', Nat.zero_add, cell_of_row (w.alloc _) w.heap.size j _ _ _ (heap_alloc_new w _)]
    simpa using hj) (E.one x) (by unfold maxLen; omega) (by
      have : (l.length + 1) * bt ≤ 1000000 * 1000 := Nat.mul_le_mul hl hbt
      omega) (by simp; omega)
  refine ⟨v', w', h1, ?_, ?_⟩
  · unfold OwK; rw [List.length_append, List.flatMap_append]; simpa using h2
  · refine ((below_new w _).mono hb).trans ⟨h3.os, h3.tape, h3.output, by have := h3.size; simpa using this, fun j hj => h3.block j (by simp; omega) ?_⟩
    intro e
    have := (h.lt j e.symm).1
    omega
/-- The operation. -/
theorem wpList_one {α : Type} {st t : TypeId} {k bt : Nat} {f : α → List Value} (E : ElK st t k bt f) {ops : Array Oper} {rest : List Oper} {o : Oper} {a : Act} {w : World} {Q : Exit → Act → World → Prop} (hgd : o.guard = none) (s y : Operand)
    (ho : o.op = .call { callee := .builtin .append, args := #[s, y], argTypes := #[st, st] }) (base : Nat) (v : Value) (l : List α) (x : α) (cs : Array Value) (hcs : cs = (f x).toArray) (hs : a.eval s = v) (hy : a.eval y = .slice (some ⟨w.heap.size, 0, none⟩) 1 1)
    (h : OwK t k f w base v l) (hl : l.length + 1 ≤ 1000000) (hbt : bt ≤ 1000) (hb : base ≤ w.heap.size)
    (kk : ∀ v' w', OwK t k f w' base v' (l ++ [x]) → Below base w w' → wpList Tryz.prog ops Q rest (a.put o.dst v') w') : wpList Tryz.prog ops Q (o :: rest) a (w.alloc (.cells cs t)) := by
  refine wpList_plain hgd fun K hK => ?_
  obtain ⟨v', w', h1, h2, h3⟩ := run_one E h hl hbt hb x cs hcs o.type
  unfold Oper.wp
  simp [execOp, ho, resolve, invoke, builtin, hs, hy, h1, Result.andThen]
  exact hK _ _ (kk v' w' h2 h3)
end Go.Proofs.YtialgldmogigfaaGreatDoor


namespace Go.Proofs.YtialgldmogigfaaGreatDoor
open Go Go.RowKit Go.Shelf
/-- What a check comes to: nothing, or an error. -/
def CkPost (b : Bool) (w : World) (e : Ending) (w' : World) : Prop :=
  ((b = true ∧ e = .returned .nilIface) ∨ (b = false ∧ ∃ p, e = .returned (.iface 129 (.pointer (some p))))) ∧ Below w.heap.size w w'
theorem CkPost.yes {b : Bool} {w : World} {e : Ending} {w' : World} (h : CkPost b w e w') (hb : b = true) : RetBelow .nilIface w e w' := by
  obtain ⟨⟨_, h1⟩ | ⟨h1, _⟩, h2⟩ := h
  · exact ⟨h1, h2⟩
  · rw [hb] at h1; cases h1
theorem CkPost.no {b : Bool} {w : World} {e : Ending} {w' : World} (h : CkPost b w e w') (hb : b = false) : FailB w e w' := by
  obtain ⟨⟨h1, _⟩ | ⟨_, p, h1⟩, h2⟩ := h
  · rw [hb] at h1; cases h1
  · exact ⟨p, h1, h2⟩
/-- The loop of checkTree, between two rounds. -/
def CkRel (l : List Itm) (w : World) (k : Nat) (vn : Value) (wr : World) : Prop :=
  OwK 9 1 strC wr w.heap.size vn ((l.take k).map Itm.name) ∧ Below w.heap.size w wr ∧ ∀ i, i < k → goodI l i = true
theorem OwK.drewN {α : Type} {t : TypeId} {k : Nat} {f : α → List Value} {w : World} {base : Nat} {v : Value} {l : List α} (h : OwK t k f w base v l) (n : Nat) : OwK t k f (w.drewN n) base v l := h
theorem below_drewN {b : Nat} {w w1 : World} (h : Below b w w1) (n : Nat) : Below b w (w1.drewN n) := ⟨h.os, h.tape, h.output, h.size, h.block⟩
/-- Behind draws. -/
theorem bdr {w w2 : World} (l : Below w.drew.heap.size w.drew w2) : Below w.heap.size w w2 := ⟨l.os, l.tape, l.output, l.size, l.block⟩
theorem CkRel.step {l : List Itm} {w w1 w2 : World} {k : Nat} {v' : Value} {x : Itm} {ns : List (List UInt8)} (hns : ns = (l.take k).map Itm.name) (hk : k < l.length) (hx : x = l.getD k noItm) (hg : ∀ i, i < k → goodI l i = true) (hgk : goodI l k = true) (ho : OwK 9 1 strC w2 w.heap.size v' (ns ++ [x.name])) (h1 : Below w.heap.size w w1) (h2 : Below w.heap.size w1 w2) : CkRel l w (k + 1) v' w2 := by
  refine ⟨?_, h1.trans h2, fun i hi => ?_⟩
  · rw [names_snoc l k hk, ← hx, ← hns]; exact ho
  · rcases Nat.lt_or_ge i k with h | h
    · exact hg i h
    · rw [show i = k by omega]; exact hgk
theorem rightT_no {l : List Itm} {k : Nat} (hk : k < l.length) (h : goodI l k = false) : rightT l = false := by
  cases hr : rightT l
  · rfl
  · have := (rightT_parts.1 hr).2.1 k hk
    rw [h] at this; cases this
theorem rightT_eq {l : List Itm} (hl : l.length ≤ 256) (hg : ∀ i, i < l.length → goodI l i = true) : rightT l = decide ((l.map Itm.name).Nodup) := by
  rw [Bool.eq_iff_iff, rightT_parts, decide_eq_true_iff]
  exact ⟨fun h => h.2.2, fun h => ⟨hl, hg, h⟩⟩
set_option maxRecDepth 100000 in
set_option maxHeartbeats 4000000 in
theorem checkTree_gen (l : List Itm) (v : Value) (w : World) (hr : ItmsR w v l) (hs : Smalls l) (hl : l.length ≤ 256) (he : Er w) (ht : Tb w) :
    Calls Tryz.prog 110 #[v] w (CkPost (rightT l) w) := by
  obtain ⟨A, c, rfl⟩ := hr.shape
  have HR := Lib.hid hr; have HS := Lib.hid hs; have HE := Lib.hid he; have HT := Lib.hid ht
  have hl2 : ¬ (256 : Int) < (l.length : Int) := by omega
  have HL := Lib.hid hl
  clear hr hs he ht hl
  go_enter Tryz.func110, Tryz.ntmps110
  go_wp2_with fail
  go_loopw [3, 16] (fun vn vi wr => ∃ k : Nat, k ≤ l.length ∧ vi = .int .i64 k ∧ Hid (CkRel l w k vn wr)) (fun _ vi _ => l.length - (intOf vi).toNat)
  case atStart => exact ⟨0, Nat.zero_le _, rfl, Lib.hid ⟨OwK.nil _ _ _ _ _, Below.refl _ _, fun i hi => absurd hi (Nat.not_lt_zero _)⟩⟩
  case round =>
    obtain ⟨k, hk, rfl, hrel⟩ := hrel
    by_cases hlt : k < l.length
    · have hB := hrel.out.2.1
      obtain ⟨g, o, c', e, _, hg⟩ := HR.out.pos (by omega)
      cases e
      obtain ⟨c0, c1, c2⟩ := ItmsR.cells (HR.out.below hB (Nat.le_refl _)) k hlt
      obtain ⟨x, hx⟩ : ∃ x, x = l.getD k noItm := ⟨_, rfl⟩
      rw [← hx] at c0 c1 c2
      have HX := Lib.hid hx
      obtain ⟨m, nm, di⟩ := x
      unfold SV at c1 c2
      simp only at c0 c1 c2
      clear hx
      have hsm := HS.out.get hlt HX.out
      have hck : ∀ W, Below w.heap.size w W → Calls Tryz.prog 121 #[.agg #[.int .i64 m, .string ⟨nm.toArray⟩, .string ⟨di.toArray⟩]] W (CkPost (itemB ⟨m, nm, di⟩) W) := fun W hW => by
        cases hi : itemB ⟨m, nm, di⟩
        · exact (checkItem_no ⟨m, nm, di⟩ (by unfold maxLen; have := hsm.1; omega) (by unfold maxLen; have := hsm.2; omega) W (HE.out.below hW) hi).mono fun e w' ⟨p, h1, h2⟩ => ⟨.inr ⟨rfl, p, h1⟩, h2⟩
        · exact (checkItem_yes ⟨m, nm, di⟩ (by unfold maxLen; have := hsm.1; omega) (by unfold maxLen; have := hsm.2; omega) W (HE.out.below hW) hi).mono fun e w' ⟨h1, h2⟩ => ⟨.inl ⟨rfl, h1⟩, h2⟩
      have hit : ∀ W, Below w.heap.size w W → Calls Tryz.prog 109 #[.int .i64 (k : Int)] W fun e w' => (∃ s, e = .returned (.string s)) ∧ Below W.heap.size W w' := fun W hW => item_any k (by have := HL.out; omega) W (HT.out.below hW)
      have HC := Lib.hid hck; have HSm := Lib.hid hsm; have HI := Lib.hid hit
      have L0 := Lib.hid (hB.alloc hB.size (.cells #[.int .i64 m, .string ⟨nm.toArray⟩, .string ⟨di.toArray⟩] 49))
      have HB := Lib.hid hB
      clear hck hsm hit hB
      go_wp2_with fail
      refine (HC.out _ L0.out).mono ?_
      rintro e w1 ⟨⟨hi, rfl⟩ | ⟨hi, p, rfl⟩, l1⟩
      · have L1 := Lib.hid (L0.out.trans (l1.mono L0.out.size))
        have HI1 := Lib.hid hi
        have b0 : w1.cell? ⟨wr.heap.size, 0, none⟩ = some (.int .i64 m) := (l1.cell (p := ⟨wr.heap.size, 0, none⟩) (by simp)).trans (by simp)
        have b1 : w1.cell? ⟨wr.heap.size, 1, none⟩ = some (.string ⟨nm.toArray⟩) := (l1.cell (p := ⟨wr.heap.size, 1, none⟩) (by simp)).trans (by simp)
        have b2 : w1.cell? ⟨wr.heap.size, 2, none⟩ = some (.string ⟨di.toArray⟩) := (l1.cell (p := ⟨wr.heap.size, 2, none⟩) (by simp)).trans (by simp)
        have hbs : wr.heap.size < w1.heap.size := by have := l1.size; simp at this; omega
        have hown : OwK 9 1 strC w1 w.heap.size u3 ((l.take k).map Itm.name) := (hrel.out.1.below (below_new wr _) (Nat.le_refl _)).below l1 (Nat.le_refl _)
        obtain ⟨ns, hns⟩ : ∃ ns, ns = (l.take k).map Itm.name := ⟨_, rfl⟩
        rw [← hns] at hown
        have hnl : ns.length ≤ 256 := by rw [hns, List.length_map, List.length_take]; have := HL.out; omega
        have HO := Lib.hid hown; have HN := Lib.hid hns; have HNL := Lib.hid hnl
        clear hi hown hns hnl c0 c1 c2 l1
        by_cases hk0 : k = 0
        · have d0 : decide ((0 : Int) < (k : Int)) = false := decide_eq_false (by omega)
          have d1 : decide (0 < k) = false := decide_eq_false (by omega)
          have Hk0 := Lib.hid hk0
          clear hk0
          have hgk : goodI l k = true := by
            rw [goodI_of HX.out rfl, HI1.out, Hk0.out]; rfl
          have HG := Lib.hid hgk
          clear hgk
          go_wp2_with fail
          go_quiet (fail)
          go_wp2_with (at_builtin; refine wpList_one strK rfl _ _ rfl w.heap.size u3 _ nm _ rfl rfl rfl (OwK.drewN HO.out _) ?c1 (by decide) ?c2 ?_)
          case c1 => have := HNL.out; omega
          case c2 => exact L1.out.size
          intro v' w2 ho2 hb2
          have HR2 := Lib.hid (CkRel.step HN.out hlt HX.out hrel.out.2.2 HG.out ho2 (below_drewN L1.out _) hb2)
          clear ho2 hb2
          go_wp2_with fail
          go_roundw
          case rel => exact ⟨k + 1, by omega, by go_num, HR2⟩
          case measure => simp [intOf]; omega
        · obtain ⟨j, hj⟩ : ∃ j, k = j + 1 := ⟨k - 1, by omega⟩
          have hjl : j < l.length := by omega
          obtain ⟨q0, q1, q2⟩ := ItmsR.cells (HR.out.below L1.out (Nat.le_refl _)) j hjl
          obtain ⟨y, hy⟩ : ∃ y, y = l.getD j noItm := ⟨_, rfl⟩
          rw [← hy] at q0 q1 q2
          have hy2 : y = l.getD (k - 1) noItm := by rw [hy, hj]; rfl
          have hsy := HS.out.get hjl hy
          have HY := Lib.hid hy2
          have hst := fun W => standing_any ⟨m, nm, di⟩ (HSm.out.1) W
          have hsp := fun W => standing_any y hsy.1 W
          obtain ⟨m2, nm2, di2⟩ := y
          unfold SV at q1 q2 hst hsp
          simp only at q0 q1 q2 hst hsp
          obtain ⟨ka, hka⟩ : ∃ ka, ka = keyL ⟨m2, nm2, di2⟩ := ⟨_, rfl⟩
          obtain ⟨kb, hkb⟩ : ∃ kb, kb = keyL ⟨m, nm, di⟩ := ⟨_, rfl⟩
          rw [← hka] at hsp
          rw [← hkb] at hst
          have HP := Lib.hid hsp; have HQ := Lib.hid hst
          have hgk : goodI l k = bytesBefore ka kb := by
            rw [goodI_of HX.out HY.out, HI1.out, show (k == 0) = false by simp; omega, hka, hkb]; rfl
          have HG := Lib.hid hgk
          have d0 : decide ((0 : Int) < (k : Int)) = true := decide_eq_true (by omega)
          have d1 : decide (0 < k) = true := decide_eq_true (by omega)
          have e1 : IntKind.i64.wrap ((k : Int) - 1) = (j : Int) := by rw [IntWalk.i64_in _ (by omega)]; omega
          have e2 : 0 ≤ (j : Int) := by omega
          have e3 : (j : Int) < (l.length : Int) := by omega
          have gl1 : g < w1.heap.size := by have := L1.out.size; omega
          clear hst hsp hka hkb hgk hy hy2 hsy hj hk0
          cases hbb : bytesBefore ka kb
          · have hle : Op.bytesLess ka kb = false := (less_before ka kb).trans hbb
            have HF := Lib.hid (rightT_no hlt (HG.out.trans hbb))
            clear hbb
            go_wp2_with fail
            go_region_held3 (fun W => W.cell? ⟨g, o + j * 3, none⟩ = some (.int .i64 m2) ∧ W.cell? ⟨g, o + j * 3 + 1, none⟩ = some (.string ⟨nm2.toArray⟩) ∧ W.cell? ⟨g, o + j * 3 + 2, none⟩ = some (.string ⟨di2.toArray⟩) ∧ W.cell? ⟨wr.heap.size, 0, none⟩ = some (.int .i64 m) ∧ W.cell? ⟨wr.heap.size, 1, none⟩ = some (.string ⟨nm.toArray⟩) ∧ W.cell? ⟨wr.heap.size, 2, none⟩ = some (.string ⟨di.toArray⟩) ∧ Below w1.heap.size w1 W)
              (first | exact ⟨q0, q1, q2, b0, b1, b2, (Below.refl _ _).drew⟩ | assumption | go_keep)
              (first
                | (go_at_call 122; (with_reducible refine (HP.out _).mono ?_); rintro e w2 ⟨rfl, l2⟩; have hS2 := And.intro (cell_to q0 (bdr l2)) (And.intro (cell_to q1 (bdr l2)) (And.intro (cell_to q2 (bdr l2)) (And.intro (cell_to b0 (bdr l2)) (And.intro (cell_to b1 (bdr l2)) (And.intro (cell_to b2 (bdr l2)) (bdr l2)))))))
                | (go_at_call 122; (with_reducible refine (HQ.out _).mono ?_); rintro e w3 ⟨rfl, l3⟩; have hS3 := And.intro (cell_to hS2.1 l3) (And.intro (cell_to hS2.2.1 l3) (And.intro (cell_to hS2.2.2.1 l3) (And.intro (cell_to hS2.2.2.2.1 l3) (And.intro (cell_to hS2.2.2.2.2.1 l3) (And.intro (cell_to hS2.2.2.2.2.2.1 l3) (hS2.2.2.2.2.2.2.trans (l3.mono hS2.2.2.2.2.2.2.size)))))))))
            have LT := Lib.hid (hS3.2.2.2.2.2.2)
            have bn := hS3.2.2.2.2.1
            clear hS2 hS3 q0 q1 q2 b0 b1 b2 l2 l3 e1 e2 e3 d0 d1
            have L3 := Lib.hid (L1.out.trans (LT.out.mono L1.out.size))
            obtain ⟨ew, cw⟩ := (HE.out.below L3.out).wrong
            clear bn
            go_wp2_with fail
            go_region_held3 (fun W => W.cell? ⟨1, 0, none⟩ = some (.iface 235 (.pointer (some ew))))
              (first | exact cw | assumption | go_keep)
              (first
                | (go_at_call 109; refine (HI.out _ (L3.out.drew)).mono ?_; rintro e w4 ⟨⟨s, rfl⟩, l4⟩; have hS4 := cell_to cw (bdr l4); have hS5 := fun o => cell_to hS4 (below_new w4 o); have l5 := Lib.hid (L3.out.trans ((bdr l4).mono L3.out.size)); clear l4))
            go_wp2_with fail
            go_ret
            exact ⟨.inr ⟨HF.out, _, rfl⟩, l5.out.alloc l5.out.size _⟩
          · have hle : Op.bytesLess ka kb = true := (less_before ka kb).trans hbb
            have HG2 := Lib.hid (HG.out.trans hbb)
            clear hbb
            go_wp2_with fail
            go_region_held3 (fun W => W.cell? ⟨g, o + j * 3, none⟩ = some (.int .i64 m2) ∧ W.cell? ⟨g, o + j * 3 + 1, none⟩ = some (.string ⟨nm2.toArray⟩) ∧ W.cell? ⟨g, o + j * 3 + 2, none⟩ = some (.string ⟨di2.toArray⟩) ∧ W.cell? ⟨wr.heap.size, 0, none⟩ = some (.int .i64 m) ∧ W.cell? ⟨wr.heap.size, 1, none⟩ = some (.string ⟨nm.toArray⟩) ∧ W.cell? ⟨wr.heap.size, 2, none⟩ = some (.string ⟨di.toArray⟩) ∧ Below w1.heap.size w1 W)
              (first | exact ⟨q0, q1, q2, b0, b1, b2, (Below.refl _ _).drew⟩ | assumption | go_keep)
              (first
                | (go_at_call 122; (with_reducible refine (HP.out _).mono ?_); rintro e w2 ⟨rfl, l2⟩; have hS2 := And.intro (cell_to q0 (bdr l2)) (And.intro (cell_to q1 (bdr l2)) (And.intro (cell_to q2 (bdr l2)) (And.intro (cell_to b0 (bdr l2)) (And.intro (cell_to b1 (bdr l2)) (And.intro (cell_to b2 (bdr l2)) (bdr l2)))))))
                | (go_at_call 122; (with_reducible refine (HQ.out _).mono ?_); rintro e w3 ⟨rfl, l3⟩; have hS3 := And.intro (cell_to hS2.1 l3) (And.intro (cell_to hS2.2.1 l3) (And.intro (cell_to hS2.2.2.1 l3) (And.intro (cell_to hS2.2.2.2.1 l3) (And.intro (cell_to hS2.2.2.2.2.1 l3) (And.intro (cell_to hS2.2.2.2.2.2.1 l3) (hS2.2.2.2.2.2.2.trans (l3.mono hS2.2.2.2.2.2.2.size)))))))))
            have LT := Lib.hid (hS3.2.2.2.2.2.2)
            have bn := hS3.2.2.2.2.1
            clear hS2 hS3 q0 q1 q2 b0 b1 b2 l2 l3 e1 e2 e3 d0 d1
            go_wp2_with (at_builtin; refine wpList_one strK rfl _ _ rfl w.heap.size u3 _ nm _ rfl rfl rfl (HO.out.below LT.out (Nat.le_refl _)) ?d1 (by decide) ?d2 ?_)
            case d1 => have := HNL.out; omega
            case d2 => have := L1.out.size; have := LT.out.size; omega
            intro v' w4 ho2 hb2
            have HR2 := Lib.hid (CkRel.step HN.out hlt HX.out hrel.out.2.2 HG2.out ho2 (L1.out.trans (LT.out.mono L1.out.size)) hb2)
            clear ho2 hb2
            go_wp2_with fail
            go_roundw
            case rel => exact ⟨k + 1, by omega, by go_num, HR2⟩
            case measure => simp [intOf]; omega
      · have L1 := Lib.hid (L0.out.trans (l1.mono L0.out.size))
        have HF : Hid (rightT l = false) := Lib.hid (rightT_no hlt (by rw [goodI_of HX.out rfl, hi]; rfl))
        clear hi l1 c0 c1 c2
        go_wp2_with fail
        refine (HI.out _ L1.out).mono ?_
        rintro e w2 ⟨⟨s, rfl⟩, l2⟩
        have L2 := Lib.hid (L1.out.trans (l2.mono L1.out.size))
        clear l2
        go_wp2_with fail
        go_ret
        exact ⟨.inr ⟨HF.out, _, rfl⟩, L2.out.alloc L2.out.size _⟩
    · obtain rfl : k = l.length := by omega
      obtain ⟨ho, hb, hg⟩ := hrel.out
      rw [List.take_length] at ho
      have HO := Lib.hid ho; have HB := Lib.hid hb; have HG := Lib.hid hg
      have hone : ∀ b, decide ((l.map Itm.name).Nodup) = b → Calls Tryz.prog 123 #[u3] wr (CkPost b wr) := fun b hb' => by
        have hr3 : StrsR wr u3 (l.map Itm.name) := ho.rd strC_len
        have hl3 : (l.map Itm.name).length ≤ 1000000 := by rw [List.length_map]; have := HL.out; omega
        cases b
        · exact (checkOnce_no _ hl3 u3 wr hr3 (HE.out.below hb) (of_decide_eq_false hb')).mono fun e w' ⟨p, h1, h2⟩ => ⟨.inr ⟨rfl, p, h1⟩, h2⟩
        · exact (checkOnce_yes _ hl3 u3 wr hr3 (HE.out.below hb) (of_decide_eq_true hb')).mono fun e w' ⟨h1, h2⟩ => ⟨.inl ⟨rfl, h1⟩, h2⟩
      have HRT := Lib.hid (rightT_eq HL.out hg)
      cases hd : decide ((l.map Itm.name).Nodup)
      · have H1 := Lib.hid (hone _ hd)
        have HF : Hid (rightT l = false) := Lib.hid (HRT.out.trans hd)
        clear hone hd ho hb hg hrel
        go_wp2_with fail
        refine H1.out.mono ?_
        rintro e w1 ⟨⟨hx, _⟩ | ⟨_, p, rfl⟩, l1⟩
        · cases hx
        have HWn := Lib.hid (within_some ⟨#[105, 116, 101, 109, 115]⟩ (.iface 129 (.pointer (some p))) ⟨p, rfl⟩ w1)
        have L1 := Lib.hid (HB.out.trans (l1.mono HB.out.size))
        clear l1
        go_wp2_with fail
        refine HWn.out.mono ?_
        rintro e w2 ⟨rfl, rfl⟩
        go_wp2_with fail
        go_ret
        exact ⟨.inr ⟨HF.out, _, rfl⟩, L1.out.alloc L1.out.size _⟩
      · have H1 := Lib.hid (hone _ hd)
        have HF : Hid (rightT l = true) := Lib.hid (HRT.out.trans hd)
        clear hone hd ho hb hg hrel
        go_wp2_with fail
        refine H1.out.mono ?_
        rintro e w1 ⟨⟨_, rfl⟩ | ⟨hx, _⟩, l1⟩
        case inr => cases hx
        have HWn := Lib.hid (within_nil (.string ⟨#[105, 116, 101, 109, 115]⟩) w1)
        have L1 := Lib.hid (HB.out.trans (l1.mono HB.out.size))
        clear l1
        go_wp2_with fail
        refine HWn.out.mono ?_
        rintro e w2 ⟨rfl, rfl⟩
        go_wp2_with fail
        go_ret
        exact ⟨.inl ⟨HF.out, rfl⟩, L1.out⟩
set_option maxRecDepth 100000 in
set_option maxHeartbeats 1000000 in
theorem checkTree_any (l : List Itm) (v : Value) (w : World) (hr : ItmsR w v l) (hs : Smalls l) (hl : l.length ≤ 1000000) (he : Er w) (ht : Tb w) :
    Calls Tryz.prog 110 #[v] w (CkPost (rightT l) w) := by
  by_cases h : l.length ≤ 256
  · exact checkTree_gen l v w hr hs h he ht
  · have hf : rightT l = false := by
      cases hr : rightT l
      · rfl
      · exact absurd (rightT_parts.1 hr).1 h
    have HF := Lib.hid hf
    obtain ⟨A, c, rfl⟩ := hr.shape
    obtain ⟨pe, c0⟩ := he.over
    have hl2 : (256 : Int) < (l.length : Int) := by omega
    clear hr hs he ht hf h
    go_enter Tryz.func110, Tryz.ntmps110
    go_wp2_with fail
    go_ret
    exact ⟨.inr ⟨HF.out, _, rfl⟩, below_new w _⟩
end Go.Proofs.YtialgldmogigfaaGreatDoor


namespace Go.Proofs.YtialgldmogigfaaGreatDoor
open Go Go.RowKit
section
variable {P : Program} {ops : Array Oper} {Q : Exit → Go.Act → World → Prop} {S : World → Prop}
theorem held_start (S : World → Prop) {id : Nat} {a : Go.Act} {w : World} (hm : P.follows .mixedOrders = true) (h : wpAnyH P .any ops Q S ops.size (Array.replicate ops.size false) a w.drew) : (Code.region id ops true).wp P Q a w :=
  wp_region_held hm h
theorem held_take (i : Nat) (v : Value) {oi : Oper} {fuel : Nat} {listed : Array Bool} {a : Go.Act} {w : World} (hi : ops[i]? = some oi)
    (hs : Region.noSelect ops = true) (hf : Region.free .any ops listed i = true) (hr : (Region.ready .any ops listed).contains i = true)
    (hQ : ∀ c a w, Q (.panic c) (a.put oi.dst v) w → Q (.panic c) a w) (hw : Region.wanted oi (yielded ops a.tmps) = true)
    (hy : ∀ W, S W → (execOp a.eval oi).run P W = .ok (.value v) W) (hS : S w)
    (h : wpAnyH P .any ops Q S fuel (listed.setIfInBounds i true) (a.put oi.dst v) w) : wpAnyH P .any ops Q S (fuel + 1) listed a w :=
  wpAnyH_take hi hs hf hr hQ (.inl ⟨hw, hy⟩) hS h
theorem held_op {i : Nat} (v : Value) (w' : World) {oi : Oper} {fuel : Nat} {listed : Array Bool} {a : Go.Act} {w : World} (hi : ops[i]? = some oi) (hw : Region.wanted oi (yielded ops a.tmps) = true)
    (he : (execOp a.eval oi).run P w = .ok (.value v) w') (hS : S w') (h : wpAnyH P .any ops Q S fuel (listed.setIfInBounds i true) (a.put oi.dst v) w') :
    wpOp P ops Q i (fun a' w' => S w' ∧ wpAnyH P .any ops Q S fuel (listed.setIfInBounds i true) a' w') a w := by
  unfold wpOp
  rw [hi]
  simp only
  rw [if_pos hw]
  left
  unfold Oper.wp
  rw [he]
  exact ⟨hS, h⟩
theorem held_store {i : Nat} (w' : World) {oi : Oper} {fuel : Nat} {listed : Array Bool} {a : Go.Act} {w : World} (hi : ops[i]? = some oi) (hw : Region.wanted oi (yielded ops a.tmps) = true)
    (he : (execOp a.eval oi).run P w = .ok .skip w') (hS : S w') (h : wpAnyH P .any ops Q S fuel (listed.setIfInBounds i true) (a.put oi.dst undef) w') :
    wpOp P ops Q i (fun a' w' => S w' ∧ wpAnyH P .any ops Q S fuel (listed.setIfInBounds i true) a' w') a w := by
  unfold wpOp
  rw [hi]
  simp only
  rw [if_pos hw]
  left
  unfold Oper.wp
  rw [he]
  exact ⟨hS, h⟩
theorem held_one {i : Nat} {fuel : Nat} {listed : Array Bool} {a : Go.Act} {w : World} (hr : Region.ready .any ops listed = [i])
    (h : wpOp P ops Q i (fun a' w' => S w' ∧ wpAnyH P .any ops Q S fuel (listed.setIfInBounds i true) a' w') a w) : wpAnyH P .any ops Q S (fuel + 1) listed a w :=
  wpAnyH_all hr (by simp) (fun j hj => by have e : j = i := by simpa using hj
                                          subst e; exact h)
theorem held_two {i j : Nat} {fuel : Nat} {listed : Array Bool} {a : Go.Act} {w : World} (hr : Region.ready .any ops listed = [i, j])
    (h : wpOp P ops Q i (fun a' w' => S w' ∧ wpAnyH P .any ops Q S fuel (listed.setIfInBounds i true) a' w') a w)
    (h' : wpOp P ops Q j (fun a' w' => S w' ∧ wpAnyH P .any ops Q S fuel (listed.setIfInBounds j true) a' w') a w) : wpAnyH P .any ops Q S (fuel + 1) listed a w :=
  wpAnyH_all hr (by simp) (fun k hk => by
    have e : k = i ∨ k = j := by simpa using hk
    rcases e with e | e
    · subst e; exact h
    · subst e; exact h')
theorem held_done {listed : Array Bool} {a : Go.Act} {w : World} (fuel : Nat) (hr : Region.ready .any ops listed = []) (h : Q .normal a w) : wpAnyH P .any ops Q S fuel listed a w :=
  wpAnyH_done hr h fuel
end
section
variable {P : Program} {a : Go.Act} {o : Oper} {W : World}
theorem y_load {t : TypeId} {s : Operand} {sv r : Value} (ho : o.op = .load t s) (hs : a.eval s = sv) (h : (Instr.loadAt t sv).run P W = .ok r W) : (execOp a.eval o).run P W = .ok (.value r) W := by
  subst hs
  simp only [execOp, ho]
  simp [h, Result.andThen]
theorem y_store {t : TypeId} {s x : Operand} {sv xv : Value} {W' : World} (ho : o.op = .store t s x) (hs : a.eval s = sv) (hx : a.eval x = xv) (h : (Instr.storeAt t sv xv).run P W = .ok () W') : (execOp a.eval o).run P W = .ok .skip W' := by
  subst hs hx
  simp only [execOp, ho]
  simp [h, Result.andThen]
theorem y_append {st : TypeId} {s y : Operand} {sv yv r : Value} {W' : World} (ho : o.op = .call { callee := .builtin .append, args := #[s, y], argTypes := #[st, st] }) (hs : a.eval s = sv) (hy : a.eval y = yv)
    (h : (Builtin.append_ #[st, st] o.type #[sv, yv]).run P W = .ok r W') : (execOp a.eval o).run P W = .ok (.value r) W' := by
  subst hs hy
  simp [execOp, ho, resolve, invoke, builtin, h, Result.andThen]
end
end Go.Proofs.YtialgldmogigfaaGreatDoor
