/-
  head: a live question, whose answer is fixed.
-/
import Derived.Test.YtdkkeaaepebafaaGreatDoorNm
import Derived.Test.YtdkkeaaepebafaaGreatDoorDRSum
import Derived.Test.YtdkkeaaepebafaaGreatDoorLawP
import Derived.Test.YtdkkeaaepebafaaGreatDoorWriteC
import Derived.Lib.SlBytesConst
namespace Go.Proofs.YtdkkeaaepebafaaGreatDoor
open Go Go.RowKit Go.Shelf

/-- What layer 4 asks of a world. -/
structure Ob (w : World) : Prop where
  eb : Eb w
  tb : Tb w
  pr : Pr w
theorem Ob.below {w w' : World} (h : Ob w) (hb : Below w.heap.size w w') : Ob w' := ⟨h.eb.below hb, h.tb.below hb, h.pr.below hb h.pr.lt⟩

theorem itms_two (W : World) (x y : Itm) : ItmsR (W.alloc (.cells #[.int .i64 x.mode, .string ⟨x.name.toArray⟩, .string ⟨x.id.toArray⟩, .int .i64 y.mode, .string ⟨y.name.toArray⟩, .string ⟨y.id.toArray⟩] 54)) (.slice (some ⟨W.heap.size, 0, none⟩) 2 2) [x, y] :=
  .inr ⟨W.heap.size, 0, 2, rfl, Nat.le_refl _, by simp, fun j hj z hz i hi => by
    rw [Nat.zero_add, cell_of_row (W.alloc _) W.heap.size (j * 3 + i) _ _ _ (heap_alloc_new W _)]
    match j, hj with
    | 0, _ =>
      cases hz
      match i, hi with
      | 0, _ => rfl
      | 1, _ => rfl
      | 2, _ => rfl
    | 1, _ =>
      cases hz
      match i, hi with
      | 0, _ => rfl
      | 1, _ => rfl
      | 2, _ => rfl⟩

theorem rb_blob (W : World) : Rb (W.alloc (.cells #[.int .u8 98, .int .u8 108, .int .u8 111, .int .u8 98, .int .u8 32, .int .u8 48, .int .u8 10] 5 (7, 8))) (.slice (some ⟨W.heap.size, 0, none⟩) 7 7) [98, 108, 111, 98, 32, 48, 10] :=
  .inr ⟨W.heap.size, 0, 7, rfl, Nat.le_refl _, by simp, fun j hj => by
    rw [Nat.zero_add, cell_of_row (W.alloc _) W.heap.size j _ _ _ (heap_alloc_new W _)]
    match j, hj with
    | 0, _ => rfl
    | 1, _ => rfl
    | 2, _ => rfl
    | 3, _ => rfl
    | 4, _ => rfl
    | 5, _ => rfl
    | 6, _ => rfl⟩
def blob0 : List UInt8 := [98, 108, 111, 98, 32, 48, 10]
theorem head_blob : headL 1 [] = blob0 := by
  unfold headL
  rw [show (([] : List UInt8).length : Int) = ((0 : Nat) : Int) from rfl, textL_nat, dd_zero]; rfl
theorem id_blob : idL 1 [] = nameL blob0 := by
  unfold idL
  rw [show wantsO 1 [] = some [] from rfl, head_blob]; rfl
theorem tree_no (nm : List UInt8) : rightT [⟨3, [97], nm⟩, ⟨1, [97, 46, 99], nm⟩] = false := by
  cases h : rightT [⟨3, [97], nm⟩, ⟨1, [97, 46, 99], nm⟩]
  · rfl
  · have h1 := rise_one h (i := 0) (by simp)
    have h2 : bytesBefore [97, 47] [97, 46, 99] = false := by decide
    exact absurd (h2.symm.trans h1) (by decide)
theorem tree_yes {nm : List UInt8} (hn : namedB nm = true) : rightT [⟨1, [97, 46, 99], nm⟩, ⟨3, [97], nm⟩] = true := by
  refine rightT_iff.2 ⟨by simp, fun x hx => ?_, ?_, show ([[97, 46, 99], [97]] : List (List UInt8)).Nodup by decide⟩
  · simp only [List.mem_cons, List.not_mem_nil, or_false] at hx
    rcases hx with rfl | rfl
    · unfold itemB; rw [hn]; show (decide ((1 : Int) ≤ 1) && decide ((1 : Int) ≤ 3) && partB [97, 46, 99] && true) = true; decide
    · unfold itemB; rw [hn]; show (decide ((1 : Int) ≤ 3) && decide ((3 : Int) ≤ 3) && partB [97] && true) = true; decide
  · refine List.pairwise_cons.2 ⟨fun y hy => ?_, List.pairwise_cons.2 ⟨fun y hy => by simp at hy, List.Pairwise.nil⟩⟩
    obtain rfl := List.mem_singleton.1 hy
    show bytesBefore [97, 46, 99] [97, 47] = true
    decide
theorem chg_yes {nm : List UInt8} (hn : namedB nm = true) : rightC ⟨nm, [], [119], [116]⟩ = true :=
  rightC_parts.2 ⟨hn, Nat.zero_le _, fun p hp => by simp at hp, List.Pairwise.nil, show whoB [119] = true by decide⟩
theorem lbl_yes {nm : List UInt8} (hn : namedB nm = true) : rightL ⟨nm, 1, [110], []⟩ = true :=
  rightL_parts.2 ⟨hn, ⟨show (1 : Int) ≤ 1 by decide, show (1 : Int) ≤ 4 by decide⟩, show partB [110] = true by decide⟩
theorem right_tag0 : (wantsO 4 []).isSome = false := by decide
theorem right_tree0 : (wantsO 2 []).isSome = true := by decide

set_option maxRecDepth 100000 in
set_option maxHeartbeats 4000000 in
theorem head_any (w : World) (ho : Ob w) : Calls Tryz.prog 10 #[] w (RetBelow (.bool true) w) := by
  obtain ⟨nm, hnm⟩ : ∃ nm, nm = nameL blob0 := ⟨_, rfl⟩
  have hn : namedB nm = true := by rw [hnm]; exact named_nameL _
  have hlen := named_len64 hn
  have HI := Lib.hid (Id_any 1 [] (by decide) w ho.eb ho.tb ho.pr)
  rw [id_blob, ← hnm] at HI
  have HO := Lib.hid ho
  have sm : ∀ x ∈ [(⟨3, [97], nm⟩ : Itm), ⟨1, [97, 46, 99], nm⟩], x.name.length ≤ 1000000 ∧ x.id.length ≤ 1000000 := fun x hx => by
    simp only [List.mem_cons, List.not_mem_nil, or_false] at hx
    rcases hx with rfl | rfl <;> exact ⟨by simp, by show nm.length ≤ _; omega⟩
  have sm2 : ∀ x ∈ [(⟨1, [97, 46, 99], nm⟩ : Itm), ⟨3, [97], nm⟩], x.name.length ≤ 1000000 ∧ x.id.length ≤ 1000000 := fun x hx => sm x (by simp only [List.mem_cons, List.not_mem_nil, or_false] at hx ⊢; exact hx.symm)
  have HT1 : Hid (∀ W, Below w.heap.size w W → Calls Tryz.prog 19 #[.slice (some ⟨W.heap.size, 0, none⟩) 2 2] (W.alloc (.cells #[.int .i64 3, .string ⟨#[97]⟩, .string ⟨nm.toArray⟩, .int .i64 1, .string ⟨#[97, 46, 99]⟩, .string ⟨nm.toArray⟩] 54)) (RetBelow (.tuple #[.string ⟨#[]⟩, .bool false]) (W.alloc (.cells #[.int .i64 3, .string ⟨#[97]⟩, .string ⟨nm.toArray⟩, .int .i64 1, .string ⟨#[97, 46, 99]⟩, .string ⟨nm.toArray⟩] 54)))) := Lib.hid fun W hW => by
    have h := PutTree_any _ _ _ (itms_two W ⟨3, [97], nm⟩ ⟨1, [97, 46, 99], nm⟩) sm (by simp) ((ho.below hW).eb.below (below_new W _)).er ((ho.below hW).tb.below (below_new W _))
    rw [putTV_no (tree_no nm)] at h
    exact h
  obtain ⟨t2, ht2⟩ : ∃ t2, t2 = putT [⟨1, [97, 46, 99], nm⟩, ⟨3, [97], nm⟩] := ⟨_, rfl⟩
  have HT2 : Hid (∀ W, Below w.heap.size w W → Calls Tryz.prog 19 #[.slice (some ⟨W.heap.size, 0, none⟩) 2 2] (W.alloc (.cells #[.int .i64 1, .string ⟨#[97, 46, 99]⟩, .string ⟨nm.toArray⟩, .int .i64 3, .string ⟨#[97]⟩, .string ⟨nm.toArray⟩] 54)) (RetBelow (.tuple #[.string ⟨t2.toArray⟩, .bool true]) (W.alloc (.cells #[.int .i64 1, .string ⟨#[97, 46, 99]⟩, .string ⟨nm.toArray⟩, .int .i64 3, .string ⟨#[97]⟩, .string ⟨nm.toArray⟩] 54)))) := Lib.hid fun W hW => by
    have h := PutTree_any _ _ _ (itms_two W ⟨1, [97, 46, 99], nm⟩ ⟨3, [97], nm⟩) sm2 (by simp) ((ho.below hW).eb.below (below_new W _)).er ((ho.below hW).tb.below (below_new W _))
    rw [putTV_yes (tree_yes hn), ← ht2] at h
    exact h
  obtain ⟨c, hc⟩ : ∃ c, c = putC ⟨nm, [], [119], [116]⟩ := ⟨_, rfl⟩
  have hcl : c.length ≤ 1001 := by rw [hc]; exact putC_len (chg_yes hn)
  have HC : Hid (∀ W, Below w.heap.size w W → Calls Tryz.prog 25 #[.agg #[.string ⟨nm.toArray⟩, .slice none 0 0, .string ⟨#[119]⟩, .string ⟨#[116]⟩]] W (RetBelow (.tuple #[.string ⟨c.toArray⟩, .bool true]) W)) := Lib.hid fun W hW => by
    have h := PutChange_any ⟨nm, [], [119], [116]⟩ (.slice none 0 0) W (.inl ⟨⟨_, _, rfl⟩, rfl⟩) ⟨by show nm.length ≤ _; omega, fun p hp => by simp at hp, by simp, by simp⟩ (ho.below hW).eb.er
    rw [putCV_yes (chg_yes hn), ← hc] at h
    exact h
  have HWt : Hid (∀ W, Below w.heap.size w W → Calls Tryz.prog 16 #[.agg #[.int .i64 3, .string ⟨c.toArray⟩]] W fun e w' => ∃ g o cc, e = .returned (.slice (some ⟨g, o, none⟩) 1 cc) ∧ w'.cell? ⟨g, o + 1, none⟩ = some (.int .i64 2) ∧ Below W.heap.size W w') := Lib.hid fun W hW => by
    have h := Wants_any 3 c (by omega) W (ho.below hW).eb (ho.below hW).tb
    rw [hc, wants_putC (chg_yes hn) (by rw [← hc]; omega)] at h
    rw [hc]
    refine h.mono ?_
    rintro e w' ⟨hb, v, rfl, hr, _⟩
    have hr2 : WantsR w' v [(nm, 2)] := hr
    obtain ⟨g, o, cc, rfl, _, _⟩ := hr2.pos (by simp)
    have hx := (WantsR.cells hr2 0 (by simp)).2
    exact ⟨g, o, cc, rfl, by simpa using hx, hb⟩
  obtain ⟨l, hl⟩ : ∃ l, l = putL4 ⟨nm, 1, [110], []⟩ := ⟨_, rfl⟩
  have hll : l.length ≤ 1000 := by rw [hl]; exact putL_len4 (lbl_yes hn)
  have HL : Hid (∀ W, Below w.heap.size w W → Calls Tryz.prog 27 #[.agg #[.string ⟨nm.toArray⟩, .int .i64 1, .string ⟨#[110]⟩, .string ⟨#[]⟩]] W (RetBelow (.tuple #[.string ⟨l.toArray⟩, .bool true]) W)) := Lib.hid fun W hW => by
    have h := PutLabel_any ⟨nm, 1, [110], []⟩ W ⟨by show nm.length ≤ _; omega, by simp, by simp⟩ (ho.below hW).eb.er
    rw [putLV_yes (lbl_yes hn), ← hl] at h
    exact h
  have HR1 : Hid (∀ W, Below w.heap.size w W → Calls Tryz.prog 11 #[.agg #[.int .i64 4, .string ⟨l.toArray⟩]] W (RetBelow (.bool true) W)) := Lib.hid fun W hW => by
    have h := Right_any 4 l (by omega) W (ho.below hW).eb (ho.below hW).tb
    rw [hl, wants_putL (lbl_yes hn) (by rw [← hl]; omega)] at h
    rw [hl]; exact h
  have HR2 : Hid (∀ W, Below w.heap.size w W → Calls Tryz.prog 11 #[.agg #[.int .i64 4, .string ⟨#[]⟩]] W (RetBelow (.bool false) W)) := Lib.hid fun W hW => by
    have h := Right_any 4 [] (by decide) W (ho.below hW).eb (ho.below hW).tb
    rw [right_tag0] at h; exact h
  have HR3 : Hid (∀ W, Below w.heap.size w W → Calls Tryz.prog 11 #[.agg #[.int .i64 2, .string ⟨#[]⟩]] W (RetBelow (.bool true) W)) := Lib.hid fun W hW => by
    have h := Right_any 2 [] (by decide) W (ho.below hW).eb (ho.below hW).tb
    rw [right_tree0] at h; exact h
  have HN : Hid (∀ (W : World) (v : Value), Rb W v blob0 → Calls Tryz.prog 35 #[v] W (RetBelow (.string ⟨nm.toArray⟩) W)) := Lib.hid fun W v hr => by
    have h := RName_any W v blob0 (by decide) hr
    rw [← hnm] at h; exact h
  unfold ObjV at HI
  unfold SV at HI
  clear ho hn hlen hnm sm sm2 ht2 hc hcl hl hll
  go_enter Tryz.func10, Tryz.ntmps10
  go_wp2_with fail
  refine HI.out.mono ?_
  rintro e w1 ⟨rfl, l1⟩
  have L1 := Lib.hid l1
  clear l1
  go_wp2_with fail
  refine (HT1.out _ L1.out).mono ?_
  rintro e w2 ⟨rfl, l2⟩
  have L2 := Lib.hid ((L1.out.alloc L1.out.size _).trans (l2.mono (L1.out.alloc L1.out.size _).size))
  clear l2 L1
  go_wp2_with fail
  refine (HT2.out _ L2.out).mono ?_
  rintro e w3 ⟨rfl, l3⟩
  have L3 := Lib.hid ((L2.out.alloc L2.out.size _).trans (l3.mono (L2.out.alloc L2.out.size _).size))
  clear l3 L2
  go_wp2_with fail
  refine (HC.out _ L3.out).mono ?_
  rintro e w4 ⟨rfl, l4⟩
  have L4 := Lib.hid (L3.out.trans (l4.mono L3.out.size))
  clear l4 L3
  go_wp2_with fail
  refine (HWt.out _ L4.out).mono ?_
  rintro e w5 ⟨g, o, cc, rfl, hk, l5⟩
  have L5 := Lib.hid (L4.out.trans (l5.mono L4.out.size))
  have HK := Lib.hid hk
  clear l5 L4 hk
  go_wp2_with fail
  refine (HL.out _ L5.out).mono ?_
  rintro e w6 ⟨rfl, l6⟩
  have HK6 := Lib.hid (cell_to HK.out l6)
  have L6 := Lib.hid (L5.out.trans (l6.mono L5.out.size))
  clear l6 L5 HK
  have kc := fun (w : World) (C : Array Value) (n c : Nat) => Lib.run_convert_bytes_const (P := Tryz.prog) w 62 5 C n c Tryz.underlying62 Tryz.underlying5
  go_wp2_with fail
  clear kc
  refine (HN.out _ _ (rb_blob _)).mono ?_
  rintro e w7 ⟨rfl, l7⟩
  have b7 := below_new w6 (.cells #[.int .u8 98, .int .u8 108, .int .u8 111, .int .u8 98, .int .u8 32, .int .u8 48, .int .u8 10] 5 (7, 8))
  have k7 := cell_to HK6.out (b7.trans (l7.mono b7.size))
  have L7 := Lib.hid (L6.out.trans ((b7.trans (l7.mono b7.size)).mono L6.out.size))
  clear l7 b7
  go_wp2_with fail
  refine (HR1.out _ L7.out).mono ?_
  rintro e w8 ⟨rfl, l8⟩
  have L8 := Lib.hid (L7.out.trans (l8.mono L7.out.size))
  clear l8 k7
  go_wp2_with fail
  refine (HR2.out _ L8.out).mono ?_
  rintro e w9 ⟨rfl, l9⟩
  have L9 := Lib.hid (L8.out.trans (l9.mono L8.out.size))
  clear l9
  go_wp2_with fail
  refine (HR3.out _ L9.out).mono ?_
  rintro e w10 ⟨rfl, l10⟩
  have L10 := Lib.hid (L9.out.trans (l10.mono L9.out.size))
  clear l10
  go_wp2_with fail
  go_ret
  exact ⟨rfl, L10.out⟩
end Go.Proofs.YtdkkeaaepebafaaGreatDoor
