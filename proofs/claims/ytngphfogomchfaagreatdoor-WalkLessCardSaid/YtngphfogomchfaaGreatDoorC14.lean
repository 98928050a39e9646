/-
  readTree, GetTree, treeWants.
-/
import Derived.Test.YtngphfogomchfaaGreatDoorC13
import Derived.Test.YtngphfogomchfaaGreatDoorC12

namespace Go.Proofs.YtngphfogomchfaaGreatDoor
open Go Go.RowKit Go.Shelf
theorem getI_len {s r : List UInt8} {x : Itm} (h : getI s = some (x, r)) : r.length < s.length ∧ x.name.length ≤ s.length ∧ x.id.length ≤ s.length := by
  match s, h with
  | m :: b :: s, h =>
    rw [getI] at h
    by_cases hb : b = 32
    · rw [if_pos hb] at h
      cases hc : cutAt 0 s with
      | none => rw [hc] at h; cases h
      | some p =>
        obtain ⟨a, q⟩ := p
        rw [hc] at h
        simp only at h
        by_cases hq : 64 ≤ q.length
        · rw [if_pos hq] at h
          simp only [Option.some.injEq, Prod.mk.injEq] at h
          obtain ⟨rfl, rfl⟩ := h
          obtain ⟨e, _⟩ := cutAt_some hc
          subst e
          simp
          omega
        · rw [if_neg hq] at h; cases h
    · rw [if_neg hb] at h; cases h
  | [], h => cases h
  | [_], h => cases h
/-- What readTree answers. -/
def TrPost (o : Option (List Itm)) (w : World) (e : Ending) (w' : World) : Prop :=
  ((∃ v l, o = some l ∧ e = .returned (.tuple #[v, .nilIface]) ∧ ItmsR w' v l ∧ l.length ≤ 256) ∨
   (∃ v l p, o = none ∧ e = .returned (.tuple #[v, .iface 134 (.pointer (some p))]) ∧ ItmsR w' v l ∧ l.length ≤ 257)) ∧ Below w.heap.size w w'
/-- The loop of readTree, between two rounds. -/
def TrRel (s : List UInt8) (w : World) (r : List UInt8) (v : Value) (l : List Itm) (wr : World) : Prop :=
  OwK 59 3 itmC wr w.heap.size v l ∧ Below w.heap.size w wr ∧ l.length ≤ 257 ∧ Smalls l ∧ getIs 257 s = (getIs (257 - l.length) r).map fun p => (l ++ p.1, p.2)
def lenV : Value → Nat
  | .string b => b.size
  | _ => 0
theorem TrRel.start (s : List UInt8) (w : World) : TrRel s w s (.slice none 0 0) [] w :=
  ⟨OwK.nil _ _ _ _ _, Below.refl _ _, by simp, fun x hx => by simp at hx, by simp⟩
theorem TrRel.ends {s r : List UInt8} {w wr : World} {v : Value} {l : List Itm} (h : TrRel s w r v l wr) (he : r = [] ∨ l.length = 257) : getT s = if rightT l then some l else none := by
  have e : ∃ q, getIs 257 s = some (l, q) := by
    rcases he with rfl | he
    · rw [h.2.2.2.2]
      cases hf : 257 - l.length with
      | zero => exact ⟨[], by simp [getIs]⟩
      | succ n => exact ⟨[], by simp [getIs]⟩
    · rw [h.2.2.2.2, he]; exact ⟨r, by simp [getIs]⟩
  obtain ⟨q, hq⟩ := e
  unfold getT; rw [hq]
theorem TrRel.fails {s : List UInt8} {c : UInt8} {r : List UInt8} {w wr : World} {v : Value} {l : List Itm} (h : TrRel s w (c :: r) v l wr) (hl : l.length ≤ 256) (he : getI (c :: r) = none) : getT s = none := by
  unfold getT
  rw [h.2.2.2.2]
  obtain ⟨n, hn⟩ : ∃ n, 257 - l.length = n + 1 := ⟨256 - l.length, by omega⟩
  rw [hn, getIs, he]; rfl
theorem TrRel.step {s : List UInt8} {c : UInt8} {r q : List UInt8} {w wr w1 w2 : World} {v v' : Value} {l : List Itm} {x : Itm} (h : TrRel s w (c :: r) v l wr) (hl : l.length ≤ 256) (hs : (c :: r).length ≤ 1000000) (he : getI (c :: r) = some (x, q))
    (ho : OwK 59 3 itmC w2 w.heap.size v' (l ++ [x])) (h1 : Below w.heap.size w w1) (h2 : Below w.heap.size w1 w2) : TrRel s w q v' (l ++ [x]) w2 := by
  refine ⟨ho, h1.trans h2, by simp; omega, ?_, ?_⟩
  · intro y hy
    rcases List.mem_append.1 hy with hy | hy
    · exact h.2.2.2.1 y hy
    · have e : y = x := by simpa using hy
      have hg := getI_len he
      subst e
      exact ⟨by omega, by omega⟩
  · rw [h.2.2.2.2]
    obtain ⟨n, hn⟩ : ∃ n, 257 - l.length = n + 1 := ⟨256 - l.length, by omega⟩
    have hn2 : 257 - (l ++ [x]).length = n := by simp; omega
    rw [hn, hn2, getIs, he]
    show ((getIs n q).map _).map _ = _
    rw [Option.map_map]
    congr 1
    funext p
    simp
set_option maxRecDepth 100000 in
set_option maxHeartbeats 4000000 in
theorem readTree_any (s : List UInt8) (hs : s.length ≤ 1000000) (w : World) (he : Er w) (ht : Tb w) : Calls Tryz.prog 129 #[.string ⟨s.toArray⟩] w (TrPost (getT s) w) := by
  have HE := Lib.hid he; have HT := Lib.hid ht; have HS := Lib.hid hs
  clear he ht hs
  go_enter Tryz.func129, Tryz.ntmps129
  go_wp2_with fail
  go_loopw [0, 4] (fun vs vl wr => ∃ (r : List UInt8) (l : List Itm), vs = .string ⟨r.toArray⟩ ∧ Hid (r.length ≤ 1000000) ∧ Hid (TrRel s w r vl l wr)) (fun vs _ _ => lenV vs)
  case atStart => exact ⟨s, [], rfl, HS, Lib.hid (TrRel.start s w)⟩
  case round =>
    obtain ⟨r, l, rfl, hr, hrel⟩ := hrel
    have hll := hrel.out.2.2.1
    have hB := hrel.out.2.1
    have hR := hrel.out.1.rd itmC_len
    obtain ⟨A, cc, e0⟩ := hR.shape
    subst e0
    have HRd := Lib.hid hR
    have HB := Lib.hid hB
    have heR := HE.out.below hB
    have htR := HT.out.below hB
    have HEr := Lib.hid heR
    have HTr := Lib.hid htR
    clear hR hB heR htR
    by_cases hgo : r ≠ [] ∧ l.length ≤ 256
    · obtain ⟨hne, hl⟩ := hgo
      cases r with
      | nil => exact absurd rfl hne
      | cons c r =>
      have hri := readItem_any (c :: r) hr.out wr HEr.out
      have hl2 : (l.length : Int) ≤ 256 := by omega
      cases hg : getI (c :: r) with
      | none =>
        rw [hg] at hri
        have HRI := Lib.hid hri
        have HF := Lib.hid (hrel.out.fails hl hg)
        clear hri hne hg
        go_wp2_with fail
        refine HRI.out.mono ?_
        rintro e w1 ⟨⟨p, rfl⟩, l1⟩
        have hit := item_any l.length (by omega) (w1.alloc (.cells #[.int .i64 0, .string ⟨#[]⟩, .string ⟨#[]⟩] 59)) (HTr.out.below (l1.alloc l1.size _))
        have HIT := Lib.hid hit
        have L1 := Lib.hid ((HB.out.trans (l1.mono HB.out.size)).alloc (Nat.le_trans HB.out.size l1.size) (.cells #[.int .i64 0, .string ⟨#[]⟩, .string ⟨#[]⟩] 59))
        clear hit l1
        go_wp2_with fail
        refine HIT.out.mono ?_
        rintro e w2 ⟨⟨sx, rfl⟩, l2⟩
        have L2 := Lib.hid (L1.out.trans (l2.mono L1.out.size))
        clear l2
        go_wp2_with fail
        go_ret2
        exact ⟨.inr ⟨_, [], _, HF.out, rfl, .inl ⟨⟨_, _, rfl⟩, rfl⟩, by simp⟩, L2.out.alloc L2.out.size _⟩
      | some p =>
        obtain ⟨x, q⟩ := p
        rw [hg] at hri
        have HRI := Lib.hid hri
        have hgl := getI_len hg
        have HG := Lib.hid hg
        have HL := Lib.hid hgl
        obtain ⟨m, nm, di⟩ := x
        unfold ItmPost ItV SV at HRI
        clear hri hne hg hgl
        go_wp2_with fail
        refine HRI.out.mono ?_
        rintro e w1 ⟨rfl, l1⟩
        have L1 := Lib.hid ((HB.out.trans (l1.mono HB.out.size)).alloc (Nat.le_trans HB.out.size l1.size) (.cells #[.int .i64 m, .string ⟨nm.toArray⟩, .string ⟨di.toArray⟩] 59))
        have HO := Lib.hid ((hrel.out.1.below l1 (Nat.le_refl _)).below (below_new w1 (.cells #[.int .i64 m, .string ⟨nm.toArray⟩, .string ⟨di.toArray⟩] 59)) (Nat.le_refl _))
        clear l1
        go_wp2_with (at_builtin; refine wpList_one itmK rfl _ _ rfl w.heap.size (.slice A l.length cc) l ⟨m, nm, di⟩ _ rfl rfl (by simp [go_sem]) HO.out ?c1 (by decide) ?c2 ?_)
        case c1 => omega
        case c2 => exact L1.out.size
        intro v' w2 ho2 hb2
        have HR2 := Lib.hid (hrel.out.step hl hr.out HG.out ho2 L1.out hb2)
        clear ho2 hb2
        go_wp2_with fail
        go_roundw
        case rel => exact ⟨q, l ++ [⟨m, nm, di⟩], rfl, Lib.hid (by have := hr.out; have := HL.out.1; omega), HR2⟩
        case measure => exact HL.out.1
    · have hend : r = [] ∨ l.length = 257 := by
        by_cases hr0 : r = []
        · exact .inl hr0
        · right
          by_cases h : l.length ≤ 256
          · exact absurd ⟨hr0, h⟩ hgo
          · omega
      have hge := hrel.out.ends hend
      have hsm := hrel.out.2.2.2.1
      have hck := checkTree_any l (.slice A l.length cc) wr HRd.out hsm (by omega) HEr.out HTr.out
      have HC := Lib.hid hck; have HG := Lib.hid hge
      have hlq : rightT l = true → l.length ≤ 256 := fun h => (rightT_parts.1 h).1
      have HLQ := Lib.hid hlq
      clear hge hsm hck hgo hlq
      have hout : ∀ (e : Ending) (w1 : World), CkPost (rightT l) wr e w1 → ∃ ev, e = .returned ev ∧ TrPost (getT s) w (.returned (.tuple #[.slice A l.length cc, ev])) w1 := by
        rintro e w1 ⟨⟨h1, rfl⟩ | ⟨h1, p, rfl⟩, l1⟩
        · exact ⟨_, rfl, .inl ⟨_, l, by rw [HG.out, h1]; rfl, rfl, HRd.out.below l1 (Nat.le_refl _), HLQ.out h1⟩, HB.out.trans (l1.mono HB.out.size)⟩
        · exact ⟨_, rfl, .inr ⟨_, l, p, by rw [HG.out, h1]; rfl, rfl, HRd.out.below l1 (Nat.le_refl _), hll⟩, HB.out.trans (l1.mono HB.out.size)⟩
      have HOUT := Lib.hid hout
      clear hout hrel
      rcases hend with rfl | hl
      · go_wp2_with fail
        refine HC.out.mono ?_
        intro e w1 h1
        obtain ⟨ev, rfl, h2⟩ := HOUT.out e w1 h1
        have H2 := Lib.hid h2
        clear h1 h2
        go_wp2_with fail
        go_ret2
        exact H2.out
      · have hl2 : ¬ (l.length : Int) ≤ 256 := by omega
        clear hl
        cases r with
        | nil =>
          go_wp2_with fail
          refine HC.out.mono ?_
          intro e w1 h1
          obtain ⟨ev, rfl, h2⟩ := HOUT.out e w1 h1
          have H2 := Lib.hid h2
          clear h1 h2
          go_wp2_with fail
          go_ret2
          exact H2.out
        | cons c r =>
          go_wp2_with fail
          refine HC.out.mono ?_
          intro e w1 h1
          obtain ⟨ev, rfl, h2⟩ := HOUT.out e w1 h1
          have H2 := Lib.hid h2
          clear h1 h2
          go_wp2_with fail
          go_ret2
          exact H2.out
/-- What GetTree answers: all of a tree, or nothing. -/
def GtPost (o : Option (List Itm)) (w : World) (e : Ending) (w' : World) : Prop :=
  (∃ v l, e = .returned (.tuple #[v, .bool o.isSome]) ∧ ItmsR w' v l ∧ l = o.getD []) ∧ Below w.heap.size w w'
end Go.Proofs.YtngphfogomchfaaGreatDoor
namespace Go.Proofs.YtngphfogomchfaaGreatDoor
open Go Go.RowKit Go.Shelf
/-- The block of a slice is a new one. -/
def Fr (n : Nat) (v : Value) : Prop := ∀ g, v.ownBlock = some g → n ≤ g
theorem Fr.mono {n m : Nat} {v : Value} (h : Fr n v) (hm : m ≤ n) : Fr m v := fun g hg => Nat.le_trans hm (h g hg)
theorem Fr.nil (n a c : Nat) : Fr n (.slice none a c) := fun _ h => by cases h
theorem OwK.fr {α : Type} {t : TypeId} {k : Nat} {f : α → List Value} {w : World} {base n : Nat} {v : Value} {l : List α} (h : OwK t k f w base v l) (hn : n ≤ base) : Fr n v := fun g hg => by
  rcases h.2 with ⟨rfl, _⟩ | ⟨g', _, _, rfl, hb, _⟩
  · cases hg
  · cases hg; exact Nat.le_trans hn hb
/-- What is named, or an error. -/
def WtPost (o : Option (List (List UInt8 × Int))) (w : World) (e : Ending) (w' : World) : Prop :=
  ((∃ v l, o = some l ∧ e = .returned (.tuple #[v, .nilIface]) ∧ WantsR w' v l ∧ l.length ≤ 256 ∧ Fr w.heap.size v) ∨ (o = none ∧ ∃ A n c p, e = .returned (.tuple #[.slice A n c, .iface 134 (.pointer (some p))]))) ∧ Below w.heap.size w w'
def TwRel (l : List Itm) (w1 : World) (k : Nat) (v : Value) (wr : World) : Prop :=
  OwK 47 2 wantV wr w1.heap.size v ((l.take k).map wantI) ∧ Below w1.heap.size w1 wr
theorem TwRel.step {l : List Itm} {w1 w2 w3 : World} {k : Nat} {v' : Value} {x : Itm} {ns : List (List UInt8 × Int)} {y : List UInt8 × Int} (hns : ns = (l.take k).map wantI) (hk : k < l.length) (hx : x = l.getD k noItm) (hy : y = wantI x) 
    (ho : OwK 47 2 wantV w3 w1.heap.size v' (ns ++ [y])) (h1 : Below w1.heap.size w1 w2) (h2 : Below w1.heap.size w2 w3) : TwRel l w1 (k + 1) v' w3 := by
  refine ⟨?_, h1.trans h2⟩
  rw [take_getD l noItm k hk, List.map_append, ← hns, ← hx]
  subst hy
  exact ho
set_option maxRecDepth 100000 in
set_option maxHeartbeats 4000000 in
theorem treeWants_any (s : List UInt8) (hs : s.length ≤ 1000000) (w : World) (he : Er w) (ht : Tb w) :
    Calls Tryz.prog 116 #[.string ⟨s.toArray⟩] w (WtPost ((getT s).map fun l => l.map wantI) w) := by
  have hret : Calls Tryz.prog 129 #[.string ⟨s.toArray⟩] w fun e w1 => ∃ A c l ev, e = .returned (.tuple #[.slice A (l : List Itm).length c, ev]) ∧ l.length ≤ 257 ∧ ItmsR w1 (.slice A l.length c) l ∧ Below w.heap.size w w1 ∧
      ∀ v w2, WantsR w2 v (l.map wantI) → Fr w.heap.size v → Below w.heap.size w w2 → WtPost ((getT s).map fun l => l.map wantI) w (.returned (.tuple #[v, ev])) w2 := by
    refine (readTree_any s hs w he ht).mono ?_
    rintro e w1 ⟨⟨v, l, hg, rfl, hi, hn⟩ | ⟨v, l, p, hg, rfl, hi, hn⟩, l1⟩
    · obtain ⟨A, c, rfl⟩ := hi.shape
      exact ⟨A, c, l, _, rfl, by omega, hi, l1, fun v w2 h1 hf h2 => ⟨.inl ⟨v, _, by rw [hg]; rfl, rfl, h1, by rw [List.length_map]; exact hn, hf⟩, h2⟩⟩
    · obtain ⟨A, c, rfl⟩ := hi.shape
      refine ⟨A, c, l, _, rfl, hn, hi, l1, fun v w2 h1 _ h2 => ⟨.inr ⟨by rw [hg]; rfl, ?_⟩, h2⟩⟩
      obtain ⟨A2, c2, rfl⟩ := h1.shape
      exact ⟨_, _, _, p, rfl⟩
  have HT := Lib.hid hret
  clear hret he ht hs
  go_enter Tryz.func116, Tryz.ntmps116
  go_wp2_with fail
  refine HT.out.mono ?_
  rintro e w1 ⟨A, c, l, ev, rfl, hl, hr, l1, hout⟩
  have HR := Lib.hid hr; have L1 := Lib.hid l1; have HO := Lib.hid hout; have HL := Lib.hid hl
  clear hr l1 hout hl
  go_wp2_with fail
  go_loopw [6, 17] (fun vl vi wr => ∃ k : Nat, k ≤ l.length ∧ vi = .int .i64 k ∧ Hid (TwRel l w1 k vl wr)) (fun _ vi _ => l.length - (intOf vi).toNat)
  case atStart => exact ⟨0, Nat.zero_le _, rfl, Lib.hid ⟨OwK.nil _ _ _ _ _, Below.refl _ _⟩⟩
  case round =>
    obtain ⟨k, hk, rfl, hrel⟩ := hrel
    by_cases hlt : k < l.length
    · obtain ⟨g, o, c', e, _, hg⟩ := HR.out.pos (by omega)
      cases e
      obtain ⟨c0, c1, c2⟩ := ItmsR.cells (HR.out.below hrel.out.2 (Nat.le_refl _)) k hlt
      obtain ⟨x, hx⟩ : ∃ x, x = l.getD k noItm := ⟨_, rfl⟩
      rw [← hx] at c0 c1 c2
      have HX := Lib.hid hx
      obtain ⟨m, nm, di⟩ := x
      unfold SV at c1 c2
      simp only at c0 c1 c2
      obtain ⟨ns, hns⟩ : ∃ ns, ns = (l.take k).map wantI := ⟨_, rfl⟩
      have hown := hrel.out.1.below (below_new wr (.cells #[.int .i64 m, .string ⟨nm.toArray⟩, .string ⟨di.toArray⟩] 59)) (Nat.le_refl _)
      rw [← hns] at hown
      have HN := Lib.hid hns; have HOw := Lib.hid hown
      have hnl : ns.length ≤ 257 := by rw [hns, List.length_map, List.length_take]; have := HL.out; omega
      have HNL := Lib.hid hnl
      have B1 := Lib.hid (hrel.out.2.alloc hrel.out.2.size (.cells #[.int .i64 m, .string ⟨nm.toArray⟩, .string ⟨di.toArray⟩] 59))
      clear hx hns hown hnl
      by_cases hm : m = 3
      · subst hm
        go_wp2_with (at_builtin; refine wpList_one wantK rfl _ _ rfl w1.heap.size u6 ns (di, 2) _ rfl rfl (by simp [go_sem]) HOw.out ?c1 (by decide) ?c2 ?_)
        case c1 => have := HNL.out; omega
        case c2 => exact B1.out.size
        intro v' w2 ho2 hb2
        have HR2 := Lib.hid (TwRel.step HN.out hlt HX.out (by simp [wantI]) ho2 B1.out hb2)
        clear ho2 hb2
        have hL := HL.out
        have eL : IntKind.i64.wrap ((k : Int) + 1) = ((k + 1 : Nat) : Int) := by rw [IntWalk.i64_in _ (by omega)]; omega
        go_wp2_with fail
        go_roundw
        case rel => exact ⟨k + 1, by omega, by go_num, HR2⟩
        case measure => simp [intOf]; omega
      · go_wp2_with (at_builtin; refine wpList_one wantK rfl _ _ rfl w1.heap.size u6 ns (di, 1) _ rfl rfl (by simp [go_sem]) HOw.out ?c1 (by decide) ?c2 ?_)
        case c1 => have := HNL.out; omega
        case c2 => exact B1.out.size
        intro v' w2 ho2 hb2
        have HR2 := Lib.hid (TwRel.step HN.out hlt HX.out (by simp [wantI, hm]) ho2 B1.out hb2)
        clear ho2 hb2
        have hL := HL.out
        have eL : IntKind.i64.wrap ((k : Int) + 1) = ((k + 1 : Nat) : Int) := by rw [IntWalk.i64_in _ (by omega)]; omega
        go_wp2_with fail
        go_roundw
        case rel => exact ⟨k + 1, by omega, by go_num, HR2⟩
        case measure => simp [intOf]; omega
    · obtain rfl : k = l.length := by omega
      have h0 := hrel.out
      unfold TwRel at h0
      rw [List.take_length] at h0
      have HF := Lib.hid (HO.out _ wr (h0.1.rd wantV_len) (h0.1.fr L1.out.size) (L1.out.trans (h0.2.mono L1.out.size)))
      clear h0
      go_wp2_with fail
      go_ret2
      exact HF.out
end Go.Proofs.YtngphfogomchfaaGreatDoor
