/-
  The laws' live question.
  Plain: what layer 11's laws say of what is sent.
  What the laws' walks share.
-/
import Derived.Test.YtialgldmogigfaaGreatDoorC26
import Derived.Test.YtialgldmogigfaaGreatDoorC27
import Derived.Test.YtialgldmogigfaaGreatDoorC23
import Derived.Test.YtialgldmogigfaaGreatDoorC13
import Derived.Test.YtialgldmogigfaaGreatDoorC25

namespace Go.Proofs.YtialgldmogigfaaGreatDoor.Ct
open Go.Proofs.YtialgldmogigfaaGreatDoor
open Go Go.RowKit Go.Maps

def xY : List UInt8 := [98, 108, 111, 98, 32, 49, 10, 121]
def nY : List UInt8 := [50, 57, 98, 97, 51, 57, 49, 49, 53, 50, 50, 48, 53, 57, 99, 97, 55, 97, 53, 100, 56, 54, 50, 98, 99, 100, 102, 97, 97, 51, 53, 53, 51, 102, 97, 99, 52, 102, 98, 98, 98, 48, 48, 51, 99, 56, 51, 52, 57, 97, 99, 97, 52, 52, 55, 102, 51, 54, 50, 56, 101, 98, 57, 98]
theorem sum_Y : sumV xY = ⟨0x29ba3911, 0x522059ca, 0x7a5d862b, 0xcdfaa355, 0x3fac4fbb, 0xb003c834, 0x9aca447f, 0x3628eb9b⟩ := by
  have h : sumV xY = mixE H0 (fun j => padded xY (64 * 0 + j)) := by
    rw [mixE_eq]; rfl
  rw [h]
  decide +kernel
theorem name_Y : nameL xY = nY := by
  unfold nameL sumL
  rw [sum_Y]
  decide +kernel
theorem head_Y : headL 1 [121] = xY := by decide +kernel
theorem id_Y : idL 1 [121] = nY := by
  unfold idL
  rw [if_pos (by decide), head_Y, name_Y]
theorem ne_YB : nY ≠ nB := by decide +kernel
theorem ne_YT : nY ≠ nT := by decide +kernel
theorem nY_ne : nY ≠ [] := by decide
def hY : Hld := ⟨nY, 1, [121]⟩
def L1 : List Hld := [hB, hT, hY]
theorem set_L1 : setL [(1, [120]), (2, tdT), (1, [121])] = L1 := by
  unfold setL
  simp only [List.flatMap_cons, List.flatMap_nil, id_T, id_B, id_Y, if_neg nT_ne, if_neg nB_ne, if_neg nY_ne]
  rfl
def ThH (l : List Hld) : Prop := ∀ s, findL l s = if s = nT then some hT else if s = nB then some hB else if s = nY then some hY else none
theorem find_L1 : ThH L1 := fun s => by
  unfold L1
  rw [findL_cons, findL_cons, findL_cons]
  by_cases e : s = nT
  · rw [if_pos e, e, if_neg (show ¬ hB.id = nT from fun h => ne_TB h.symm), if_pos (show hT.id = nT from rfl)]
  · rw [if_neg e]
    by_cases e2 : s = nB
    · rw [if_pos e2, e2, if_pos (show hB.id = nB from rfl)]
    · rw [if_neg e2, if_neg (show ¬ hB.id = s from fun h => e2 h.symm), if_neg (show ¬ hT.id = s from fun h => e h.symm)]
      by_cases e3 : s = nY
      · rw [if_pos e3, e3, if_pos (show hY.id = nY from rfl)]
      · rw [if_neg e3, if_neg (show ¬ hY.id = s from fun h => e3 h.symm)]; rfl
theorem three_set {r : List Hld} (h : IsSet L1 r) : ThH r := fun s => (h.find s).trans (find_L1 s)
theorem rTc (l : List Hld) : Reach (wfL l) [nT] nT := .tip (by simp)
section
variable {l : List Hld} (h : ThH l)
include h
theorem ThH.ft : findL l nT = some hT := by rw [h, if_pos rfl]
theorem ThH.fb : findL l nB = some hB := by rw [h, if_neg (fun e => ne_TB e.symm), if_pos rfl]
theorem ThH.wt : wfL l nT = [(nB, 1)] := by
  unfold wfL; rw [ThH.ft h]; show (wantsO 2 tdT).getD [] = _; rw [wants_T]; rfl
theorem ThH.wb : wfL l nB = [] := by
  unfold wfL; rw [ThH.fb h]; show (wantsO 1 [120]).getD [] = _; rw [wantsB]; rfl
theorem ThH.tt : thB l nT = true := by unfold thB; rw [ThH.ft h]; rfl
theorem ThH.tb : thB l nB = true := by unfold thB; rw [ThH.fb h]; rfl
theorem ThH.reach {tips : List Bs} (ht : ∀ x ∈ tips, x = nT ∨ x = nB) {x : Bs} (hx : Reach (wfL l) tips x) : x = nT ∨ x = nB := by
  induction hx with
  | tip hm => exact ht _ hm
  | want _ hw ih =>
    rcases ih with rfl | rfl
    · rw [ThH.wt h] at hw
      cases List.mem_singleton.1 hw; exact .inr rfl
    · rw [ThH.wb h] at hw; cases hw
theorem ThH.reachB {x : Bs} (hx : Reach (wfL l) [nB] x) : x = nB := by
  induction hx with
  | tip hm => exact List.mem_singleton.1 hm
  | want _ hw ih =>
    rw [ih, ThH.wb h] at hw; cases hw
theorem ThH.rB : Reach (wfL l) [nT] nB := .want (rTc l) (k := 1) (by rw [ThH.wt h]; simp)
theorem ThH.th {x : Bs} (hx : x = nT ∨ x = nB) : thB l x = true := by
  rcases hx with rfl | rfl
  · exact ThH.tt h
  · exact ThH.tb h
theorem ThH.send1 {out : List Bs} {ec : Int} (hs : IsSend l [nT] [nT] [nB, nY] out ec) : ec = 0 ∧ out = [nT] := by
  have hr : ∀ x, Reach (wfL l) [nT] x → x = nT ∨ x = nB := fun x hx => ThH.reach h (fun x hx => .inl (List.mem_singleton.1 hx)) hx
  rcases hs with ⟨_, _, h1 | ⟨x, h1, h2⟩⟩ | ⟨_, _, _, _, x, h1, h2⟩ | ⟨h0, _, _, _, hri, cm, hcm, ho⟩
  · cases h1
  · exact absurd h1 h2
  · rw [ThH.th h (hr x h1)] at h2; cases h2
  · refine ⟨h0, len_one hri.nodup fun y => ?_⟩
    have hc : ∀ z, z ∈ cm ↔ z ∈ [nB] := fun z => by
      rw [hcm, List.mem_singleton]
      constructor
      · rintro ⟨h1, h2⟩
        rcases hr z h2 with e | e
        · rw [e] at h1
          rcases List.mem_cons.1 h1 with e2 | h1
          · exact absurd e2 ne_TB
          · exact absurd (List.mem_singleton.1 h1).symm ne_YT
        · exact e
      · rintro rfl
        exact ⟨by simp, ThH.rB h⟩
    rw [ho, reach_congr hc]
    constructor
    · rintro ⟨h1, h2⟩
      rcases hr y h1 with e | e
      · exact e
      · exact absurd (by rw [e]; exact .tip (by simp)) h2
    · rintro rfl
      exact ⟨rTc l, fun h2 => ne_TB (ThH.reachB h h2)⟩
theorem ThH.union {a : List Bs} (hc : IsClo (wfL l) (thB l) [nT, nB] a []) : a.length = 2 := by
  have h1 : a.length ≤ [nT, nB].length := nodup_len hc.ra.nodup fun x hx => by
    rcases ThH.reach h (fun y hy => by simpa using hy) ((hc.ma x).1 hx).1 with e | e <;> simp [e]
  have h2 : [nT, nB].length ≤ a.length := nodup_len (by
    refine List.nodup_cons.2 ⟨fun hm => ne_TB (List.mem_singleton.1 hm), List.nodup_cons.2 ⟨by simp, List.nodup_nil⟩⟩) fun x hx => by
    refine (clo_all hc).2 (.tip hx)
  simp only [List.length_cons, List.length_nil] at h1 h2
  omega
end
theorem send2c {l : List Hld} {out : List Bs} {ec : Int} (hs : IsSend l [nT] [nB] [] out ec) : ec = 1 := by
  rcases hs with ⟨h0, _⟩ | ⟨_, _, _, h1, _⟩ | ⟨_, _, h1, _⟩
  · exact h0
  · exact absurd (List.mem_singleton.1 (h1 nB (by simp))).symm ne_TB
  · exact absurd (List.mem_singleton.1 (h1 nB (by simp))).symm ne_TB
theorem send3 {out : List Bs} {ec : Int} (hs : IsSend [] [nT] [nT] [] out ec) : ec = 51 := by
  rcases hs with ⟨_, _, h1 | ⟨x, h1, h2⟩⟩ | ⟨h0, _⟩ | ⟨_, _, _, h1, _⟩
  · cases h1
  · exact absurd h1 h2
  · exact h0
  · have := h1 nT (.tip (by simp))
    unfold thB at this
    rw [show findL [] nT = none from rfl] at this
    cases this
theorem ThH.each {r : List Hld} (hs : IsSet L1 r) : ∀ x ∈ r, x = hT ∨ x = hB ∨ x = hY := fun x hx => by
  have hf := (hs.mem x).1 hx
  rw [find_L1] at hf
  by_cases e : x.id = nT
  · rw [if_pos e] at hf; cases hf; exact .inl rfl
  · rw [if_neg e] at hf
    by_cases e2 : x.id = nB
    · rw [if_pos e2] at hf; cases hf; exact .inr (.inl rfl)
    · rw [if_neg e2] at hf
      by_cases e3 : x.id = nY
      · rw [if_pos e3] at hf; cases hf; exact .inr (.inr rfl)
      · rw [if_neg e3] at hf; cases hf
theorem nB_lenC : nB.length ≤ 10000 := by decide
theorem nT_lenC : nT.length ≤ 10000 := by decide
theorem nY_lenC : nY.length ≤ 10000 := by decide
theorem td_lenC : tdT.length ≤ 10000 := by decide
theorem three_ok {r : List Hld} (hs : IsSet L1 r) (hl : r.length ≤ 3) : OkL r :=
  ⟨by omega, fun x hx => by
    rcases ThH.each hs x hx with rfl | rfl | rfl
    · exact ⟨nT_lenC, td_lenC⟩
    · exact ⟨nB_lenC, by show 1 ≤ _; omega⟩
    · exact ⟨nY_lenC, by show 1 ≤ _; omega⟩⟩
theorem okT_of {t : List Bs} (hl : t.length ≤ 3) (h : ∀ x ∈ t, x = nT ∨ x = nB ∨ x = nY) : OkT t :=
  ⟨by omega, fun x hx => by
    rcases h x hx with rfl | rfl | rfl
    · exact nT_lenC
    · exact nB_lenC
    · exact nY_lenC⟩
theorem strs_oneC (W : World) (x : Bs) : StrsR (W.alloc (.cells #[.string ⟨x.toArray⟩] 9)) (.slice (some ⟨W.heap.size, 0, none⟩) 1 1) [x] :=
  .inr ⟨W.heap.size, 0, 1, rfl, Nat.le_refl _, by simp, fun j hj z hz i hi => by
    rw [Nat.zero_add, cell_of_row (W.alloc _) W.heap.size (j * 1 + i) _ _ _ (heap_alloc_new W _)]
    match j, hj with
    | 0, _ =>
      cases hz
      match i, hi with
      | 0, _ => rfl⟩
theorem strs_twoC (W : World) (x y : Bs) : StrsR (W.alloc (.cells #[.string ⟨x.toArray⟩, .string ⟨y.toArray⟩] 9)) (.slice (some ⟨W.heap.size, 0, none⟩) 2 2) [x, y] :=
  .inr ⟨W.heap.size, 0, 2, rfl, Nat.le_refl _, by simp, fun j hj z hz i hi => by
    rw [Nat.zero_add, cell_of_row (W.alloc _) W.heap.size (j * 1 + i) _ _ _ (heap_alloc_new W _)]
    match j, hj with
    | 0, _ =>
      cases hz
      match i, hi with
      | 0, _ => rfl
    | 1, _ =>
      cases hz
      match i, hi with
      | 0, _ => rfl⟩
theorem itms_oneC (W : World) (x : Itm) : ItmsR (W.alloc (.cells #[.int .i64 x.mode, .string ⟨x.name.toArray⟩, .string ⟨x.id.toArray⟩] 49)) (.slice (some ⟨W.heap.size, 0, none⟩) 1 1) [x] :=
  .inr ⟨W.heap.size, 0, 1, rfl, Nat.le_refl _, by simp, fun j hj z hz i hi => by
    rw [Nat.zero_add, cell_of_row (W.alloc _) W.heap.size (j * 3 + i) _ _ _ (heap_alloc_new W _)]
    match j, hj with
    | 0, _ =>
      cases hz
      match i, hi with
      | 0, _ => rfl
      | 1, _ => rfl
      | 2, _ => rfl⟩
theorem objs_three (W : World) (a b c : Int × Bs) : ObjsR (W.alloc (.cells #[.int .i64 a.1, .string ⟨a.2.toArray⟩, .int .i64 b.1, .string ⟨b.2.toArray⟩, .int .i64 c.1, .string ⟨c.2.toArray⟩] 44)) (.slice (some ⟨W.heap.size, 0, none⟩) 3 3) [a, b, c] :=
  .inr ⟨W.heap.size, 0, 3, rfl, Nat.le_refl _, by simp, fun j hj z hz i hi => by
    rw [Nat.zero_add, cell_of_row (W.alloc _) W.heap.size (j * 2 + i) _ _ _ (heap_alloc_new W _)]
    match j, hj with
    | 0, _ =>
      cases hz
      match i, hi with
      | 0, _ => rfl
      | 1, _ => rfl
    | 1, _ =>
      cases hz
      match i, hi with
      | 0, _ => rfl
      | 1, _ => rfl
    | 2, _ =>
      cases hz
      match i, hi with
      | 0, _ => rfl
      | 1, _ => rfl⟩
theorem rows_two (W : World) (u v : Value) (a b : List Bs) (ha : StrsR W u a) (hb : StrsR W v b) : RowsR (W.alloc (.cells #[u, v] 23)) (.slice (some ⟨W.heap.size, 0, none⟩) 2 2) [a, b] :=
  ⟨[u, v], .inr ⟨W.heap.size, 0, 2, rfl, Nat.le_refl _, by simp, fun j hj z hz i hi => by
    rw [Nat.zero_add, cell_of_row (W.alloc _) W.heap.size (j * 1 + i) _ _ _ (heap_alloc_new W _)]
    match j, hj with
    | 0, _ =>
      cases hz
      match i, hi with
      | 0, _ => rfl
    | 1, _ =>
      cases hz
      match i, hi with
      | 0, _ => rfl⟩, rfl, fun k y r hy hr => by
    match k, hy, hr with
    | 0, hy, hr => cases hy; cases hr; exact RdK.below ha (below_new W _) (Nat.le_refl _)
    | 1, hy, hr => cases hy; cases hr; exact RdK.below hb (below_new W _) (Nat.le_refl _)⟩
theorem lookObjC {W : World} {g : Nat} {k : Int} {d : Bs} (h : W.heap[g]? = some (.cells #[.int .i64 k, .string ⟨d.toArray⟩] 44 (0, 0))) : W.cell? ⟨g, 0, none⟩ = some (.int .i64 k) ∧ W.cell? ⟨g, 1, none⟩ = some (.string ⟨d.toArray⟩) :=
  ⟨(cell_of_row W g 0 _ _ _ h).trans rfl, (cell_of_row W g 1 _ _ _ h).trans rfl⟩
theorem str0 {W : World} {A : Option Addr} {n c : Nat} {x : Bs} (h : StrsR W (.slice A n c) [x]) (hn : n = 1) : ∃ g o, A = some ⟨g, o, none⟩ ∧ W.cell? ⟨g, o, none⟩ = some (.string ⟨x.toArray⟩) := by
  subst hn
  obtain ⟨g, o, c', e, _, hg⟩ := h.pos (by simp)
  cases e
  have := StrsR.cell h 0 (by simp)
  exact ⟨g, o, rfl, this⟩
set_option maxHeartbeats 8000000 in
set_option maxRecDepth 100000 in
theorem head_p {w : World} (ho : Ob w) : Calls Tryz.prog 10 #[] w (BoolB true w) := by
  have hid1 := fun W => RId_any 1 [120] (by decide) W
  have hid2 := fun W => RId_any 2 tdT (Nat.le_trans td_lenC (by omega)) W
  have hid3 := fun W => RId_any 1 [121] (by decide) W
  have smI : Smalls [itB] := fun x hx => by
    rw [List.mem_singleton.1 hx]
    exact ⟨by show 1 ≤ _; omega, Nat.le_trans nB_lenC (by omega)⟩
  have hpt := fun W => RPutTree_any _ _ _ (itms_oneC W itB) smI (by simp)
  have hst := fun W => Set_p (objs_three W (1, [120]) (2, tdT) (1, [121])) (by simp) (fun x hx => by
    simp only [List.mem_cons, List.not_mem_nil, or_false] at hx
    rcases hx with rfl | rfl | rfl
    · decide
    · exact Nat.le_trans td_lenC (by omega)
    · decide)
  rw [id_B] at hid1; rw [id_T] at hid2; rw [id_Y] at hid3
  rw [putTV_yes right_B, put_B] at hpt
  have sP1 : ∀ (W : World) (r : List Hld) (v a b c : Value), Ob W → IsSet L1 r → r.length ≤ 3 → HldsR W v r → StrsR W a [nT] → StrsR W b [nT] → StrsR W c [nB, nY] → Calls Tryz.prog 13 #[v, a, b, c] W fun e w' => ∃ A n d, e = .returned (.tuple #[.slice A n d, .int .i64 0]) ∧ n = 1 ∧ StrsR w' (.slice A n d) [nT] ∧ Below W.heap.size W w' := fun W r v a b c hO hs hl hv h1 h2 h3 =>
    (Send_p hv h1 h2 h3 hO (three_ok hs hl) (okT_of (by simp) (by simp)) (okT_of (by simp) (by simp)) (okT_of (by simp) (by simp))).mono fun e w' ⟨A, n, d, out, ec, e1, e2, e3, e4, e5⟩ => by
      obtain ⟨rfl, rfl⟩ := ThH.send1 (three_set hs) e4
      exact ⟨A, n, d, e1, e2, e3, e5⟩
  have sP2 : ∀ (W : World) (r : List Hld) (v a b : Value), Ob W → IsSet L1 r → r.length ≤ 3 → HldsR W v r → StrsR W a [nT] → StrsR W b [nB] → Calls Tryz.prog 13 #[v, a, b, .slice none 0 0] W fun e w' => ∃ A n d, e = .returned (.tuple #[.slice A n d, .int .i64 1]) ∧ Below W.heap.size W w' := fun W r v a b hO hs hl hv h1 h2 =>
    (Send_p hv h1 h2 (strs_nil W) hO (three_ok hs hl) (okT_of (by simp) (by simp)) (okT_of (by simp) (by simp)) (okT_of (by simp) (by simp))).mono fun e w' ⟨A, n, d, out, ec, e1, e2, e3, e4, e5⟩ => by
      obtain rfl := send2c e4
      exact ⟨A, n, d, e1, e5⟩
  have sP3 : ∀ (W : World) (a b : Value), Ob W → StrsR W a [nT] → StrsR W b [nT] → Calls Tryz.prog 13 #[.slice none 0 0, a, b, .slice none 0 0] W fun e w' => ∃ A n d, e = .returned (.tuple #[.slice A n d, .int .i64 51]) ∧ Below W.heap.size W w' := fun W a b hO h1 h2 =>
    (Send_p (L := []) (.inl ⟨⟨_, _, rfl⟩, rfl⟩) h1 h2 (strs_nil W) hO ⟨by simp, fun x hx => by cases hx⟩ (okT_of (by simp) (by simp)) (okT_of (by simp) (by simp)) (okT_of (by simp) (by simp))).mono fun e w' ⟨A, n, d, out, ec, e1, e2, e3, e4, e5⟩ => by
      obtain rfl := send3 e4
      exact ⟨A, n, d, e1, e5⟩
  have uP : ∀ (W : World) (r : List Hld) (v a b : Value), Ob W → IsSet L1 r → r.length ≤ 3 → HldsR W v r → StrsR W a [nT] → StrsR W b [nB] → Calls Tryz.prog 15 #[v, .slice (some ⟨W.heap.size, 0, none⟩) 2 2] (W.alloc (.cells #[a, b] 23)) fun e w' => ∃ A d, e = .returned (.tuple #[.slice A 2 d, .int .i64 0]) ∧ Below W.heap.size W w' := fun W r v a b hO hs hl hv h1 h2 => by
    have hb := below_new W (.cells #[a, b] 23)
    have h := Union_p (hv.below hb (Nat.le_refl _)) (rows_two W a b _ _ h1 h2) (hO.below hb) (three_ok hs hl) (by simp) (okT_of (by simp) (by simp))
    refine h.mono ?_
    rintro e w' ⟨hb2, ⟨A, n, c, u, rfl, hn, _, hc⟩ | ⟨_, x, hx, hxt⟩⟩
    · have e2 := ThH.union (three_set hs) hc
      rw [e2] at hn
      subst hn
      exact ⟨A, c, rfl, hb.trans (hb2.mono hb.size)⟩
    · have := ThH.th (three_set hs) (ThH.reach (three_set hs) (fun y hy => by simpa using hy) hx)
      rw [this] at hxt; cases hxt
  have sS : ∀ W : World, Calls Tryz.prog 23 #[.slice (some ⟨W.heap.size, 0, none⟩) 3 3] (W.alloc (.cells #[.int .i64 1, .string ⟨#[120]⟩, .int .i64 2, .string ⟨tdT.toArray⟩, .int .i64 1, .string ⟨#[121]⟩] 44)) fun e w' => ∃ A n d r, e = .returned (.slice A n d) ∧ HldsR w' (.slice A n d) r ∧ IsSet L1 r ∧ r.length ≤ 3 ∧ Below W.heap.size W w' := fun W =>
    (hst W).mono fun e w' ⟨v, r, e1, e2, e3, e4, e5⟩ => by
      rw [set_L1] at e3
      obtain ⟨A, d, rfl⟩ := e2.shape
      exact ⟨A, _, d, r, e1, e2, e3, e4, (below_new W _).trans (e5.mono (below_new W _).size)⟩
  obtain ⟨bn, hbn⟩ : ∃ x, x = nB := ⟨_, rfl⟩
  obtain ⟨tn, htn⟩ : ∃ x, x = nT := ⟨_, rfl⟩
  obtain ⟨yn, hyn⟩ : ∃ x, x = nY := ⟨_, rfl⟩
  obtain ⟨td, htd⟩ : ∃ x, x = tdT := ⟨_, rfl⟩
  unfold itB at hpt
  simp only at hpt
  unfold SV at hid1 hid2 hid3 hpt
  rw [← hbn, ← htd] at hpt
  rw [← hbn] at hid1
  rw [← htn, ← htd] at hid2
  rw [← hyn] at hid3
  rw [← htd] at sS
  rw [← htn] at sP3
  rw [← htn, ← hbn] at sP2 uP
  rw [← htn, ← hbn, ← hyn] at sP1
  have HB' := Lib.hid hid1; have HT' := Lib.hid hid2; have HY' := Lib.hid hid3; have HPt := Lib.hid hpt; have HSt := Lib.hid sS; have HS1 := Lib.hid sP1; have HS2 := Lib.hid sP2; have HS3 := Lib.hid sP3; have HU := Lib.hid uP; have HO := Lib.hid ho
  clear hid1 hid2 hid3 hpt hst sS sP1 sP2 sP3 uP ho smI hbn htn hyn htd
  obtain ⟨w1, hw1⟩ : ∃ w1, w1 = w.alloc (.cells #[.int .i64 1, .string ⟨#[120]⟩] 44) := ⟨_, rfl⟩
  have hb1 : Below w.heap.size w w1 := by rw [hw1]; exact below_new w _
  have hk1 : w1.heap[w.heap.size]? = some (.cells #[.int .i64 1, .string ⟨([120] : Bs).toArray⟩] 44 (0, 0)) := by rw [hw1]; exact heap_alloc_new w _
  have HB1 := Lib.hid hb1; have HW1 := Lib.hid hw1
  have HCb : Hid (∀ W, Below w1.heap.size w1 W → W.cell? ⟨w.heap.size, 0, none⟩ = some (.int .i64 1) ∧ W.cell? ⟨w.heap.size, 1, none⟩ = some (.string ⟨#[120]⟩)) := Lib.hid fun W hW => lookObjC ((hW.block _ (lt_heap hk1)).trans hk1)
  have HOb : Hid (∀ W, Below w1.heap.size w1 W → Ob W) := Lib.hid fun W hW => HO.out.below (hb1.trans (hW.mono hb1.size))
  clear hb1 hw1 hk1 HO
  go_enter Tryz.func10, Tryz.ntmps10
  go_upto_region 2 with fail
  rw [← HW1.out]
  obtain ⟨b0, b1⟩ := HCb.out w1 (Below.refl _ _)
  go_wp2_with fail
  refine (HB'.out _).mono ?_
  rintro e w2 ⟨rfl, l2⟩
  have L2 := Lib.hid l2
  clear l2 b0 b1
  go_wp2_with fail
  refine (HPt.out _).mono ?_
  rintro e w3 ⟨rfl, l3⟩
  have L3 := Lib.hid (L2.out.trans (((below_new w2 _).trans (l3.mono (by simp))).mono L2.out.size))
  clear l3
  obtain ⟨b0, b1⟩ := HCb.out w3 L3.out
  go_wp2_with fail
  refine (HSt.out _).mono ?_
  rintro e w4 ⟨Ar, nr, cr, r, rfl, hr, hs, hl, l4⟩
  have L4 := Lib.hid (L3.out.trans (l4.mono L3.out.size))
  have HR : Hid (∀ W, Below w4.heap.size w4 W → HldsR W (.slice Ar nr cr) r) := Lib.hid fun W hW => hr.below hW (Nat.le_refl _)
  have HIs := Lib.hid hs; have HL3 := Lib.hid hl
  clear l4 hr hs hl b0 b1
  go_wp2_with fail
  refine (HT'.out _).mono ?_
  rintro e w5 ⟨rfl, l5⟩
  have L5 := Lib.hid l5
  clear l5
  obtain ⟨wA, hwA⟩ : ∃ y, y = w5.alloc (.cells #[.string ⟨tn.toArray⟩] 9) := ⟨_, rfl⟩
  have lA : Below w5.heap.size w5 wA := by rw [hwA]; exact below_new _ _
  have sA : StrsR wA (.slice (some ⟨w5.heap.size, 0, none⟩) 1 1) [tn] := by rw [hwA]; exact strs_oneC w5 tn
  have zA : wA.heap.size = w5.heap.size + 1 := by rw [hwA]; simp
  obtain ⟨wB, hwB⟩ : ∃ y, y = wA.alloc (.cells #[.string ⟨tn.toArray⟩] 9) := ⟨_, rfl⟩
  have lB : Below wA.heap.size wA wB := by rw [hwB]; exact below_new _ _
  have sB : StrsR wB (.slice (some ⟨w5.heap.size + 1, 0, none⟩) 1 1) [tn] := by rw [← zA, hwB]; exact strs_oneC wA tn
  have LB := Lib.hid (L5.out.trans ((lA.trans (lB.mono lA.size)).mono L5.out.size))
  have SA : Hid (∀ W, Below wB.heap.size wB W → StrsR W (.slice (some ⟨w5.heap.size, 0, none⟩) 1 1) [tn]) := Lib.hid fun W hW => RdK.below (RdK.below sA lB (Nat.le_refl _)) hW (Nat.le_refl _)
  have SB : Hid (∀ W, Below wB.heap.size wB W → StrsR W (.slice (some ⟨w5.heap.size + 1, 0, none⟩) 1 1) [tn]) := Lib.hid fun W hW => RdK.below sB hW (Nat.le_refl _)
  have HWB : Hid (wB = (w5.alloc (.cells #[.string ⟨tn.toArray⟩] 9)).alloc (.cells #[.string ⟨tn.toArray⟩] 9)) := Lib.hid (by rw [hwB, hwA])
  have L4B := Lib.hid (L4.out.trans (LB.out.mono L4.out.size))
  obtain ⟨b0, b1⟩ := HCb.out wB L4B.out
  clear hwA lA sA zA hwB lB sB
  go_wp2_with (rw [← HWB.out])
  refine (HB'.out _).mono ?_
  rintro e w6 ⟨rfl, l6⟩
  have L6 := Lib.hid l6
  clear l6 b0 b1
  go_wp2_with fail
  refine (HY'.out _).mono ?_
  rintro e w7 ⟨rfl, l7⟩
  have L7 := Lib.hid (L6.out.trans (l7.mono L6.out.size))
  clear l7 HWB
  obtain ⟨w8, hw8⟩ : ∃ y, y = w7.alloc (.cells #[.string ⟨bn.toArray⟩, .string ⟨yn.toArray⟩] 9) := ⟨_, rfl⟩
  have l8 : Below w7.heap.size w7 w8 := by rw [hw8]; exact below_new _ _
  have s8 : StrsR w8 (.slice (some ⟨w7.heap.size, 0, none⟩) 2 2) [bn, yn] := by rw [hw8]; exact strs_twoC w7 bn yn
  have L8 := Lib.hid (L7.out.trans (l8.mono L7.out.size))
  have L48 := Lib.hid (L4B.out.trans (L8.out.mono L4B.out.size))
  have HC := Lib.hid (HS1.out w8 r _ _ _ _ (HOb.out _ L48.out) HIs.out HL3.out (HR.out _ (LB.out.trans (L8.out.mono LB.out.size))) (SA.out _ L8.out) (SB.out _ L8.out) s8)
  have HW8 := Lib.hid hw8
  clear hw8 l8 s8
  go_wp2_with (rw [← HW8.out])
  refine HC.out.mono ?_
  rintro e w9 ⟨Ax, nx, cx, rfl, hnx, hsx, l9⟩
  subst hnx
  obtain ⟨gx, ox, rfl, hx0⟩ := str0 hsx rfl
  have L9 := Lib.hid (LB.out.trans ((L8.out.trans (l9.mono L8.out.size)).mono LB.out.size))
  have L49 := Lib.hid (L4.out.trans (L9.out.mono L4.out.size))
  have HX0 : Hid (∀ W, Below w9.heap.size w9 W → W.cell? ⟨gx, ox, none⟩ = some (.string ⟨tn.toArray⟩)) := Lib.hid fun W hW => cell_to hx0 hW
  clear hsx hx0 l9 HC HW8 SA SB L6 L7 L8 L48 LB L4B
  obtain ⟨wC, hwC⟩ : ∃ y, y = w9.alloc (.cells #[.string ⟨tn.toArray⟩] 9) := ⟨_, rfl⟩
  have lC : Below w9.heap.size w9 wC := by rw [hwC]; exact below_new _ _
  have SC : Hid (∀ W, Below wC.heap.size wC W → StrsR W (.slice (some ⟨w9.heap.size, 0, none⟩) 1 1) [tn]) := Lib.hid fun W hW => RdK.below (show StrsR wC _ [tn] by rw [hwC]; exact strs_oneC w9 tn) hW (Nat.le_refl _)
  have HWC := Lib.hid hwC; have LC := Lib.hid lC
  have L4C := Lib.hid (L49.out.trans (lC.mono L49.out.size))
  obtain ⟨b0, b1⟩ := HCb.out wC L4C.out
  clear hwC lC
  go_wp2_with (rw [← HWC.out])
  refine (HB'.out _).mono ?_
  rintro e w10 ⟨rfl, l10⟩
  have L10 := Lib.hid l10
  clear l10 b0 b1 HWC
  obtain ⟨wD, hwD⟩ : ∃ y, y = w10.alloc (.cells #[.string ⟨bn.toArray⟩] 9) := ⟨_, rfl⟩
  have lD : Below w10.heap.size w10 wD := by rw [hwD]; exact below_new _ _
  have sD : StrsR wD (.slice (some ⟨w10.heap.size, 0, none⟩) 1 1) [bn] := by rw [hwD]; exact strs_oneC w10 bn
  have LCD := Lib.hid (L10.out.trans (lD.mono L10.out.size))
  have L9D := Lib.hid (LC.out.trans (LCD.out.mono LC.out.size))
  have L4D := Lib.hid (L49.out.trans (L9D.out.mono L49.out.size))
  have L94 := Lib.hid (L9.out.trans (L9D.out.mono L9.out.size))
  have HC := Lib.hid (HS2.out wD r _ _ _ (HOb.out _ L4D.out) HIs.out HL3.out (HR.out _ L94.out) (SC.out _ LCD.out) sD)
  have HWD := Lib.hid hwD
  clear hwD lD sD
  go_wp2_with (rw [← HWD.out])
  refine HC.out.mono ?_
  rintro e w11 ⟨A11, n11, c11, rfl, l11⟩
  have L911 := Lib.hid (L9D.out.trans (l11.mono L9D.out.size))
  clear l11 HC HWD SC LC L4C L10 LCD L9D L4D L94
  obtain ⟨wE, hwE⟩ : ∃ y, y = w11.alloc (.cells #[.string ⟨tn.toArray⟩] 9) := ⟨_, rfl⟩
  have lE : Below w11.heap.size w11 wE := by rw [hwE]; exact below_new _ _
  have sE : StrsR wE (.slice (some ⟨w11.heap.size, 0, none⟩) 1 1) [tn] := by rw [hwE]; exact strs_oneC w11 tn
  have zE : wE.heap.size = w11.heap.size + 1 := by rw [hwE]; simp
  obtain ⟨wF, hwF⟩ : ∃ y, y = wE.alloc (.cells #[.string ⟨tn.toArray⟩] 9) := ⟨_, rfl⟩
  have lF : Below wE.heap.size wE wF := by rw [hwF]; exact below_new _ _
  have sF : StrsR wF (.slice (some ⟨w11.heap.size + 1, 0, none⟩) 1 1) [tn] := by rw [← zE, hwF]; exact strs_oneC wE tn
  have L9F := Lib.hid (L911.out.trans ((lE.trans (lF.mono lE.size)).mono L911.out.size))
  have L4F := Lib.hid (L49.out.trans (L9F.out.mono L49.out.size))
  have HC := Lib.hid (HS3.out wF _ _ (HOb.out _ L4F.out) (RdK.below sE lF (Nat.le_refl _)) sF)
  have HWF : Hid (wF = (w11.alloc (.cells #[.string ⟨tn.toArray⟩] 9)).alloc (.cells #[.string ⟨tn.toArray⟩] 9)) := Lib.hid (by rw [hwF, hwE])
  clear hwE lE sE zE hwF lF sF
  go_wp2_with (rw [← HWF.out])
  refine HC.out.mono ?_
  rintro e w12 ⟨A12, n12, c12, rfl, l12⟩
  have L912 := Lib.hid (L9F.out.trans (l12.mono L9F.out.size))
  clear l12 HC HWF L9F L4F L911
  obtain ⟨wG, hwG⟩ : ∃ y, y = w12.alloc (.cells #[.string ⟨tn.toArray⟩] 9) := ⟨_, rfl⟩
  have lG : Below w12.heap.size w12 wG := by rw [hwG]; exact below_new _ _
  have SG : Hid (∀ W, Below wG.heap.size wG W → StrsR W (.slice (some ⟨w12.heap.size, 0, none⟩) 1 1) [tn]) := Lib.hid fun W hW => RdK.below (show StrsR wG _ [tn] by rw [hwG]; exact strs_oneC w12 tn) hW (Nat.le_refl _)
  have HWG := Lib.hid hwG
  have L9G := Lib.hid (L912.out.trans (lG.mono L912.out.size))
  have L4G := Lib.hid (L49.out.trans (L9G.out.mono L49.out.size))
  obtain ⟨b0, b1⟩ := HCb.out wG L4G.out
  clear hwG lG
  go_wp2_with (rw [← HWG.out])
  refine (HB'.out _).mono ?_
  rintro e w13 ⟨rfl, l13⟩
  have L13 := Lib.hid l13
  clear l13 b0 b1 HWG
  obtain ⟨wH, hwH⟩ : ∃ y, y = w13.alloc (.cells #[.string ⟨bn.toArray⟩] 9) := ⟨_, rfl⟩
  have lH : Below w13.heap.size w13 wH := by rw [hwH]; exact below_new _ _
  have sH : StrsR wH (.slice (some ⟨w13.heap.size, 0, none⟩) 1 1) [bn] := by rw [hwH]; exact strs_oneC w13 bn
  have zH : wH.heap.size = w13.heap.size + 1 := by rw [hwH]; simp
  have LGH := Lib.hid (L13.out.trans (lH.mono L13.out.size))
  have L9H := Lib.hid (L9G.out.trans (LGH.out.mono L9G.out.size))
  have L4H := Lib.hid (L49.out.trans (L9H.out.mono L49.out.size))
  have hC := HU.out wH r _ _ _ (HOb.out _ L4H.out) HIs.out HL3.out (HR.out _ (L9.out.trans (L9H.out.mono L9.out.size))) (SG.out _ LGH.out) sH
  rw [zH, hwH] at hC
  have HC := Lib.hid hC
  have L9H2 : Hid (Below w9.heap.size w9 (w13.alloc (.cells #[.string ⟨bn.toArray⟩] 9))) := Lib.hid (by rw [← hwH]; exact L9H.out)
  clear hwH lH sH zH hC L9H L4H LGH
  go_wp2_with fail
  refine HC.out.mono ?_
  rintro e w14 ⟨A14, c14, rfl, l14⟩
  have L914 := Lib.hid (L9H2.out.trans (Below.mono (by simpa using l14) (L9H2.out.size)))
  have x0 := HX0.out w14 L914.out
  have L14 := Lib.hid (HB1.out.trans ((L49.out.trans (L914.out.mono L49.out.size)).mono HB1.out.size))
  clear l14 HC
  go_wp2_with fail
  go_ret
  exact ⟨by simp, L14.out⟩
end Go.Proofs.YtialgldmogigfaaGreatDoor.Ct


namespace Go.Proofs.YtialgldmogigfaaGreatDoor.Ct
open Go.Proofs.YtialgldmogigfaaGreatDoor

theorem reach_one {wf : Bs → List (Bs × Int)} {tips : List Bs} {x : Bs} : Reach wf tips x ↔ ∃ h ∈ tips, Reach wf [h] x := by
  constructor
  · intro h
    induction h with
    | @tip y hm => exact ⟨y, hm, .tip (by simp)⟩
    | want _ hw ih =>
      obtain ⟨h, hm, hr⟩ := ih
      exact ⟨h, hm, .want hr hw⟩
  · rintro ⟨h, hm, hr⟩
    exact Reach.trans (fun y hy => by rw [List.mem_singleton.1 hy]; exact .tip hm) hr
def Bad (tips wants : List Bs) : Prop := wants = [] ∨ ∃ x ∈ wants, x ∉ tips
def Lk (L : List Hld) (tips : List Bs) : Prop := ∃ x, Reach (wfL L) tips x ∧ thB L x = false
/-- What is sent, where nothing is wrong. -/
def Sent (L : List Hld) (tips wants haves : List Bs) (x : Bs) : Prop := Reach (wfL L) wants x ∧ ∀ h ∈ haves, Reach (wfL L) tips h → ¬ Reach (wfL L) [h] x
section
variable {L : List Hld} {tips wants haves haves' out out' a b c d : List Bs} {ec ec' : Int}
theorem IsSend.code (h : IsSend L tips wants haves out ec) : (ec = 1 ∧ Bad tips wants) ∨ (ec = 51 ∧ ¬ Bad tips wants ∧ Lk L tips) ∨ (ec = 0 ∧ ¬ Bad tips wants ∧ ¬ Lk L tips) := by
  rcases h with ⟨h1, _, h2⟩ | ⟨h1, _, h2, h3, h4⟩ | ⟨h1, h2, h3, h4, _⟩
  · exact .inl ⟨h1, h2⟩
  · exact .inr (.inl ⟨h1, fun hb => hb.elim h2 fun ⟨x, hx, hn⟩ => hn (h3 x hx), h4⟩)
  · exact .inr (.inr ⟨h1, fun hb => hb.elim h2 fun ⟨x, hx, hn⟩ => hn (h3 x hx), fun ⟨x, hx, hn⟩ => by rw [h4 x hx] at hn; cases hn⟩)
theorem IsSend.codes (h : IsSend L tips wants haves out ec) (h' : IsSend L tips wants haves' out' ec') : ec = ec' := by
  rcases h.code with ⟨h1, h2⟩ | ⟨h1, h2, h3⟩ | ⟨h1, h2, h3⟩ <;> rcases h'.code with ⟨k1, k2⟩ | ⟨k1, k2, k3⟩ | ⟨k1, k2, k3⟩ <;> first | contradiction | (rw [h1, k1])
theorem IsSend.nil (h : IsSend L tips wants haves out ec) (h0 : ec ≠ 0) : out = [] := by
  rcases h with ⟨_, h1, _⟩ | ⟨_, h1, _⟩ | ⟨h1, _⟩
  · exact h1
  · exact h1
  · exact absurd h1 h0
theorem IsSend.ok (h : IsSend L tips wants haves out 0) : wants ≠ [] ∧ (∀ x ∈ wants, x ∈ tips) ∧ (∀ x, Reach (wfL L) tips x → thB L x = true) ∧ Rising out ∧ ∀ x, x ∈ out ↔ Sent L tips wants haves x := by
  rcases h with ⟨h1, _⟩ | ⟨h1, _⟩ | ⟨_, h2, h3, h4, h5, cm, h6, h7⟩
  · cases h1
  · cases h1
  · refine ⟨h2, h3, h4, h5, fun x => (h7 x).trans (and_congr_right fun _ => ?_)⟩
    rw [reach_one]
    constructor
    · exact fun hn h hh hr hx => hn ⟨h, (h6 h).2 ⟨hh, hr⟩, hx⟩
    · rintro hn ⟨h, hc, hx⟩
      exact hn h ((h6 h).1 hc).1 ((h6 h).1 hc).2 hx
theorem IsSend.sub (h : IsSend L tips wants haves out ec) (h' : IsSend L tips wants haves' out' ec') (hs : ∀ x ∈ haves, x ∈ haves') : ∀ x ∈ out', x ∈ out := by
  obtain rfl := h.codes h'
  by_cases h0 : ec = 0
  · subst h0
    exact fun x hx => (h.ok.2.2.2.2 x).2 (by
      obtain ⟨h1, h2⟩ := (h'.ok.2.2.2.2 x).1 hx
      exact ⟨h1, fun y hy => h2 y (hs y hy)⟩)
  · rw [h'.nil h0]; simp
theorem IsSend.own (h : IsSend L tips wants wants out ec) : out = [] := by
  by_cases h0 : ec = 0
  · subst h0
    refine List.eq_nil_iff_forall_not_mem.2 fun x hx => ?_
    obtain ⟨h1, h2⟩ := (h.ok.2.2.2.2 x).1 hx
    obtain ⟨y, hy, hr⟩ := reach_one.1 h1
    exact h2 y hy (.tip (h.ok.2.1 y hy)) hr
  · exact h.nil h0
theorem IsSend.all (h : IsSend L tips wants [] out 0) (hc : IsClo (wfL L) (thB L) wants a b) : out = a :=
  rising_ext h.ok.2.2.2.1 hc.ra fun x => by
    rw [h.ok.2.2.2.2, hc.ma]
    have ht : Reach (wfL L) wants x → Reach (wfL L) tips x := fun hx => Reach.trans (fun y hy => .tip (h.ok.2.1 y hy)) hx
    exact ⟨fun hx => ⟨hx.1, h.ok.2.2.1 x (ht hx.1)⟩, fun hx => ⟨hx.1, by simp⟩⟩
theorem lk_iff (hc : IsClo (wfL L) (thB L) tips a b) : Lk L tips ↔ 0 < b.length := by
  constructor
  · rintro ⟨x, hx⟩
    exact List.length_pos_of_mem ((hc.mb x).2 hx)
  · intro h
    obtain ⟨x, hx⟩ := List.exists_mem_of_length_pos h
    exact ⟨x, (hc.mb x).1 hx⟩
theorem IsSend.within (h : IsSend L tips wants haves out 0) (hc : IsClo (wfL L) (thB L) tips a b) : ∀ x ∈ out, x ∈ a := fun x hx => by
  have h1 := ((h.ok.2.2.2.2 x).1 hx).1
  have ht : Reach (wfL L) tips x := Reach.trans (fun y hy => .tip (h.ok.2.1 y hy)) h1
  exact (hc.ma x).2 ⟨ht, h.ok.2.2.1 x ht⟩
theorem more_appC (l m : List Hld) : More (wfL l) (wfL (l ++ m)) (thB l) (thB (l ++ m)) := by
  have hf : ∀ x, thB l x = true → findL (l ++ m) x = findL l x := fun x hx => by
    obtain ⟨u, hu⟩ := thB_some.1 hx
    rw [findL_append, hu, Option.some_or]
  refine ⟨fun x hx => ?_, fun x hx => ?_, fun x hx => wfL_no hx⟩
  · unfold thB at hx ⊢
    rw [hf x hx]; exact hx
  · unfold wfL; rw [hf x hx]
theorem IsSend.more {m : List Hld} (h : IsSend L tips wants haves a 0) (h' : IsSend (L ++ m) tips wants haves b ec) : ec = 0 ∧ a = b := by
  have M := more_appC L m
  obtain ⟨h1, h2, h3, h4, h5⟩ := h.ok
  have hnb : ¬ Bad tips wants := fun hb => hb.elim h1 fun ⟨x, hx, hn⟩ => hn (h2 x hx)
  have hback : ∀ {t : List Bs} {x : Bs}, (∀ y ∈ t, Reach (wfL L) tips y) → (Reach (wfL (L ++ m)) t x ↔ Reach (wfL L) t x) := fun ht =>
    ⟨fun hx => M.back (fun s hs => h3 s (Reach.trans ht hs)) hx, fun hx => M.reach hx⟩
  have e0 : ec = 0 := by
    rcases h'.code with ⟨k1, k2⟩ | ⟨k1, k2, x, hx, hn⟩ | ⟨k1, k2, k3⟩
    · exact absurd k2 hnb
    · have := M.tt x (h3 x ((hback fun y hy => .tip hy).1 hx))
      rw [hn] at this; cases this
    · exact k1
  subst e0
  refine ⟨rfl, rising_ext h4 h'.ok.2.2.2.1 fun x => ?_⟩
  rw [h5, h'.ok.2.2.2.2]
  unfold Sent
  rw [hback (t := wants) fun y hy => .tip (h2 y hy)]
  refine and_congr_right fun _ => forall_congr' fun y => forall_congr' fun hy => ?_
  rw [hback (t := tips) fun y hy => .tip hy]
  refine forall_congr' fun hr => ?_
  rw [hback (t := [y]) fun z hz => by rw [List.mem_singleton.1 hz]; exact hr]
theorem IsSend.other {o : Bs} (h : IsSend L tips wants haves a ec) (h' : IsSend L tips wants (haves ++ [o]) b ec') (hc : IsClo (wfL L) (thB L) tips c d) (ho : o ∉ c) (h0 : ec = 0) : a = b := by
  obtain rfl := h.codes h'
  subst h0
  have hno : ¬ Reach (wfL L) tips o := fun hr => ho ((hc.ma o).2 ⟨hr, h.ok.2.2.1 o hr⟩)
  refine rising_ext h.ok.2.2.2.1 h'.ok.2.2.2.1 fun x => ?_
  rw [h.ok.2.2.2.2, h'.ok.2.2.2.2]
  refine and_congr_right fun _ => ⟨fun hx y hy hr => ?_, fun hx y hy hr => hx y (List.mem_append_left _ hy) hr⟩
  rcases List.mem_append.1 hy with hy | hy
  · exact hx y hy hr
  · rw [List.mem_singleton.1 hy] at hr; exact absurd hr hno
theorem findL_pickC (l : List Hld) (a : List Bs) (s : Bs) : findL (pickL l a) s = if a.contains s = true then findL l s else none := findL_filter _ (fun s => a.contains s) (fun _ => rfl) l s
/-- With what is sent and what common come to there is all that is wanted. -/
theorem IsSend.enough {cm own need got lack x y z : List Bs} (h : IsSend L tips wants haves out 0) (hall : IsClo (wfL L) (thB L) tips a x) (hcm : ∀ s, s ∈ cm ↔ s ∈ haves ∧ s ∈ a) (hown : IsClo (wfL L) (thB L) cm own y) (hneed : IsClo (wfL L) (thB L) wants need z)
    (hgot : IsClo (wfL (pickL L out ++ pickL L own)) (thB (pickL L out ++ pickL L own)) wants got lack) : lack = [] ∧ got = need := by
  obtain ⟨h1, h2, h3, h4, h5⟩ := h.ok
  have hf : ∀ s, findL (pickL L out ++ pickL L own) s = if s ∈ out ∨ s ∈ own then findL L s else none := fun s => by
    rw [findL_append, findL_pickC, findL_pickC]
    by_cases e1 : s ∈ out <;> by_cases e2 : s ∈ own <;> cases findL L s <;> simp [e1, e2]
  have hw : ∀ s, Reach (wfL L) wants s → Reach (wfL L) tips s := fun s hs => Reach.trans (fun y hy => .tip (h2 y hy)) hs
  have hin : ∀ s, Reach (wfL L) wants s → s ∈ out ∨ s ∈ own := fun s hs => by
    by_cases e : s ∈ out
    · exact .inl e
    · rw [h5] at e
      have : ¬ ∀ h ∈ haves, Reach (wfL L) tips h → ¬ Reach (wfL L) [h] s := fun hn => e ⟨hs, hn⟩
      have ⟨k, hk⟩ := Classical.not_forall.1 this
      have ⟨k1, hk⟩ := Classical.not_forall.1 hk
      have ⟨k2, hk⟩ := Classical.not_forall.1 hk
      have hk := Classical.not_not.1 hk
      exact .inr ((hown.ma s).2 ⟨reach_one.2 ⟨k, (hcm k).2 ⟨k1, (hall.ma k).2 ⟨k2, h3 k k2⟩⟩, hk⟩, h3 s (hw s hs)⟩)
  have e1 : ∀ s, Reach (wfL L) wants s → findL (pickL L out ++ pickL L own) s = findL L s := fun s hs => by rw [hf, if_pos (hin s hs)]
  have e2 : ∀ s, Reach (wfL L) wants s → wfL (pickL L out ++ pickL L own) s = wfL L s := fun s hs => by unfold wfL; rw [e1 s hs]
  have e3 : ∀ s, Reach (wfL L) wants s → thB (pickL L out ++ pickL L own) s = thB L s := fun s hs => by unfold thB; rw [e1 s hs]
  have r2 : ∀ s, Reach (wfL L) wants s ↔ Reach (wfL (pickL L out ++ pickL L own)) wants s := fun s =>
    ⟨fun hs => Reach.mono (fun x y k hx _ hm => by rw [e2 x hx]; exact hm) hs, fun hs => Reach.mono (fun x y k _ hx hm => by rw [← e2 x hx]; exact hm) hs⟩
  obtain ⟨u1, u2⟩ := IsClo.unique (IsClo.congr hneed r2 fun s hs => (e3 s hs).symm) hgot
  refine ⟨?_, u1.symm⟩
  rw [← u2]
  refine List.eq_nil_iff_forall_not_mem.2 fun s hs => ?_
  obtain ⟨k1, k2⟩ := (hneed.mb s).1 hs
  rw [h3 s (hw s k1)] at k2; cases k2
/-- What several rows come to is closed. -/
theorem clo_shut {u c d : List Bs} (h : IsClo (wfL L) (thB L) tips u []) (h' : IsClo (wfL (pickL L u)) (thB (pickL L u)) u c d) : c = u ∧ d = [] := by
  have hu : IsClo (wfL L) (thB L) u u [] := IsClo.congr h (fun x => ⟨fun hx => .tip ((clo_all h).2 hx), fun hx => Reach.trans (fun y hy => (clo_all h).1 hy) hx⟩) fun _ _ => rfl
  have := IsClo.less hu (fun s hs => wfL_no hs) (fun s => ?_) (fun s hs => ?_) (fun s hs => ?_) h'
  · exact ⟨this.1.symm, this.2.symm⟩
  · unfold thB
    rw [findL_pickC]
    by_cases hm : s ∈ u
    · rw [if_pos (by simpa using hm)]; simp [hm]
    · rw [if_neg (by simpa using hm)]; simp [hm]
  · unfold wfL; rw [findL_pickC, if_pos (by simpa using hs)]
  · unfold wfL; rw [findL_pickC, if_neg (by simpa using hs)]
end
end Go.Proofs.YtialgldmogigfaaGreatDoor.Ct


namespace Go.Proofs.YtialgldmogigfaaGreatDoor.Ct
open Go.Proofs.YtialgldmogigfaaGreatDoor
open Go Go.RowKit Go.Maps

theorem okL {l : List Hld} (h : SmallH l) : OkL l := ⟨by have := h.1; omega, fun x hx => ⟨by have := (h.2 x hx).1; omega, by have := (h.2 x hx).2; omega⟩⟩
theorem okT {l : List Bs} (h : SmallT l) : OkT l := ⟨by have := h.1; omega, fun x hx => by have := h.2 x hx; omega⟩
theorem okT_nil : OkT [] := ⟨by simp, by simp⟩
theorem okT_one {x : Bs} (h : x.length ≤ 10000) : OkT [x] := ⟨by simp, fun y hy => by rw [List.mem_singleton.1 hy]; exact h⟩
theorem okT_app {a b : List Bs} (ha : SmallT a) (hb : SmallT b) : OkT (a ++ b) :=
  ⟨by rw [List.length_append]; have := ha.1; have := hb.1; omega, fun x hx => by
    rcases List.mem_append.1 hx with h | h
    · exact (okT ha).el x h
    · exact (okT hb).el x h⟩
theorem okT_snoc {a : List Bs} {x : Bs} (ha : SmallT a) (hx : x.length ≤ 10000) : OkT (a ++ [x]) :=
  ⟨by rw [List.length_append, List.length_singleton]; have := ha.1; omega, fun y hy => by
    rcases List.mem_append.1 hy with h | h
    · exact (okT ha).el y h
    · rw [List.mem_singleton.1 h]; exact hx⟩
theorem okL_app {a b : List Hld} (ha : SmallH a) (hb : SmallH b) : OkL (a ++ b) :=
  ⟨by rw [List.length_append]; have := ha.1; have := hb.1; omega, fun x hx => by
    rcases List.mem_append.1 hx with h | h
    · exact (okL ha).el x h
    · exact (okL hb).el x h⟩
theorem okL_pick {l : List Hld} (h : OkL l) (a : List Bs) : OkL (pickL l a) := ⟨Nat.le_trans (pickL_len l a) h.len, fun x hx => h.el x (List.mem_filter.1 hx).1⟩
theorem rise_at {l : List Bs} (h : Rising l) {i j : Nat} (hj : j < l.length) (hij : i < j) : l.getD i [] < l.getD j [] := by
  have := List.pairwise_iff_getElem.1 h i j (by omega) hj hij
  simpa [List.getD_eq_getElem?_getD, List.getElem?_eq_getElem hj, List.getElem?_eq_getElem (show i < l.length by omega)] using this
theorem keep_snoc {l : List Bs} {p : Bs → Bool} {k : Nat} (h : k < l.length) : (l.take (k + 1)).filter p = if p (l.getD k []) = true then (l.take k).filter p ++ [l.getD k []] else (l.take k).filter p := by
  rw [take_getD l [] k h, List.filter_append]
  by_cases e : p (l.getD k []) = true
  · rw [if_pos e, List.filter_cons_of_pos e]; rfl
  · rw [if_neg e, List.filter_cons_of_neg e]; simp
/-- What is sent is no more than what lies there. -/
theorem sent_ok {L : List Hld} {tips wants haves out : List Bs} {ec : Int} (hL : OkL L) (h : IsSend L tips wants haves out ec) : OkT out := by
  by_cases h0 : ec = 0
  · subst h0
    have hsub : ∀ x ∈ out, ∃ u ∈ L, u.id = x := fun x hx => by
      have h1 := ((h.ok.2.2.2.2 x).1 hx).1
      exact th_mem (h.ok.2.2.1 x (Reach.trans (fun y hy => .tip (h.ok.2.1 y hy)) h1))
    refine ⟨?_, fun x hx => ?_⟩
    · have := nodup_len (b := L.map Hld.id) h.ok.2.2.2.1.nodup fun x hx => by
        obtain ⟨u, hu, e⟩ := hsub x hx
        exact List.mem_map.2 ⟨u, hu, e⟩
      rw [List.length_map] at this
      have := hL.len
      omega
    · obtain ⟨u, hu, rfl⟩ := hsub x hx
      exact (hL.el u hu).1
  · rw [h.nil h0]; exact okT_nil
end Go.Proofs.YtialgldmogigfaaGreatDoor.Ct
