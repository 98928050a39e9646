/-
  PutTree: a tree's bytes.
-/
import Derived.Test.YtdkkeaaepebafaaGreatDoorTreeC
import Derived.Test.YtdkkeaaepebafaaGreatDoorBld
import Derived.Shelf.Strings.BuilderK
namespace Go.Proofs.YtdkkeaaepebafaaGreatDoor
open Go Go.RowKit Go.Shelf

theorem rowF_below {B : Nat} {e : TypeId} {v : Value} {n : Nat} {bs : List Value} {w w' : World} (h : w.ownsRowF B e 1 v n bs) (hb : Below w.heap.size w w') : w'.ownsRowF B e 1 v n bs := by
  obtain ⟨h3, h4⟩ := h
  refine ⟨h3, ?_⟩
  rcases h4 with h4 | ⟨g, cap, cur, fz, rfl, hbg, hg, r⟩
  · exact .inl h4
  · exact .inr ⟨g, cap, cur, fz, rfl, hbg, (hb.block g (lt_heap hg)).trans hg, r⟩
/-- The builder in block b, from B on, holds the bytes l. -/
def Bd (w : World) (B b : Nat) (l : List UInt8) : Prop := Lib.IsBuilderF 102 5 B b (Lib.byteCells l) w
theorem Bd.below {w w' : World} {B b : Nat} {l : List UInt8} (h : Bd w B b l) (hb : Below w.heap.size w w') : Bd w' B b l := by
  have key : ∀ p, Lib.BuilderAtF 102 5 B b p (Lib.byteCells l) w → Lib.BuilderAtF 102 5 B b p (Lib.byteCells l) w' := fun p h => by
    obtain ⟨h1, v, h2, h3, h5⟩ := h
    exact ⟨h1, v, (hb.block b (lt_heap h2)).trans h2, rowF_below h3 hb, h5⟩
  rcases h with h | h
  · exact .inl (key _ h)
  · exact .inr (key _ h)
theorem Bd.new (w : World) : Bd (w.alloc (.cells #[.pointer none, .slice none 0 0] 102)) w.heap.size w.heap.size [] := Lib.IsBuilderF.of (Lib.fresh_isBuilder _ _ w)
theorem Bd.mono {w : World} {B B' b : Nat} {l : List UInt8} (h : Bd w B b l) (hB : B' ≤ B) : Bd w B' b l := by
  have key : ∀ p, Lib.BuilderAtF 102 5 B b p (Lib.byteCells l) w → Lib.BuilderAtF 102 5 B' b p (Lib.byteCells l) w := fun p h => by
    obtain ⟨h1, v, h2, ⟨h3, h4⟩, h5⟩ := h
    refine ⟨by omega, v, h2, ⟨h3, ?_⟩, h5⟩
    rcases h4 with h4 | ⟨g, cap, cur, fz, rfl, hbg, r⟩
    · exact .inl h4
    · exact .inr ⟨g, cap, cur, fz, rfl, by omega, r⟩
  rcases h with h | h
  · exact .inl (key _ h)
  · exact .inr (key _ h)
theorem Bd.write {w : World} {B b : Nat} {l : List UInt8} (h : Bd w B b l) (hB : B ≤ w.heap.size) (m : List UInt8) (s : ByteArray) (hs : s = ⟨m.toArray⟩) (hl : l.length + m.length ≤ 1000000) :
    Calls Tryz.prog 66 #[.pointer (some ⟨b, 0, none⟩), .string s] w fun e w' => (∃ n, e = .returned (.tuple #[.int .i64 n, .nilIface])) ∧ Bd w' B b (l ++ m) ∧ Below B w w' ∧ Lib.OthersKept 5 (some b) w w' := by
  subst hs
  refine (Any.Builder_WriteString_k Tryz.bwsA Tryz.bwsX B b (Lib.byteCells l) ⟨m.toArray⟩ w h (by rw [Lib.byteCells_length]; show l.length + m.length ≤ _; omega) hB).mono ?_
  rintro e w' ⟨rfl, h1, h2, h3⟩
  refine ⟨⟨_, rfl⟩, ?_, h2, h3⟩
  rw [Lib.strCells_eq, ← Lib.byteCells_append] at h1
  exact .inr h1
theorem Bd.told {w : World} {B b : Nat} {l : List UInt8} (h : Bd w B b l) (hB : B ≤ w.heap.size) :
    Calls Tryz.prog 67 #[.pointer (some ⟨b, 0, none⟩)] w fun e w' => e = .returned (SV l) ∧ Below B w w' :=
  (Any.Builder_String_any_k Tryz.bstrA Tryz.bstrX B b l w h hB).mono fun _ _ ⟨h1, _, h2, _⟩ => ⟨h1, h2⟩
theorem Bd.lt {w : World} {B b : Nat} {l : List UInt8} (h : Bd w B b l) : b < w.heap.size := by
  rcases h with ⟨_, v, h, _⟩ | ⟨_, v, h, _⟩ <;> exact lt_heap h
theorem kept_blk {w w' : World} {b k : Nat} {t : TypeId} {cs : Array Value} (h : Lib.OthersKept 5 (some b) w w') (hk : w.heap[k]? = some (.cells cs t (0, 0))) (hb : k ≠ b) (ht : t ≠ 5) : w'.heap[k]? = some (.cells cs t (0, 0)) :=
  h k _ hk (fun e => hb (Option.some.inj e)) (fun c fz e => by cases e; exact ht rfl)

theorem putI_len {x : Itm} (h : itemB x = true) : (putI x).length ≤ 137 := by
  obtain ⟨_, _, h3, h4⟩ := itemB_parts h
  have := named_len64 h4
  have := (partB_parts.1 h3).2.1.2
  unfold putI
  simp only [List.length_cons, List.length_append]
  omega
theorem putT_snoc (l : List Itm) (k : Nat) (hk : k < l.length) : putT (l.take (k + 1)) = putT (l.take k) ++ putI (l.getD k noItm) := by
  unfold putT
  rw [take_getD l noItm k hk, List.flatMap_append]; simp
theorem putT_len : ∀ {l : List Itm}, (∀ x ∈ l, itemB x = true) → (putT l).length ≤ 137 * l.length
  | [], _ => Nat.zero_le _
  | x :: l, h => by
    have h1 := putI_len (h x (by simp))
    have h2 := putT_len (l := l) (fun y hy => h y (by simp [hy]))
    unfold putT at h2 ⊢
    rw [List.flatMap_cons, List.length_append, List.length_cons]
    omega

/-- Two texts, one behind the other. -/
theorem cat_run (a b : List UInt8) (t : ByteArray) (ht : t = ⟨(a ++ b).toArray⟩) (ha : a.length ≤ 1000000) (hb : b.length ≤ 1000000) : ∀ W : World, (Op.stringOp .add ⟨a.toArray⟩ ⟨b.toArray⟩).run Tryz.prog W = .ok (.string t) W := fun W => by
  rw [run_string_add_sum W _ _ (by show a.length + b.length ≤ _; omega), append_S, ht]
theorem cat_run2 (a b : List UInt8) (s t : ByteArray) (hs : s = ⟨a.toArray⟩) (ht : t = ⟨(a ++ b).toArray⟩) (ha : a.length ≤ 1000000) (hb : b.length ≤ 1000000) : ∀ W : World, (Op.stringOp .add s ⟨b.toArray⟩).run Tryz.prog W = .ok (.string t) W := by
  subst hs; exact cat_run a b t ht ha hb

set_option maxRecDepth 100000 in
set_option maxHeartbeats 4000000 in
theorem writeTree_yes (l : List Itm) (v : Value) (w : World) (hr : ItmsR w v l) (hs : Smalls l) (he : Er w) (ht : Tb w) (h : rightT l = true) :
    Calls Tryz.prog 42 #[v] w (RetBelow (.tuple #[SV (putT l), .nilIface]) w) := by
  have hl := (rightT_parts.1 h).1
  have hck := (checkTree_any l v w hr hs (by omega) he ht).mono fun e w' h' => CkPost.yes h' h
  have HC := Lib.hid hck
  obtain ⟨A, c, rfl⟩ := hr.shape
  have HR := Lib.hid hr; have HT := Lib.hid ht
  have HI := Lib.hid (rightT_items h)
  clear hck hr hs he ht h
  go_enter Tryz.func42, Tryz.ntmps42
  go_wp2_with fail
  refine HC.out.mono ?_
  rintro e w1 ⟨rfl, l1⟩
  have hb0 := Lib.hid ((Bd.new w1).mono l1.size)
  have L0 := Lib.hid (l1.alloc l1.size (.cells #[.pointer none, .slice none 0 0] 102))
  clear l1
  go_wp2_with fail
  go_loopw [15] (fun vi wr => ∃ k : Nat, k ≤ l.length ∧ vi = .int .i64 k ∧ Hid (Bd wr w.heap.size w1.heap.size (putT (l.take k))) ∧ Hid (Below w.heap.size w wr)) (fun vi _ => l.length - (intOf vi).toNat)
  case atStart => exact ⟨0, Nat.zero_le _, rfl, hb0, L0⟩
  case round =>
    obtain ⟨k, hk, rfl, hbd, hB⟩ := hrel
    by_cases hlt : k < l.length
    · obtain ⟨g, o, c', e, _, hg⟩ := HR.out.pos (by omega)
      cases e
      obtain ⟨c0, c1, c2⟩ := ItmsR.cells (HR.out.below hB.out (Nat.le_refl _)) k hlt
      have hsn := putT_snoc l k hlt
      have hit := HI.out _ (getD_mem l noItm k hlt)
      obtain ⟨x, hx⟩ : ∃ x, x = l.getD k noItm := ⟨_, rfl⟩
      rw [← hx] at c0 c1 c2 hsn hit
      obtain ⟨m, nm, di⟩ := x
      unfold SV at c1 c2
      simp only at c0 c1 c2
      obtain ⟨m1, m2, m3, m4⟩ := itemB_parts hit
      simp only at m1 m2 m3 m4
      have n1 : nm.length ≤ 70 := (partB_parts.1 m3).2.1.2
      have n2 : di.length ≤ 64 := by have := named_len64 m4; omega
      have htl : ((putT (l.take k)).length : Nat) + (putI ⟨m, nm, di⟩).length ≤ 1000000 := by
        have h1 := putT_len (l := l.take k) (fun y hy => HI.out y (List.mem_of_mem_take hy))
        have h2 := putI_len hit
        rw [List.length_take] at h1
        omega
      have HS := Lib.hid hsn; have HL := Lib.hid htl
      have htx := fun W (hW : Below w.heap.size w W) => Text_any m (by omega) (by omega) W (HT.out.below hW)
      rw [textL_mode m1 m2] at htx
      unfold SV at htx
      obtain ⟨d, hd⟩ : ∃ d, d = UInt8.ofNat (48 + m.toNat) := ⟨_, rfl⟩
      rw [← hd] at htx
      obtain ⟨t1, ht1⟩ : ∃ t : ByteArray, t = ⟨([d] ++ [32]).toArray⟩ := ⟨_, rfl⟩
      obtain ⟨t2, ht2⟩ : ∃ t : ByteArray, t = ⟨(([d] ++ [32]) ++ nm).toArray⟩ := ⟨_, rfl⟩
      obtain ⟨t3, ht3⟩ : ∃ t : ByteArray, t = ⟨((([d] ++ [32]) ++ nm) ++ [0]).toArray⟩ := ⟨_, rfl⟩
      obtain ⟨t4, ht4⟩ : ∃ t : ByteArray, t = ⟨(((([d] ++ [32]) ++ nm) ++ [0]) ++ di).toArray⟩ := ⟨_, rfl⟩
      have r1 := cat_run [d] [32] t1 ht1 (by simp) (by simp)
      have r2 := cat_run2 _ nm t1 t2 ht1 ht2 (by simp) (by omega)
      have r3 := cat_run2 _ [0] t2 t3 ht2 ht3 (by simp; omega) (by simp)
      have r4 := cat_run2 _ di t3 t4 ht3 ht4 (by simp; omega) (by omega)
      have H4 : Hid (t4 = ⟨(putI ⟨m, nm, di⟩).toArray⟩) := Lib.hid (by rw [ht4, hd]; unfold putI; simp)
      clear ht1 ht2 ht3 ht4 hd
      have HX := Lib.hid htx
      have L1 := Lib.hid (hB.out.alloc hB.out.size (.cells #[.int .i64 m, .string ⟨nm.toArray⟩, .string ⟨di.toArray⟩] 54))
      have hne : wr.heap.size ≠ w1.heap.size := by have := hbd.out.lt; omega
      have HN := Lib.hid hne
      have HD : Hid (∀ W, Below (wr.alloc (.cells #[.int .i64 m, .string ⟨nm.toArray⟩, .string ⟨di.toArray⟩] 54)).heap.size (wr.alloc (.cells #[.int .i64 m, .string ⟨nm.toArray⟩, .string ⟨di.toArray⟩] 54)) W → Bd W w.heap.size w1.heap.size (putT (l.take k))) := Lib.hid fun W hW => (hbd.out.below (below_new wr _)).below hW
      clear hx hsn hit htl htx m3 m4 hne
      go_wp2_with fail
      go_region_held3 (fun W => W.cell? ⟨wr.heap.size, 0, none⟩ = some (.int .i64 m) ∧ W.cell? ⟨wr.heap.size, 1, none⟩ = some (.string ⟨nm.toArray⟩) ∧ W.cell? ⟨wr.heap.size, 2, none⟩ = some (.string ⟨di.toArray⟩))
        (first | exact ⟨by simp, by simp, by simp⟩ | assumption | go_keep)
        (first
          | (go_at_call 64; refine (HX.out _ L1.out.drew).mono ?_; rintro e w2 ⟨rfl, l2⟩; have hb2 := Lib.hid (((bdr l2).block wr.heap.size (by simp)).trans (heap_alloc_new wr _)); have hS2 := And.intro ((cell_of_row w2 wr.heap.size 0 _ _ _ hb2.out).trans (by rfl)) (And.intro ((cell_of_row w2 wr.heap.size 1 _ _ _ hb2.out).trans (by rfl)) ((cell_of_row w2 wr.heap.size 2 _ _ _ hb2.out).trans (by rfl))))
          | (go_at_call 66; refine (Bd.write (HD.out w2 (bdr l2)) (Nat.le_trans L1.out.size l2.size) (putI ⟨m, nm, di⟩) t4 H4.out HL.out).mono ?_; rintro e w3 ⟨⟨n, rfl⟩, hb3, l3, k3⟩; have hb4 := Lib.hid (kept_blk k3 hb2.out HN.out (by decide)); have hS3 := And.intro ((cell_of_row w3 wr.heap.size 0 _ _ _ hb4.out).trans (by rfl)) (And.intro ((cell_of_row w3 wr.heap.size 1 _ _ _ hb4.out).trans (by rfl)) ((cell_of_row w3 wr.heap.size 2 _ _ _ hb4.out).trans (by rfl)))))
      have HB3 : Hid (Bd w3 w.heap.size w1.heap.size (putT (l.take (k + 1)))) := Lib.hid (by rw [HS.out]; exact hb3)
      have L3 := Lib.hid ((L1.out.trans ((bdr l2).mono L1.out.size)).trans l3)
      clear hS2 hS3 hb3 l2 l3 k3 r1 r2 r3 r4
      go_wp2_with fail
      go_roundw
      case rel => exact ⟨k + 1, by omega, by go_num, HB3, L3⟩
      case measure => simp [intOf]; omega
    · obtain rfl : k = l.length := by omega
      have h1 := hbd.out
      rw [List.take_length] at h1
      have HB := Lib.hid (h1.told hB.out.size)
      clear h1
      unfold SV at HB
      go_wp2_with fail
      refine HB.out.mono ?_
      rintro e w2 ⟨rfl, l2⟩
      go_wp2_with fail
      go_ret2
      exact ⟨rfl, hB.out.trans l2⟩

/-- An answer with an error. -/
def FailP (v : Value) (w : World) (e : Ending) (w' : World) : Prop := ∃ p, e = .returned (.tuple #[v, .iface 92 (.pointer (some p))]) ∧ Below w.heap.size w w'
set_option maxRecDepth 100000 in
set_option maxHeartbeats 1000000 in
theorem writeTree_no (l : List Itm) (v : Value) (w : World) (hr : ItmsR w v l) (hs : Smalls l) (hl : l.length ≤ 1000000) (he : Er w) (ht : Tb w) (h : rightT l = false) :
    Calls Tryz.prog 42 #[v] w (FailP (.string ⟨#[]⟩) w) := by
  have hck := (checkTree_any l v w hr hs hl he ht).mono fun e w' h' => CkPost.no h' h
  have HC := Lib.hid hck
  obtain ⟨A, c, rfl⟩ := hr.shape
  clear hck hr hs he ht h
  go_enter Tryz.func42, Tryz.ntmps42
  go_wp2_with fail
  refine HC.out.mono ?_
  rintro e w1 ⟨p, rfl, l1⟩
  go_wp2_with fail
  go_ret2
  exact ⟨_, rfl, l1⟩

/-- What PutTree answers. -/
def putTV (l : List Itm) : Value := .tuple #[SV (if rightT l then putT l else []), .bool (rightT l)]
theorem putTV_yes {l : List Itm} (h : rightT l = true) : putTV l = .tuple #[SV (putT l), .bool true] := by unfold putTV; rw [h]; rfl
theorem putTV_no {l : List Itm} (h : rightT l = false) : putTV l = .tuple #[.string ⟨#[]⟩, .bool false] := by unfold putTV; rw [h]; rfl
set_option maxRecDepth 100000 in
set_option maxHeartbeats 1000000 in
theorem PutTree_any (l : List Itm) (v : Value) (w : World) (hr : ItmsR w v l) (hs : Smalls l) (hl : l.length ≤ 1000000) (he : Er w) (ht : Tb w) :
    Calls Tryz.prog 19 #[v] w (RetBelow (putTV l) w) := by
  cases h : rightT l
  · have HW := Lib.hid (writeTree_no l v w hr hs hl he ht h)
    have HE := Lib.hid he
    obtain ⟨A, c, rfl⟩ := hr.shape
    rw [putTV_no h]
    clear hr hs he ht h
    go_enter Tryz.func19, Tryz.ntmps19
    go_wp2_with fail
    refine HW.out.mono ?_
    rintro e w1 ⟨p, rfl, l1⟩
    have HT := Lib.hid (toldS_fault (.string ⟨#[]⟩) (.iface 92 (.pointer (some p))) w1 ⟨p, rfl⟩ (HE.out.below l1).et)
    go_wp2_with fail
    refine HT.out.mono ?_
    rintro e w2 ⟨rfl, l2⟩
    go_wp2_with fail
    go_ret2
    exact ⟨rfl, l1.trans (l2.mono l1.size)⟩
  · have HW := Lib.hid (writeTree_yes l v w hr hs he ht h)
    obtain ⟨A, c, rfl⟩ := hr.shape
    rw [putTV_yes h]
    clear hr hs he ht h
    unfold SV at HW ⊢
    go_enter Tryz.func19, Tryz.ntmps19
    go_wp2_with fail
    refine HW.out.mono ?_
    rintro e w1 ⟨rfl, l1⟩
    have HT := Lib.hid (toldS_nil (.string ⟨(putT l).toArray⟩) w1)
    go_wp2_with fail
    refine HT.out.mono ?_
    rintro e w2 ⟨rfl, l2⟩
    go_wp2_with fail
    go_ret2
    exact ⟨rfl, l1.trans (l2.mono l1.size)⟩
end Go.Proofs.YtdkkeaaepebafaaGreatDoor
