/-
  The plain side of layer 4: trees, commits and tags as lists of bytes, there and back. Strings, slices of texts, of items, of wants, as they lie in memory. Errors inside object: need, within; errors.As at a fault: told.
-/
import GoSem.ClaimWide
import Derived.Test.YtgjddkeogboojaaGreatDoorT01
import Derived.Lib.Hide
import Derived.Laws.AppendOwnNone
import Derived.Deep.RegionHeld3
import Derived.Lib.IndexLaws
import Derived.Test.YtgjddkeogboojaaGreatDoorT02
import Derived.LaidEql
import Derived.LaidEqlPtr
import Derived.Stop.Asserts
import Derived.RowKitTokens
namespace Go.Proofs.YtgjddkeogboojaaGreatDoor
open Go
def partC (c : UInt8) : Bool := decide (33 ≤ c.toNat) && decide (c.toNat ≤ 126) && !(c == 47)
/-- The name of an item, of a tag. -/
def partB (s : List UInt8) : Bool := s.all partC && (decide (1 ≤ s.length) && decide (s.length ≤ 70)) && !(s == [46]) && !(s == [46, 46])
def whoC (c : UInt8) : Bool := decide (32 ≤ c.toNat) && decide (c.toNat ≤ 126)
def whoB (s : List UInt8) : Bool := s.all whoC && decide (s.length ≤ 100)
def cutAt (c : UInt8) : List UInt8 → Option (List UInt8 × List UInt8)
  | [] => none
  | x :: s => if x = c then some ([], s) else (cutAt c s).map fun p => (x :: p.1, p.2)
theorem cutAt_some {c : UInt8} : ∀ {s a r : List UInt8}, cutAt c s = some (a, r) → s = a ++ c :: r ∧ c ∉ a
  | [], _, _, h => by cases h
  | x :: s, a, r, h => by
    rw [cutAt] at h
    by_cases hx : x = c
    · rw [if_pos hx] at h
      simp only [Option.some.injEq, Prod.mk.injEq] at h
      obtain ⟨rfl, rfl⟩ := h
      exact ⟨by rw [hx]; rfl, by simp⟩
    · rw [if_neg hx] at h
      obtain ⟨⟨a', r'⟩, h1, h2⟩ := Option.map_eq_some_iff.1 h
      simp only [Prod.mk.injEq] at h2
      obtain ⟨rfl, rfl⟩ := h2
      obtain ⟨e1, e2⟩ := cutAt_some h1
      exact ⟨by rw [e1]; rfl, by simp only [List.mem_cons, not_or]; exact ⟨fun e => hx e.symm, e2⟩⟩
/-- A line that begins with a word: what stands behind that, and what is behind the line. -/
def lineP (pre s : List UInt8) : Option (List UInt8 × List UInt8) := if pre.isPrefixOf s then cutAt 10 (s.drop pre.length) else none
theorem pre_iff {pre s : List UInt8} : pre.isPrefixOf s = true ↔ ∃ r, s = pre ++ r := by
  rw [List.isPrefixOf_iff_prefix]
  exact ⟨fun ⟨r, h⟩ => ⟨r, h.symm⟩, fun ⟨r, h⟩ => ⟨r, h.symm⟩⟩
theorem lineP_some {pre s a r : List UInt8} (h : lineP pre s = some (a, r)) : s = pre ++ (a ++ 10 :: r) ∧ 10 ∉ a := by
  unfold lineP at h
  by_cases hp : pre.isPrefixOf s = true
  · rw [if_pos hp] at h
    obtain ⟨q, rfl⟩ := pre_iff.1 hp
    rw [List.drop_left] at h
    obtain ⟨e, e2⟩ := cutAt_some h
    exact ⟨by rw [e], e2⟩
  · rw [if_neg hp] at h; cases h
/-- As many lines of a word as there are, n at most. -/
def linesP (pre : List UInt8) : Nat → List UInt8 → Option (List (List UInt8) × List UInt8)
  | 0, s => some ([], s)
  | n + 1, s => if pre.isPrefixOf s then (match cutAt 10 (s.drop pre.length) with | none => none | some (a, r) => (linesP pre n r).map fun p => (a :: p.1, p.2)) else some ([], s)
theorem linesP_some {pre : List UInt8} : ∀ {n : Nat} {s : List UInt8} {l : List (List UInt8)} {r : List UInt8}, linesP pre n s = some (l, r) → s = (l.flatMap fun a => pre ++ (a ++ [10])) ++ r
  | 0, s, l, r, h => by
    simp only [linesP, Option.some.injEq, Prod.mk.injEq] at h
    obtain ⟨rfl, rfl⟩ := h; rfl
  | n + 1, s, l, r, h => by
    rw [linesP] at h
    by_cases hp : pre.isPrefixOf s = true
    · rw [if_pos hp] at h
      obtain ⟨q, rfl⟩ := pre_iff.1 hp
      rw [List.drop_left] at h
      cases hc : cutAt 10 q with
      | none => rw [hc] at h; cases h
      | some p =>
        obtain ⟨a, q'⟩ := p
        rw [hc] at h
        obtain ⟨⟨l', r'⟩, h1, h2⟩ := Option.map_eq_some_iff.1 h
        simp only [Prod.mk.injEq] at h2
        obtain ⟨rfl, rfl⟩ := h2
        obtain ⟨e1, _⟩ := cutAt_some hc
        have e2 := linesP_some h1
        rw [e1, e2]
        simp [List.flatMap_cons, List.append_assoc]
    · rw [if_neg hp] at h
      simp only [Option.some.injEq, Prod.mk.injEq] at h
      obtain ⟨rfl, rfl⟩ := h; rfl
structure Itm where
  mode : Int
  name : List UInt8
  id : List UInt8
deriving DecidableEq
def noItm : Itm := ⟨0, [], []⟩
def itemB (x : Itm) : Bool := decide (1 ≤ x.mode) && decide (x.mode ≤ 3) && partB x.name && namedB x.id
/-- By which items rise. -/
def keyL (x : Itm) : List UInt8 := if x.mode = 3 then x.name ++ [47] else x.name
def goodI (l : List Itm) (i : Nat) : Bool := itemB (l.getD i noItm) && (i == 0 || bytesBefore (keyL (l.getD (i - 1) noItm)) (keyL (l.getD i noItm)))
def rightT (l : List Itm) : Bool := decide (l.length ≤ 256) && (List.range l.length).all (goodI l) && decide ((l.map Itm.name).Nodup)
def getI : List UInt8 → Option (Itm × List UInt8)
  | m :: b :: s => if b = 32 then (match cutAt 0 s with | some (a, r) => if 64 ≤ r.length then some (⟨(m.toNat : Int) - 48, a, r.take 64⟩, r.drop 64) else none | none => none) else none
  | _ => none
def getIs : Nat → List UInt8 → Option (List Itm × List UInt8)
  | 0, s => some ([], s)
  | _ + 1, [] => some ([], [])
  | f + 1, c :: s => match getI (c :: s) with | none => none | some (x, r) => (getIs f r).map fun p => (x :: p.1, p.2)
def getT (s : List UInt8) : Option (List Itm) := match getIs 257 s with | none => none | some (l, _) => if rightT l then some l else none
theorem itemB_parts {x : Itm} (h : itemB x = true) : 1 ≤ x.mode ∧ x.mode ≤ 3 ∧ partB x.name = true ∧ namedB x.id = true := by
  unfold itemB at h
  simp only [Bool.and_eq_true, decide_eq_true_eq] at h
  exact ⟨h.1.1.1, h.1.1.2, h.1.2, h.2⟩
theorem rightT_parts {l : List Itm} : rightT l = true ↔ l.length ≤ 256 ∧ (∀ i, i < l.length → goodI l i = true) ∧ (l.map Itm.name).Nodup := by
  unfold rightT
  simp only [Bool.and_eq_true, decide_eq_true_eq, List.all_eq_true, List.mem_range]
  exact ⟨fun h => ⟨h.1.1, h.1.2, h.2⟩, fun h => ⟨⟨h.1, h.2.1⟩, h.2.2⟩⟩
structure Chg where
  tree : List UInt8
  parents : List (List UInt8)
  who : List UInt8
  text : List UInt8
deriving DecidableEq
def wTree : List UInt8 := [116, 114, 101, 101, 32]
def wParent : List UInt8 := [112, 97, 114, 101, 110, 116, 32]
def wWho : List UInt8 := [119, 104, 111, 32]
def rightC (c : Chg) : Bool := namedB c.tree && (decide (c.parents.length ≤ 8) && c.parents.all namedB && decide c.parents.Nodup) && whoB c.who
def parL (l : List (List UInt8)) : List UInt8 := l.flatMap fun a => wParent ++ (a ++ [10])
def putC (c : Chg) : List UInt8 := wTree ++ (c.tree ++ 10 :: (parL c.parents ++ (wWho ++ (c.who ++ 10 :: (10 :: c.text)))))
def tailP : List UInt8 → Option (List UInt8)
  | c :: s => if c = 10 then some s else none
  | [] => none
def rawC (s : List UInt8) : Option Chg :=
  match lineP wTree s with
  | none => none
  | some (t, r) => match linesP wParent 8 r with
    | none => none
    | some (ps, r) => match lineP wWho r with
      | none => none
      | some (w, r) => (tailP r).map fun x => ⟨t, ps, w, x⟩
def getC (s : List UInt8) : Option Chg := match rawC s with | none => none | some c => if rightC c then some c else none
theorem tailP_some {s x : List UInt8} (h : tailP s = some x) : s = 10 :: x := by
  match s, h with
  | c :: s, h =>
    rw [tailP] at h
    by_cases hc : c = 10
    · rw [if_pos hc] at h; cases h; rw [hc]
    · rw [if_neg hc] at h; cases h
  | [], h => cases h
theorem rawC_some {s : List UInt8} {c : Chg} (h : rawC s = some c) : s = putC c := by
  unfold rawC at h
  cases h1 : lineP wTree s with
  | none => rw [h1] at h; cases h
  | some p =>
    obtain ⟨t, r1⟩ := p
    rw [h1] at h; simp only at h
    cases h2 : linesP wParent 8 r1 with
    | none => rw [h2] at h; cases h
    | some p =>
      obtain ⟨ps, r2⟩ := p
      rw [h2] at h; simp only at h
      cases h3 : lineP wWho r2 with
      | none => rw [h3] at h; cases h
      | some p =>
        obtain ⟨w, r3⟩ := p
        rw [h3] at h; simp only at h
        obtain ⟨x, h4, rfl⟩ := Option.map_eq_some_iff.1 h
        have e1 := (lineP_some h1).1
        have e2 := linesP_some h2
        have e3 := (lineP_some h3).1
        have e4 := tailP_some h4
        rw [e1, e2, e3, e4]; rfl
structure Lbl where
  id : List UInt8
  kind : Int
  name : List UInt8
  text : List UInt8
deriving DecidableEq
/-- The word of a kind. -/
def kindW (k : Int) : List UInt8 := if k = 1 then [98, 108, 111, 98] else if k = 2 then [116, 114, 101, 101] else if k = 3 then [99, 111, 109, 109, 105, 116] else if k = 4 then [116, 97, 103] else []
def kindOfW (w : List UInt8) : Int := if w = [98, 108, 111, 98] then 1 else if w = [116, 114, 101, 101] then 2 else if w = [99, 111, 109, 109, 105, 116] then 3 else if w = [116, 97, 103] then 4 else 0
def wObject : List UInt8 := [111, 98, 106, 101, 99, 116, 32]
def wKind : List UInt8 := [107, 105, 110, 100, 32]
def wName : List UInt8 := [110, 97, 109, 101, 32]
def rightL (l : Lbl) : Bool := namedB l.id && (decide (1 ≤ l.kind) && decide (l.kind ≤ 4)) && partB l.name
def rawL (s : List UInt8) : Option Lbl :=
  match lineP wObject s with
  | none => none
  | some (i, r) => match lineP wKind r with
    | none => none
    | some (k, r) => match lineP wName r with
      | none => none
      | some (n, r) => (tailP r).map fun x => ⟨i, kindOfW k, n, x⟩
def getL4 (s : List UInt8) : Option Lbl := match rawL s with | none => none | some l => if rightL l then some l else none
theorem kind_cases {k : Int} (h1 : 1 ≤ k) (h2 : k ≤ 4) : k = 1 ∨ k = 2 ∨ k = 3 ∨ k = 4 := by omega
theorem word_ne_nil {k : Int} : kindW k = [] ↔ ¬ (1 ≤ k ∧ k ≤ 4) := by
  constructor
  · rintro h ⟨h1, h2⟩
    rcases kind_cases h1 h2 with rfl | rfl | rfl | rfl <;> cases h
  · intro h
    unfold kindW
    rw [if_neg (by omega), if_neg (by omega), if_neg (by omega), if_neg (by omega)]
def wantI (x : Itm) : List UInt8 × Int := (x.id, if x.mode = 3 then 2 else 1)
def wantC (c : Chg) : List (List UInt8 × Int) := (c.tree, 2) :: c.parents.map fun p => (p, 3)
def wantL (l : Lbl) : List (List UInt8 × Int) := [(l.id, l.kind)]
/-- What an object's bytes name, if it may be one. -/
def wantsO (k : Int) (d : List UInt8) : Option (List (List UInt8 × Int)) :=
  if 65536 < d.length then none
  else if k = 1 then some []
  else if k = 2 then (getT d).map fun l => l.map wantI
  else if k = 3 then (getC d).map wantC
  else if k = 4 then (getL4 d).map wantL
  else none
end Go.Proofs.YtgjddkeogboojaaGreatDoor
namespace Go.Proofs.YtgjddkeogboojaaGreatDoor
open Go Go.RowKit
def SV (l : List UInt8) : Value := .string ⟨l.toArray⟩
theorem ret_bool {a b : Bool} (h : a = b) : Ending.returned (.bool a) = .returned (.bool b) := by rw [h]
theorem ret_u8 {a b : Int} (h : a = b) : Ending.returned (.int .u8 a) = .returned (.int .u8 b) := by rw [h]
theorem append_S (p q : List UInt8) : (⟨p.toArray⟩ : ByteArray) ++ (⟨q.toArray⟩ : ByteArray) = ⟨(p ++ q).toArray⟩ := by
  apply ByteArray.ext
  rw [ByteArray.data_append]
  apply Array.ext'
  simp
theorem extract_S (p : List UInt8) (a b : Nat) : (⟨p.toArray⟩ : ByteArray).extract a b = ⟨((p.take b).drop a).toArray⟩ := by
  apply ByteArray.ext
  rw [ByteArray.data_extract]
  apply Array.ext'
  simp [List.drop_take]
theorem lt_heap {w : World} {g : Nat} {o : Obj} (h : w.heap[g]? = some o) : g < w.heap.size := by
  rcases Nat.lt_or_ge g w.heap.size with hlt | hge
  · exact hlt
  · rw [Array.getElem?_eq_none hge] at h; cases h
/-- The slice value v holds, element by element, the k cells that f tells. -/
def RdK {α : Type} (k : Nat) (f : α → List Value) (w : World) (v : Value) (l : List α) : Prop :=
  ((∃ A c, v = .slice A 0 c) ∧ l = []) ∨ ∃ g o c, v = .slice (some ⟨g, o, none⟩) l.length c ∧ l.length ≤ c ∧ g < w.heap.size ∧ ∀ j, j < l.length → ∀ x, l[j]? = some x → ∀ i, i < k → w.cell? ⟨g, o + j * k + i, none⟩ = (f x)[i]?
theorem RdK.below {α : Type} {k : Nat} {f : α → List Value} {w w' : World} {v : Value} {l : List α} {b : Nat} (h : RdK k f w v l) (hb : Below b w w') (hlt : w.heap.size ≤ b) : RdK k f w' v l := by
  rcases h with h | ⟨g, o, c, rfl, hc, hg, hcell⟩
  · exact .inl h
  · exact .inr ⟨g, o, c, rfl, hc, Nat.lt_of_lt_of_le hg hb.size, fun j hj x hx i hi => by rw [hb.cell (p := ⟨g, o + j * k + i, none⟩) (by show g < b; omega)]; exact hcell j hj x hx i hi⟩
theorem RdK.shape {α : Type} {k : Nat} {f : α → List Value} {w : World} {v : Value} {l : List α} (h : RdK k f w v l) : ∃ A c, v = .slice A l.length c := by
  rcases h with ⟨⟨A, c, rfl⟩, rfl⟩ | ⟨g, o, c, rfl, hc, _⟩
  · exact ⟨A, c, rfl⟩
  · exact ⟨_, _, rfl⟩
/-- Behind what turned one block that is not its own. -/
theorem RdK.grown {α : Type} {k : Nat} {f : α → List Value} {w w' : World} {v : Value} {l : List α} {r : Option Nat} (h : RdK k f w v l) (hg : w.grownBy w' r) (hr : ∀ g o c, v = .slice (some ⟨g, o, none⟩) l.length c → r ≠ some g) : RdK k f w' v l := by
  rcases h with h | ⟨g, o, c, rfl, hc, hgl, hcell⟩
  · exact .inl h
  · refine .inr ⟨g, o, c, rfl, hc, Nat.lt_of_lt_of_le hgl hg.size, fun j hj x hx i hi => ?_⟩
    have hb := hg.block g hgl (fun e => hr g o c rfl e.symm)
    rw [← hcell j hj x hx i hi]
    exact World.cell?_of_block (w := w) (a := ⟨g, o + j * k + i, none⟩) hb
/-- The slice value v is the call's own, above base, and holds them. -/
def OwK {α : Type} (t : TypeId) (k : Nat) (f : α → List Value) (w : World) (base : Nat) (v : Value) (l : List α) : Prop := w.ownsRow base t k v l.length (l.flatMap f)
theorem flat_length {α : Type} {k : Nat} {f : α → List Value} (hf : ∀ x, (f x).length = k) (l : List α) : (l.flatMap f).length = l.length * k := by
  induction l with
  | nil => simp
  | cons x l ih => rw [List.flatMap_cons, List.length_append, ih, hf, List.length_cons, Nat.add_mul, Nat.one_mul, Nat.add_comm]
theorem flat_get {α : Type} {k : Nat} {f : α → List Value} (hf : ∀ x, (f x).length = k) : ∀ (l : List α) (j : Nat) (x : α), l[j]? = some x → ∀ i, i < k → (l.flatMap f)[j * k + i]? = (f x)[i]?
  | [], j, x, h, i, hi => by simp at h
  | y :: l, 0, x, h, i, hi => by
    simp at h; subst h
    rw [List.flatMap_cons, Nat.zero_mul, Nat.zero_add, List.getElem?_append_left (by rw [hf]; exact hi)]
  | y :: l, j + 1, x, h, i, hi => by
    rw [List.flatMap_cons, List.getElem?_append_right (by rw [hf, Nat.add_mul]; omega), hf, show (j + 1) * k + i - k = j * k + i by rw [Nat.add_mul]; omega]
    exact flat_get hf l j x (by simpa using h) i hi
theorem OwK.rd {α : Type} {t : TypeId} {k : Nat} {f : α → List Value} (hf : ∀ x, (f x).length = k) {w : World} {base : Nat} {v : Value} {l : List α} (h : OwK t k f w base v l) : RdK k f w v l := by
  obtain ⟨h1, h2⟩ := h
  rcases h2 with ⟨rfl, h2⟩ | ⟨g, cap, cur, rfl, hb, hg, hn, hm, hs, ht⟩
  · exact .inl ⟨⟨_, _, rfl⟩, List.length_eq_zero_iff.1 h2⟩
  · refine .inr ⟨g, 0, cap, rfl, hn, lt_heap hg, fun j hj x hx i hi => ?_⟩
    rw [Nat.zero_add, cell_of_row w g (j * k + i) _ _ _ hg]
    have hlt : j * k + i < l.length * k := by
      have : (j + 1) * k ≤ l.length * k := Nat.mul_le_mul_right k hj
      rw [Nat.add_mul] at this; omega
    have h3 : (cur.toList.take (l.length * k))[j * k + i]? = (l.flatMap f)[j * k + i]? := by rw [ht]
    rw [List.getElem?_take, if_pos hlt, Array.getElem?_toList, flat_get hf l j x hx i hi] at h3
    exact h3
theorem OwK.below {α : Type} {t : TypeId} {k : Nat} {f : α → List Value} {w w' : World} {base b : Nat} {v : Value} {l : List α} (h : OwK t k f w base v l) (hb : Below b w w') (hlt : w.heap.size ≤ b) : OwK t k f w' base v l := by
  obtain ⟨h1, h2⟩ := h
  refine ⟨h1, ?_⟩
  rcases h2 with h2 | ⟨g, cap, cur, rfl, hbg, hg, r⟩
  · exact .inl h2
  · exact .inr ⟨g, cap, cur, rfl, hbg, (hb.block g (Nat.lt_of_lt_of_le (lt_heap hg) hlt)).trans hg, r⟩
theorem OwK.mono {α : Type} {t : TypeId} {k : Nat} {f : α → List Value} {w : World} {base b : Nat} {v : Value} {l : List α} (h : OwK t k f w base v l) (hb : b ≤ base) : OwK t k f w b v l := by
  obtain ⟨h1, h2⟩ := h
  refine ⟨h1, ?_⟩
  rcases h2 with h2 | ⟨g, cap, cur, rfl, hbg, r⟩
  · exact .inl h2
  · exact .inr ⟨g, cap, cur, rfl, Nat.le_trans hb hbg, r⟩
theorem OwK.nil {α : Type} (t : TypeId) (k : Nat) (f : α → List Value) (w : World) (base : Nat) : OwK t k f w base (.slice none 0 0) ([] : List α) := World.ownsRow_nil w base _ _
def strC (s : List UInt8) : List Value := [SV s]
def itmC (x : Itm) : List Value := [.int .i64 x.mode, SV x.name, SV x.id]
def wantV (x : List UInt8 × Int) : List Value := [SV x.1, .int .i64 x.2]
theorem strC_len (x : List UInt8) : (strC x).length = 1 := rfl
theorem itmC_len (x : Itm) : (itmC x).length = 3 := rfl
theorem wantV_len (x : List UInt8 × Int) : (wantV x).length = 2 := rfl
def StrsR (w : World) (v : Value) (l : List (List UInt8)) : Prop := RdK 1 strC w v l
def ItmsR (w : World) (v : Value) (l : List Itm) : Prop := RdK 3 itmC w v l
def WantsR (w : World) (v : Value) (l : List (List UInt8 × Int)) : Prop := RdK 2 wantV w v l
theorem StrsR.cell {w : World} {g o n c : Nat} {l : List (List UInt8)} (h : StrsR w (.slice (some ⟨g, o, none⟩) n c) l) (k : Nat) (hk : k < l.length) : w.cell? ⟨g, o + k, none⟩ = some (SV (l.getD k [])) := by
  rcases h with ⟨_, rfl⟩ | ⟨g', o', c', e, hc, hg, hcell⟩
  · simp at hk
  · cases e
    have := hcell k hk _ (List.getElem?_eq_getElem hk) 0 (by omega)
    rw [Nat.mul_one, Nat.add_zero] at this
    rw [this, List.getD_eq_getElem?_getD, List.getElem?_eq_getElem hk]; rfl
theorem ItmsR.cells {w : World} {g o n c : Nat} {l : List Itm} (h : ItmsR w (.slice (some ⟨g, o, none⟩) n c) l) (k : Nat) (hk : k < l.length) :
    w.cell? ⟨g, o + k * 3, none⟩ = some (.int .i64 (l.getD k noItm).mode) ∧ w.cell? ⟨g, o + k * 3 + 1, none⟩ = some (SV (l.getD k noItm).name) ∧ w.cell? ⟨g, o + k * 3 + 2, none⟩ = some (SV (l.getD k noItm).id) := by
  rcases h with ⟨_, rfl⟩ | ⟨g', o', c', e, hc, hg, hcell⟩
  · simp at hk
  · cases e
    have h0 := hcell k hk _ (List.getElem?_eq_getElem hk)
    have e : l.getD k noItm = l[k] := by rw [List.getD_eq_getElem?_getD, List.getElem?_eq_getElem hk]; rfl
    rw [e]
    exact ⟨h0 0 (by omega), h0 1 (by omega), h0 2 (by omega)⟩
theorem WantsR.cells {w : World} {g o n c : Nat} {l : List (List UInt8 × Int)} (h : WantsR w (.slice (some ⟨g, o, none⟩) n c) l) (k : Nat) (hk : k < l.length) :
    w.cell? ⟨g, o + k * 2, none⟩ = some (SV (l.getD k ([], 0)).1) ∧ w.cell? ⟨g, o + k * 2 + 1, none⟩ = some (.int .i64 (l.getD k ([], 0)).2) := by
  rcases h with ⟨_, rfl⟩ | ⟨g', o', c', e, hc, hg, hcell⟩
  · simp at hk
  · cases e
    have h0 := hcell k hk _ (List.getElem?_eq_getElem hk)
    have e : l.getD k ([], 0) = l[k] := by rw [List.getD_eq_getElem?_getD, List.getElem?_eq_getElem hk]; rfl
    rw [e]
    exact ⟨h0 0 (by omega), h0 1 (by omega)⟩
/-- A slice that is not empty lies in a block. -/
theorem RdK.pos {α : Type} {k : Nat} {f : α → List Value} {w : World} {v : Value} {l : List α} (h : RdK k f w v l) (hl : 0 < l.length) : ∃ g o c, v = .slice (some ⟨g, o, none⟩) l.length c ∧ l.length ≤ c ∧ g < w.heap.size := by
  rcases h with ⟨_, rfl⟩ | ⟨g, o, c, rfl, hc, hg, _⟩
  · simp at hl
  · exact ⟨g, o, c, rfl, hc, hg⟩
theorem take_getD {α : Type} (l : List α) (d : α) (k : Nat) (hk : k < l.length) : l.take (k + 1) = l.take k ++ [l.getD k d] := by
  rw [List.take_succ_eq_append_getElem hk, List.getD_eq_getElem?_getD, List.getElem?_eq_getElem hk]; rfl
theorem getD_mem {α : Type} (l : List α) (d : α) (k : Nat) (hk : k < l.length) : l.getD k d ∈ l := by
  rw [List.getD_eq_getElem?_getD, List.getElem?_eq_getElem hk]; exact List.getElem_mem hk
end Go.Proofs.YtgjddkeogboojaaGreatDoor
namespace Go.Proofs.YtgjddkeogboojaaGreatDoor
open Go Go.RowKit Go.Extern.Stop Go.Stop Go.Extern
/-- What the program's text lays in errors.errorType. -/
def Et (w : World) : Prop := w.cell? ⟨0, 0, none⟩ = some (.iface 172 (.agg #[.pointer (some ⟨11, 64, none⟩)]))
theorem rlm (z : Sem Value) (f : TypeId → Addr → Nat → Nat → Sem Value) (v : Value) :
    ReflectliteValue.method z f #[v] = (do match ← ReflectliteValue.parts v with | none => z | some (t, a, fl) => f t a fl (fl % 32)) := rfl
theorem valueOfP (t : Addr) (w : World) : (ReflectliteValue.unpack (.iface 233 (.pointer (some t)))).run Tryz.prog w
    = .ok (.agg #[.pointer (some ⟨11, 233, none⟩), .pointer (some ⟨w.heap.size, 0, none⟩), .int .u64 150]) (w.alloc (.cells #[.pointer (some t)] 233)) := by kernel_rfl
theorem typeP (a : Addr) (w : World) : (ReflectliteValue.methodAny (ReflectliteValue.valueError "reflectlite.Value.Type" 0) (fun t _ _ _ => ReflectliteType.toType t) #[.agg #[.pointer (some ⟨11, 233, none⟩), .pointer (some a), .int .u64 150]]).run Tryz.prog w
    = .ok (.iface 172 (.agg #[.pointer (some ⟨11, 233, none⟩)])) w := by kernel_rfl
theorem kindP (w : World) : ((ReflectliteType.abiMethod fun t => (fun a : Nat => Value.int IntKind.u8 (a : Int)) <$> Rtype.kind t) #[.pointer (some ⟨11, 233, none⟩)]).run Tryz.prog w = .ok (.int .u8 22) w := by kernel_rfl
theorem kindE (w : World) : ((ReflectliteType.abiMethod fun t => (fun a : Nat => Value.int IntKind.u8 (a : Int)) <$> Rtype.kind t) #[.pointer (some ⟨11, 232, none⟩)]).run Tryz.prog w = .ok (.int .u8 22) w := by kernel_rfl
theorem partsP (a : Addr) (w : World) : (ReflectliteValue.parts (.agg #[.pointer (some ⟨11, 233, none⟩), .pointer (some a), .int .u64 150])).run Tryz.prog w = .ok (some (233, a, 150)) w := by kernel_rfl
theorem isNilP (a p : Addr) (W : World) (ha : W.cell? a = some (.pointer (some p))) :
    (ReflectliteValue.method (ReflectliteValue.valueError "reflectlite.Value.IsNil" 0) ReflectliteValue.isNil #[.agg #[.pointer (some ⟨11, 233, none⟩), .pointer (some a), .int .u64 150]]).run Tryz.prog W = .ok (.bool false) W := by
  rw [rlm]
  simp only [Sem.run_bind, partsP, Result.andThen]
  simp [ReflectliteValue.isNil, loadVar, isAgg, underlying, Tryz.underlying233, ha, Result.andThen]
theorem elemP (w : World) : (ReflectliteType.method ReflectliteType.elem #[.agg #[.pointer (some ⟨11, 233, none⟩)]]).run Tryz.prog w = .ok (.iface 172 (.agg #[.pointer (some ⟨11, 232, none⟩)])) w := by kernel_rfl
theorem implementsE (w : World) : (ReflectliteType.relation "Implements" ReflectliteType.implements_ #[.agg #[.pointer (some ⟨11, 232, none⟩)], .iface 172 (.agg #[.pointer (some ⟨11, 64, none⟩)])]).run Tryz.prog w = .ok (.bool true) w := by kernel_rfl
theorem typeOfF (v : Value) (w : World) : (ReflectliteType.typeOf #[.iface 232 v]).run Tryz.prog w = .ok (.iface 172 (.agg #[.pointer (some ⟨11, 232, none⟩)])) w := by kernel_rfl
theorem assignF (w : World) : (ReflectliteType.relation "AssignableTo" ReflectliteType.assignableTo #[.agg #[.pointer (some ⟨11, 232, none⟩)], .iface 172 (.agg #[.pointer (some ⟨11, 232, none⟩)])]).run Tryz.prog w = .ok (.bool true) w := by kernel_rfl
theorem valueOfE (p : Option Addr) (w : World) : (ReflectliteValue.unpack (.iface 232 (.pointer p))).run Tryz.prog w
    = .ok (.agg #[.pointer (some ⟨11, 232, none⟩), .pointer (some ⟨w.heap.size, 0, none⟩), .int .u64 150]) (w.alloc (.cells #[.pointer p] 232)) := by kernel_rfl
theorem elemOfP (w : World) : (Rtype.elem? 233).run Tryz.prog w = .ok (some 232) w := by kernel_rfl
theorem mkE (p : Addr) (w : World) : (ReflectliteValue.mk 232 p ReflectliteValue.flagAddr).run Tryz.prog w = .ok (.agg #[.pointer (some ⟨11, 232, none⟩), .pointer (some p), .int .u64 406]) w := by kernel_rfl
theorem elemVP (a p : Addr) (W : World) (ha : W.cell? a = some (.pointer (some p))) :
    (ReflectliteValue.method (ReflectliteValue.valueError "reflectlite.Value.Elem" 0) ReflectliteValue.elem #[.agg #[.pointer (some ⟨11, 233, none⟩), .pointer (some a), .int .u64 150]]).run Tryz.prog W
      = .ok (.agg #[.pointer (some ⟨11, 232, none⟩), .pointer (some p), .int .u64 406]) W := by
  rw [rlm]
  simp only [Sem.run_bind, partsP, Result.andThen]
  simp [ReflectliteValue.elem, loadVar, isAgg, underlying, Tryz.underlying233, ha, Result.andThen, elemOfP, mkE]
theorem rls (v x : Value) : ReflectliteValue.set #[v, x] = (do
    let (some (dst, a, fl), some (src, b, _)) := (← ReflectliteValue.parts v, ← ReflectliteValue.parts x)
      | unsupported (.noEntry "extern/(internal/reflectlite.Value).Set.zeroValue")
    if fl / ReflectliteValue.flagAddr % 2 == 0 then unsupported (.noEntry "extern/(internal/reflectlite.Value).Set.unaddressable")
    let val ← loadVar src b
    if ← Rtype.directlyAssignable dst src then storeVar dst a val
    else if ← Rtype.implements dst src then
      if (← Rtype.kind src) == 20 then
        match val with
        | .nilIface => unsupported (.noEntry "extern/reflectlite: a nil value of one interface type handed on as a value of another")
        | _ => storeVar dst a val
      else storeVar dst a (.iface src val)
    else panicString ("reflectlite.Set: value of type " ++ (← Rtype.spelt src) ++ " is not assignable to type " ++ (← Rtype.spelt dst))
    pure (.tuple #[])) := rfl
theorem partsEa (a : Addr) (w : World) : (ReflectliteValue.parts (.agg #[.pointer (some ⟨11, 232, none⟩), .pointer (some a), .int .u64 406])).run Tryz.prog w = .ok (some (232, a, 406)) w := by kernel_rfl
theorem partsE (a : Addr) (w : World) : (ReflectliteValue.parts (.agg #[.pointer (some ⟨11, 232, none⟩), .pointer (some a), .int .u64 150])).run Tryz.prog w = .ok (some (232, a, 150)) w := by kernel_rfl
theorem directE (w : World) : (Rtype.directlyAssignable 232 232).run Tryz.prog w = .ok true w := by kernel_rfl
theorem setE (ta b : Addr) (p : Option Addr) (old : Value) (W : World) (hb : W.cell? b = some (.pointer p)) (ht : W.cell? ta = some old) (hf : W.frozen? ta = false) :
    (ReflectliteValue.set #[.agg #[.pointer (some ⟨11, 232, none⟩), .pointer (some ta), .int .u64 406], .agg #[.pointer (some ⟨11, 232, none⟩), .pointer (some b), .int .u64 150]]).run Tryz.prog W
      = .ok (.tuple #[]) (W.setCell ta (.pointer p)) := by
  rw [rls]
  simp only [Sem.run_bind, partsEa, partsE, Result.andThen]
  simp [ReflectliteValue.flagAddr, loadVar, isAgg, underlying, Tryz.underlying232, hb, Result.andThen, directE, storeVar, Value.cells, storeCells, Addr.add]
  rw [run_store Tryz.prog W ta _ _ (by rfl)]
  simp [ht, hf]
theorem as_nil (t : Value) (w : World) : Calls Tryz.prog 51 #[.nilIface, t] w fun e w' => e = .returned (.bool false) ∧ w' = w := by
  go_enter Tryz.func51, Tryz.ntmps51
  go_wp2
  go_ret
  exact ⟨rfl, rfl⟩
theorem mAssign (h : Value) (w : World) : (Go.method 464 172 (.agg #[h]) "AssignableTo").run Tryz.prog w = .ok (275, .agg #[h]) w := by kernel_rfl
theorem mKind (h : Value) (w : World) : (Go.method 464 172 (.agg #[h]) "Kind").run Tryz.prog w = .ok (265, h) w := by kernel_rfl
theorem mElem (h : Value) (w : World) : (Go.method 464 172 (.agg #[h]) "Elem").run Tryz.prog w = .ok (277, .agg #[h]) w := by kernel_rfl
theorem mImplements (h : Value) (w : World) : (Go.method 464 172 (.agg #[h]) "Implements").run Tryz.prog w = .ok (278, .agg #[h]) w := by kernel_rfl
theorem grown_setCell (w : World) (t : Addr) (u : Value) : w.grownBy (w.setCell t u) (some t.block) :=
  ⟨rfl, rfl, rfl, by simp [World.setCell], fun k _ hk => Below.heap_setCell _ _ _ _ (fun e => hk (by rw [e]))⟩
theorem below_new (w : World) (o : Obj) : Below w.heap.size w (w.alloc o) := (Below.refl _ w).alloc (Nat.le_refl _) o
theorem below_grown_new {w w' : World} {o : Obj} (hg : (w.alloc o).grownBy w' (some w.heap.size)) : Below w.heap.size w w' :=
  (below_new w o).grown hg (by simp) (fun k hk => by cases hk; exact Nat.le_refl _)
/-- What errors.as at a fault comes to. -/
def AsPost (t : Addr) (p : Option Addr) (w : World) (e : Ending) (w' : World) : Prop := e = .returned (.bool true) ∧ w.grownBy w' (some t.block) ∧ w'.cell? t = some (.pointer p)
set_option maxHeartbeats 4000000 in
set_option maxRecDepth 100000 in
theorem as_fault (p : Option Addr) (t v : Addr) (old : Value) (w : World)
    (hv : w.cell? v = some (.pointer (some t))) (ht : w.cell? t = some old) (hf : w.frozen? t = false) :
    Calls Tryz.prog 70 #[.iface 232 (.pointer p), .iface 233 (.pointer (some t)), .agg #[.pointer (some ⟨11, 233, none⟩), .pointer (some v), .int .u64 150], .iface 172 (.agg #[.pointer (some ⟨11, 232, none⟩)])] w (AsPost t p w) := by
  have hTO := @run_callFunc_extern Tryz.prog 91 _ ReflectliteType.typeOf Tryz.func91 (by kernel_rfl) (by kernel_rfl) (by kernel_rfl) (by kernel_rfl)
  have hVO := @run_callFunc_extern Tryz.prog 67 _ (fun args => ReflectliteValue.unpack (args.getD 0 (.tuple #[]))) Tryz.func67 (by kernel_rfl) (by kernel_rfl) (by kernel_rfl) (by kernel_rfl)
  have hAT := @run_callFunc_extern Tryz.prog 275 _ (ReflectliteType.relation "AssignableTo" ReflectliteType.assignableTo) Tryz.func275 (by kernel_rfl) (by kernel_rfl) (by kernel_rfl) (by kernel_rfl)
  have hEl := @run_callFunc_extern Tryz.prog 92 _ (ReflectliteValue.method (ReflectliteValue.valueError "reflectlite.Value.Elem" 0) ReflectliteValue.elem) Tryz.func92 (by kernel_rfl) (by kernel_rfl) (by kernel_rfl) (by kernel_rfl)
  have hSe := @run_callFunc_extern Tryz.prog 93 _ ReflectliteValue.set Tryz.func93 (by kernel_rfl) (by kernel_rfl) (by kernel_rfl) (by kernel_rfl)
  have q1 := typeOfF; have q4 := assignF; have q5 := valueOfE; have q6 := mAssign
  have hvl := World.block_lt_of_cell? w v hv
  have htl := World.block_lt_of_cell? w t ht
  have el := elemVP v t (w.alloc (.cells #[.pointer (some ⟨11, 233, none⟩), .pointer (some v), .int .u64 150] 136)) (by rw [World.cell?_alloc_lt _ _ v hvl]; exact hv)
  have st := setE t ⟨w.heap.size + 1, 0, none⟩ p old ((w.alloc (.cells #[.pointer (some ⟨11, 233, none⟩), .pointer (some v), .int .u64 150] 136)).alloc (.cells #[.pointer p] 232))
    (by rw [World.cell?_alloc_at _ _ _ _ (by simp)]; rfl)
    (by rw [World.cell?_alloc_lt _ _ t (by simp; omega), World.cell?_alloc_lt _ _ t htl]; exact ht)
    (by rw [World.frozen?_alloc_old _ _ t (by simp; omega), World.frozen?_alloc_old _ _ t (Nat.ne_of_lt htl)]; exact hf)
  go_enter Tryz.func70, Tryz.ntmps70
  go_wp2
  refine wp_loop_rounds 1 ?_
  rw [rounds_succ]
  go_wp2_with fail
  go_ret
  refine ⟨rfl, grown_trans (grown_trans (World.grownBy_alloc _ _ _) (World.grownBy_alloc _ _ _)) (grown_setCell _ _ _), World.cell?_setCell_same _ _ _ (u := old) ?_⟩
  rw [World.cell?_alloc_lt _ _ t (by simp; omega), World.cell?_alloc_lt _ _ t htl, ht]
set_option maxHeartbeats 4000000 in
set_option maxRecDepth 100000 in
theorem errAs_fault (p : Option Addr) (t : Addr) (old : Value) (w : World) (het : Et w) (ht : w.cell? t = some old) (hf : w.frozen? t = false) :
    Calls Tryz.prog 51 #[.iface 232 (.pointer p), .iface 233 (.pointer (some t))] w (AsPost t p w) := by
  have hVO := @run_callFunc_extern Tryz.prog 67 _ (fun args => ReflectliteValue.unpack (args.getD 0 (.tuple #[]))) Tryz.func67 (by kernel_rfl) (by kernel_rfl) (by kernel_rfl) (by kernel_rfl)
  have hVT := @run_callFunc_extern Tryz.prog 68 _ (ReflectliteValue.methodAny (ReflectliteValue.valueError "reflectlite.Value.Type" 0) (fun t _ _ _ => ReflectliteType.toType t)) Tryz.func68 (by kernel_rfl) (by kernel_rfl) (by kernel_rfl) (by kernel_rfl)
  have hIN := @run_callFunc_extern Tryz.prog 69 _ (ReflectliteValue.method (ReflectliteValue.valueError "reflectlite.Value.IsNil" 0) ReflectliteValue.isNil) Tryz.func69 (by kernel_rfl) (by kernel_rfl) (by kernel_rfl) (by kernel_rfl)
  have hKi := @run_callFunc_extern Tryz.prog 265 _ (ReflectliteType.abiMethod fun t => do pure (.int .u8 (← Rtype.kind t))) Tryz.func265 (by kernel_rfl) (by kernel_rfl) (by kernel_rfl) (by kernel_rfl)
  have hTE := @run_callFunc_extern Tryz.prog 277 _ (ReflectliteType.method ReflectliteType.elem) Tryz.func277 (by kernel_rfl) (by kernel_rfl) (by kernel_rfl) (by kernel_rfl)
  have hTI := @run_callFunc_extern Tryz.prog 278 _ (ReflectliteType.relation "Implements" ReflectliteType.implements_) Tryz.func278 (by kernel_rfl) (by kernel_rfl) (by kernel_rfl) (by kernel_rfl)
  have htl := World.block_lt_of_cell? w t ht
  have hgl := World.block_lt_of_cell? w ⟨0, 0, none⟩ het
  have q1 := valueOfP; have q2 := typeP; have q3 := kindP; have q4 := kindE; have q5 := elemP; have q6 := implementsE; have q7 := mKind; have q8 := mElem; have q9 := mImplements
  have n8 := isNilP ⟨w.heap.size, 0, none⟩ t ((w.alloc (.cells #[.pointer (some t)] 233)).alloc (.cells #[.pointer (some ⟨11, 233, none⟩), .pointer (some ⟨w.heap.size, 0, none⟩), .int .u64 150] 136)) (by simp)
  have hg2 : ((w.alloc (.cells #[.pointer (some t)] 233)).alloc (.cells #[.pointer (some ⟨11, 233, none⟩), .pointer (some ⟨w.heap.size, 0, none⟩), .int .u64 150] 136)).cell? ⟨0, 0, none⟩ = some (.iface 172 (.agg #[.pointer (some ⟨11, 64, none⟩)])) := by
    rw [World.cell?_alloc_lt _ _ ⟨0, 0, none⟩ (by have h := hgl; simp at h ⊢ <;> omega), World.cell?_alloc_lt _ _ ⟨0, 0, none⟩ hgl]; exact het
  have hin := as_fault p t ⟨w.heap.size, 0, none⟩ old ((w.alloc (.cells #[.pointer (some t)] 233)).alloc (.cells #[.pointer (some ⟨11, 233, none⟩), .pointer (some ⟨w.heap.size, 0, none⟩), .int .u64 150] 136))
    (by simp)
    (by rw [World.cell?_alloc_lt _ _ t (by simp; omega), World.cell?_alloc_lt _ _ t htl]; exact ht)
    (by rw [World.frozen?_alloc_old _ _ t (by simp; omega), World.frozen?_alloc_old _ _ t (Nat.ne_of_lt htl)]; exact hf)
  have Hin := Lib.hid hin; clear hin het
  go_enter Tryz.func51, Tryz.ntmps51
  go_wp2_with fail
  refine Hin.out.mono ?_
  rintro e w' ⟨rfl, hg, hc⟩
  go_wp2
  go_ret
  exact ⟨rfl, grown_trans (grown_trans (World.grownBy_alloc _ _ _) (World.grownBy_alloc _ _ _)) hg, hc⟩
/-- An error that is a fault. -/
def FV (ev : Value) : Prop := ∃ p, ev = .iface 232 (.pointer (some p))
def RetBelow (v : Value) (w : World) (e : Ending) (w' : World) : Prop := e = .returned v ∧ Below w.heap.size w w'
theorem told_hin (p : Option Addr) (w : World) (het : Et w) : Calls Tryz.prog 51 #[.iface 232 (.pointer p), .iface 233 (.pointer (some ⟨w.heap.size, 0, none⟩))] (w.alloc (.cells #[.pointer none] 232)) (AsPost ⟨w.heap.size, 0, none⟩ p (w.alloc (.cells #[.pointer none] 232))) := by
  have hgl := World.block_lt_of_cell? w ⟨0, 0, none⟩ het
  refine errAs_fault p _ (.pointer none) _ ?_ (by simp) (by simp)
  unfold Et; rw [World.cell?_alloc_lt _ _ ⟨0, 0, none⟩ hgl]; exact het
set_option maxHeartbeats 1000000 in
theorem toldS_nil (s : Value) (w : World) : Calls Tryz.prog 128 #[s, .nilIface] w (RetBelow (.tuple #[s, .bool true]) w) := by
  have Hin := Lib.hid (fun t w => as_nil t w)
  go_enter Tryz.func128, Tryz.ntmps128
  go_wp2_with fail
  refine (Hin.out _ _).mono ?_
  rintro e w' ⟨rfl, rfl⟩
  go_wp2
  go_ret2
  exact ⟨rfl, below_new w _⟩
set_option maxHeartbeats 1000000 in
theorem toldS_fault (s ev : Value) (w : World) (h : FV ev) (het : Et w) : Calls Tryz.prog 128 #[s, ev] w (RetBelow (.tuple #[.string ⟨#[]⟩, .bool false]) w) := by
  obtain ⟨p, rfl⟩ := h
  have Hin := Lib.hid (told_hin (some p) w het); clear het
  go_enter Tryz.func128, Tryz.ntmps128
  go_wp2_with fail
  refine Hin.out.mono ?_
  rintro e w' ⟨rfl, hg, hc⟩
  go_wp2
  go_ret2
  exact ⟨rfl, below_grown_new hg⟩
set_option maxHeartbeats 1000000 in
theorem toldW_nil (s : Value) (w : World) : Calls Tryz.prog 126 #[s, .nilIface] w (RetBelow (.tuple #[s, .bool true]) w) := by
  have Hin := Lib.hid (fun t w => as_nil t w)
  go_enter Tryz.func126, Tryz.ntmps126
  go_wp2_with fail
  refine (Hin.out _ _).mono ?_
  rintro e w' ⟨rfl, rfl⟩
  go_wp2
  go_ret2
  exact ⟨rfl, below_new w _⟩
set_option maxHeartbeats 1000000 in
theorem toldW_fault (s ev : Value) (w : World) (h : FV ev) (het : Et w) : Calls Tryz.prog 126 #[s, ev] w (RetBelow (.tuple #[.slice none 0 0, .bool false]) w) := by
  obtain ⟨p, rfl⟩ := h
  have Hin := Lib.hid (told_hin (some p) w het); clear het
  go_enter Tryz.func126, Tryz.ntmps126
  go_wp2_with fail
  refine Hin.out.mono ?_
  rintro e w' ⟨rfl, hg, hc⟩
  go_wp2
  go_ret2
  exact ⟨rfl, below_grown_new hg⟩
theorem need_yes (s ev : Value) (w : World) : Calls Tryz.prog 140 #[.bool true, s, ev] w fun e w' => e = .returned .nilIface ∧ w = w' := by
  go_enter Tryz.func140, Tryz.ntmps140
  go_wp2
  go_ret
  exact ⟨rfl, rfl⟩
theorem need_no (s : ByteArray) (te : TypeId) (pe : Value) (w : World) : Calls Tryz.prog 140 #[.bool false, .string s, .iface te pe] w fun e w' => e = .returned (.iface 232 (.pointer (some ⟨w.heap.size, 0, none⟩))) ∧ w.alloc (.cells #[.string s, .iface te pe] 236) = w' := by
  go_enter Tryz.func140, Tryz.ntmps140
  go_wp2
  go_ret
  exact ⟨rfl, rfl⟩
theorem within_nil (s : Value) (w : World) : Calls Tryz.prog 141 #[s, .nilIface] w fun e w' => e = .returned .nilIface ∧ w = w' := by
  go_enter Tryz.func141, Tryz.ntmps141
  go_wp2
  go_ret
  exact ⟨rfl, rfl⟩
theorem within_some (s : ByteArray) (ev : Value) (h : FV ev) (w : World) : Calls Tryz.prog 141 #[.string s, ev] w fun e w' => e = .returned (.iface 232 (.pointer (some ⟨w.heap.size, 0, none⟩))) ∧ w.alloc (.cells #[.string s, ev] 236) = w' := by
  obtain ⟨p, rfl⟩ := h
  go_enter Tryz.func141, Tryz.ntmps141
  go_wp2
  go_ret
  exact ⟨rfl, rfl⟩
end Go.Proofs.YtgjddkeogboojaaGreatDoor
