/-
  The plain side of layer 4: trees, commits and tags as lists of bytes, there and back. Strings, slices of texts, of items, of wants, as they lie in memory. Errors inside object: need, within; errors.As at a fault: told.
-/
import GoSem.ClaimWide
import Derived.Test.YtgjddkeogboojaaGreatDoorY01
import Derived.Lib.Hide
import Derived.Laws.AppendOwnNone
import Derived.Deep.RegionHeld3
import Derived.Lib.IndexLaws
import Derived.Test.YtgjddkeogboojaaGreatDoorY02
import Derived.LaidEql
import Derived.LaidEqlPtr
import Derived.Stop.Asserts
import Derived.RowKitTokens
set_option maxHeartbeats 16000000
set_option maxRecDepth 100000
namespace Go.Proofs.YtgjddkeogboojaaGreatDoor
open Go
def z4s (c : UInt8) : Bool := decide (33 ≤ c.toNat) && decide (c.toNat ≤ 126) && !(c == 47)
def z2a (s : zB) : Bool := s.all z4s && (decide (1 ≤ s.length) && decide (s.length ≤ 70)) && !(s == [46]) && !(s == [46, 46])
def whoC (c : UInt8) : Bool := decide (32 ≤ c.toNat) && decide (c.toNat ≤ 126)
def whoB (s : zB) : Bool := s.all whoC && decide (s.length ≤ 100)
def z1u (c : UInt8) : zB → Option (zB × zB)
 | [] => none
 | x :: s => if x = c then some ([], s) else (z1u c s).map fun p => (x :: p.1, p.2)
theorem z2f {c : UInt8} : ∀ {s a r : zB}, z1u c s = some (a, r) → s = a ++ c :: r ∧ c ∉ a
 | [], _, _, h => by cases h
 | x :: s, a, r, h => by
   rw [z1u] at h;by_cases hx : x = c
   · rw [if_pos hx] at h;simp only [Option.some.injEq, Prod.mk.injEq] at h;obtain ⟨rfl, rfl⟩ := h;exact ⟨by rw [hx]; rfl, by simp⟩
   · rw [if_neg hx] at h;obtain ⟨⟨a', r'⟩, h1, h2⟩ := Option.map_eq_some_iff.1 h;simp only [Prod.mk.injEq] at h2;obtain ⟨rfl, rfl⟩ := h2;obtain ⟨e1, e2⟩ := z2f h1;exact ⟨by rw [e1]; rfl, by simp only [List.mem_cons, not_or]; exact ⟨fun e => hx e.symm, e2⟩⟩
theorem z5g {c : UInt8} : ∀ {a r : zB}, c ∉ a → z1u c (a ++ c :: r) = some (a, r)
 | [], r, _ => by rw [List.nil_append, z1u, if_pos rfl]
 | x :: a, r, h => by
   simp only [List.mem_cons, not_or] at h;rw [List.cons_append, z1u, if_neg (fun e => h.1 e.symm), z5g h.2]; rfl
theorem zal {c : UInt8} : ∀ {s : zB}, z1u c s = none ↔ c ∉ s
 | [] => by simp [z1u]
 | x :: s => by
   rw [z1u];by_cases hx : x = c
   · rw [if_pos hx]; simp [hx]
   · rw [if_neg hx, Option.map_eq_none_iff, zal]; simp [Ne.symm hx]
def z0e (pre s : zB) : Option (zB × zB) := if pre.isPrefixOf s then z1u 10 (s.drop pre.length) else none
theorem z61 {pre s : zB} : pre.isPrefixOf s = true ↔ ∃ r, s = pre ++ r := by
 rw [List.isPrefixOf_iff_prefix];exact ⟨fun ⟨r, h⟩ => ⟨r, h.symm⟩, fun ⟨r, h⟩ => ⟨r, h.symm⟩⟩
theorem z0y {pre s a r : zB} (h : z0e pre s = some (a, r)) : s = pre ++ (a ++ 10 :: r) ∧ 10 ∉ a := by
 unfold z0e at h;by_cases hp : pre.isPrefixOf s = true
 · rw [if_pos hp] at h;obtain ⟨q, rfl⟩ := z61.1 hp;rw [List.drop_left] at h;obtain ⟨e, e2⟩ := z2f h;exact ⟨by rw [e], e2⟩
 · rw [if_neg hp] at h; cases h
theorem z38 {pre a r : zB} (h : 10 ∉ a) : z0e pre (pre ++ (a ++ 10 :: r)) = some (a, r) := by
 unfold z0e;rw [if_pos (z61.2 ⟨_, rfl⟩), List.drop_left, z5g h]
def z1f (pre : zB) : Nat → zB → Option (List (zB) × zB)
 | 0, s => some ([], s)
 | n + 1, s => if pre.isPrefixOf s then (match z1u 10 (s.drop pre.length) with | none => none | some (a, r) => (z1f pre n r).map fun p => (a :: p.1, p.2)) else some ([], s)
theorem z62 {pre : zB} : ∀ {n : Nat} {s : zB} {l : List (zB)} {r : zB}, z1f pre n s = some (l, r) → s = (l.flatMap fun a => pre ++ (a ++ [10])) ++ r
 | 0, s, l, r, h => by
   simp only [z1f, Option.some.injEq, Prod.mk.injEq] at h;obtain ⟨rfl, rfl⟩ := h; rfl
 | n + 1, s, l, r, h => by
   rw [z1f] at h;by_cases hp : pre.isPrefixOf s = true
   · rw [if_pos hp] at h;obtain ⟨q, rfl⟩ := z61.1 hp;rw [List.drop_left] at h;cases hc : z1u 10 q with
     | none => rw [hc] at h; cases h
     | some p =>
       obtain ⟨a, q'⟩ := p;rw [hc] at h;obtain ⟨⟨l', r'⟩, h1, h2⟩ := Option.map_eq_some_iff.1 h;simp only [Prod.mk.injEq] at h2;obtain ⟨rfl, rfl⟩ := h2;obtain ⟨e1, _⟩ := z2f hc;have e2 := z62 h1;rw [e1, e2];simp [List.flatMap_cons, List.append_assoc]
   · rw [if_neg hp] at h;simp only [Option.some.injEq, Prod.mk.injEq] at h;obtain ⟨rfl, rfl⟩ := h; rfl
theorem zci {pre : zB} : ∀ {n : Nat} {l : List (zB)} {r : zB}, l.length ≤ n → (∀ a ∈ l, 10 ∉ a) → pre.isPrefixOf r = false → z1f pre n ((l.flatMap fun a => pre ++ (a ++ [10])) ++ r) = some (l, r)
 | 0, [], r, _, _, _ => rfl
 | 0, _ :: _, _, h, _, _ => by simp at h
 | n + 1, [], r, _, _, h => by
   rw [z1f, List.flatMap_nil, List.nil_append, h]; rfl
 | n + 1, a :: l, r, hl, ha, h => by
   have e : ((a :: l).flatMap fun a => pre ++ (a ++ [10])) ++ r = pre ++ (a ++ 10 :: ((l.flatMap fun a => pre ++ (a ++ [10])) ++ r)) := by simp [List.flatMap_cons, List.append_assoc]
   rw [e, z1f, if_pos (z61.2 ⟨_, rfl⟩), List.drop_left, z5g (ha a (by simp))];show (z1f pre n _).map _ = _;rw [zci (by simpa using hl) (fun b hb => ha b (by simp [hb])) h]; rfl
structure Itm where
 mode : Int
 name : zB
 id : zB
deriving DecidableEq
def z1c : Itm := ⟨0, [], []⟩
def z39 (x : Itm) : Bool := decide (1 ≤ x.mode) && decide (x.mode ≤ 3) && z2a x.name && z0c x.id
def keyL (x : Itm) : zB := if x.mode = 3 then x.name ++ [47] else x.name
def z4y (l : List Itm) (i : Nat) : Bool := z39 (l.getD i z1c) && (i == 0 || bytesBefore (keyL (l.getD (i - 1) z1c)) (keyL (l.getD i z1c)))
def z0k (l : List Itm) : Bool := decide (l.length ≤ 256) && (List.range l.length).all (z4y l) && decide ((l.map Itm.name).Nodup)
def putI (x : Itm) : zB := UInt8.ofNat (48 + x.mode.toNat) :: 32 :: (x.name ++ 0 :: x.id)
def putT (l : List Itm) : zB := l.flatMap putI
def getI : zB → Option (Itm × zB)
 | m :: b :: s => if b = 32 then (match z1u 0 s with | some (a, r) => if 64 ≤ r.length then some (⟨(m.toNat : Int) - 48, a, r.take 64⟩, r.drop 64) else none | none => none) else none
 | _ => none
def z48 : Nat → zB → Option (List Itm × zB)
 | 0, s => some ([], s)
 | _ + 1, [] => some ([], [])
 | f + 1, c :: s => match getI (c :: s) with | none => none | some (x, r) => (z48 f r).map fun p => (x :: p.1, p.2)
def getT (s : zB) : Option (List Itm) := match z48 257 s with | none => none | some (l, _) => if z0k l then some l else none
theorem z17 {s : zB} (h : z0c s = true) : s.length = 64 := by
 unfold z0c at h;simp only [Bool.and_eq_true, beq_iff_eq] at h;exact h.1
theorem z4z {s : zB} (h : z0c s = true) {c : UInt8} (hc : isD c = false) : c ∉ s := by
 unfold z0c at h;simp only [Bool.and_eq_true, List.all_eq_true] at h;intro hm;have := h.2 c hm;rw [hc] at this; cases this
theorem zev {s : zB} (h : z2a s = true) {c : UInt8} (hc : z4s c = false) : c ∉ s := by
 unfold z2a at h;simp only [Bool.and_eq_true, List.all_eq_true] at h;intro hm;have := h.1.1.1 c hm;rw [hc] at this; cases this
theorem z2g {x : Itm} (h : z39 x = true) : 1 ≤ x.mode ∧ x.mode ≤ 3 ∧ z2a x.name = true ∧ z0c x.id = true := by
 unfold z39 at h;simp only [Bool.and_eq_true, decide_eq_true_eq] at h;exact ⟨h.1.1.1, h.1.1.2, h.1.2, h.2⟩
theorem getI_put {x : Itm} (h : z39 x = true) (r : zB) : getI (putI x ++ r) = some (x, r) := by
 obtain ⟨h1, h2, h3, h4⟩ := z2g h;unfold putI;rw [List.cons_append, List.cons_append, List.append_assoc, List.cons_append, getI, if_pos rfl, z5g (zev h3 (by decide))];have hl := z17 h4;show (if 64 ≤ (x.id ++ r).length then _ else _) = _;rw [if_pos (by rw [List.length_append]; omega), ← hl, List.take_left, List.drop_left, UInt8.toNat_ofNat'];have e : (((48 + x.mode.toNat) % 2 ^ 8 : Nat) : Int) - 48 = x.mode := by omega
 rw [e]
theorem zkc {s r : zB} {x : Itm} (h : getI s = some (x, r)) (hx : z39 x = true) : s = putI x ++ r := by
 match s, h with
 | m :: b :: s, h =>
   rw [getI] at h;by_cases hb : b = 32
   · rw [if_pos hb] at h;cases hc : z1u 0 s with
     | none => rw [hc] at h; cases h
     | some p =>
       obtain ⟨a, q⟩ := p;rw [hc] at h;simp only at h;by_cases hq : 64 ≤ q.length
       · rw [if_pos hq] at h;simp only [Option.some.injEq, Prod.mk.injEq] at h;obtain ⟨rfl, rfl⟩ := h;obtain ⟨e, _⟩ := z2f hc;obtain ⟨h1, h2, _, _⟩ := z2g hx;simp only at h1 h2;unfold putI;have hm : UInt8.ofNat (48 + ((m.toNat : Int) - 48).toNat) = m := UInt8.toNat_inj.1 (by rw [UInt8.toNat_ofNat']; have := m.toNat_lt; omega);rw [hm, hb, e];simp
       · rw [if_neg hq] at h; cases h
   · rw [if_neg hb] at h; cases h
 | [], h => cases h
 | [_], h => cases h
theorem putI_ne (x : Itm) (r : zB) : ∃ c s, putI x ++ r = c :: s := ⟨_, _, rfl⟩
theorem zcj : ∀ {f : Nat} {l : List Itm}, l.length < f → (∀ x ∈ l, z39 x = true) → z48 f (putT l) = some (l, [])
 | 0, _, h, _ => by omega
 | f + 1, [], _, _ => rfl
 | f + 1, x :: l, h, hx => by
   have e : putT (x :: l) = putI x ++ putT l := rfl;obtain ⟨c, s, hc⟩ := putI_ne x (putT l);rw [e, hc, z48, ← hc, getI_put (hx x (by simp))];show (z48 f (putT l)).map _ = _;rw [zcj (by simpa using h) (fun y hy => hx y (by simp [hy]))]; rfl
theorem zam : ∀ {f : Nat} {s r : zB} {l : List Itm}, z48 f s = some (l, r) → (∀ x ∈ l, z39 x = true) → s = putT l ++ r ∧ l.length ≤ f ∧ (l.length < f → r = [])
 | 0, s, r, l, h, _ => by
   simp only [z48, Option.some.injEq, Prod.mk.injEq] at h;obtain ⟨rfl, rfl⟩ := h;exact ⟨rfl, Nat.le_refl _, fun h => by simp at h⟩
 | f + 1, [], r, l, h, _ => by
   simp only [z48, Option.some.injEq, Prod.mk.injEq] at h;obtain ⟨rfl, rfl⟩ := h;exact ⟨rfl, Nat.zero_le _, fun _ => rfl⟩
 | f + 1, c :: s, r, l, h, hx => by
   rw [z48] at h;cases hg : getI (c :: s) with
   | none => rw [hg] at h; cases h
   | some p =>
     obtain ⟨x, q⟩ := p;rw [hg] at h;obtain ⟨⟨l', r'⟩, h1, h2⟩ := Option.map_eq_some_iff.1 h;simp only [Prod.mk.injEq] at h2;obtain ⟨rfl, rfl⟩ := h2;obtain ⟨e1, e2, e3⟩ := zam h1 (fun y hy => hx y (by simp [hy]));refine ⟨?_, by simpa using e2, fun hl => e3 (by simpa using hl)⟩;rw [zkc hg (hx x (by simp)), e1];simp [putT, List.append_assoc]
theorem z0w {l : List Itm} : z0k l = true ↔ l.length ≤ 256 ∧ (∀ i, i < l.length → z4y l i = true) ∧ (l.map Itm.name).Nodup := by
 unfold z0k;simp only [Bool.and_eq_true, decide_eq_true_eq, List.all_eq_true, List.mem_range];exact ⟨fun h => ⟨h.1.1, h.1.2, h.2⟩, fun h => ⟨⟨h.1, h.2.1⟩, h.2.2⟩⟩
theorem z2p {l : List Itm} (h : z0k l = true) : ∀ x ∈ l, z39 x = true := by
 obtain ⟨_, h2, _⟩ := z0w.1 h;intro x hx;obtain ⟨i, hi, rfl⟩ := List.mem_iff_getElem.1 hx;have := h2 i hi;unfold z4y at this;simp only [Bool.and_eq_true] at this;have h3 := this.1
 rwa [zg, zj hi] at h3
theorem zbj {s : zB} {l : List Itm} : getT s = some l ↔ z0k l = true ∧ putT l = s := by
 unfold getT;constructor
 · intro h;cases hg : z48 257 s with
   | none => rw [hg] at h; cases h
   | some p =>
     obtain ⟨l', r⟩ := p;rw [hg] at h;simp only at h;by_cases hr : z0k l' = true
     · rw [if_pos hr] at h;cases h;obtain ⟨e1, _, e3⟩ := zam hg (z2p hr);have hl := (z0w.1 hr).1;rw [e3 (by omega), List.append_nil] at e1;exact ⟨hr, e1.symm⟩
     · rw [if_neg hr] at h; cases h
 · rintro ⟨hr, rfl⟩;rw [zcj (by have := (z0w.1 hr).1; omega) (z2p hr)];show (if z0k l = true then _ else _) = _;rw [if_pos hr]
structure Chg where
 tree : zB
 parents : List (zB)
 who : zB
 text : zB
deriving DecidableEq
def wTree : zB := [116, 114, 101, 101, 32]
def wParent : zB := [112, 97, 114, 101, 110, 116, 32]
def wWho : zB := [119, 104, 111, 32]
def z18 (c : Chg) : Bool := z0c c.tree && (decide (c.parents.length ≤ 8) && c.parents.all z0c && decide c.parents.Nodup) && whoB c.who
def parL (l : List (zB)) : zB := l.flatMap fun a => wParent ++ (a ++ [10])
def putC (c : Chg) : zB := wTree ++ (c.tree ++ 10 :: (parL c.parents ++ (wWho ++ (c.who ++ 10 :: (10 :: c.text)))))
def z79 : zB → Option (zB)
 | c :: s => if c = 10 then some s else none
 | [] => none
def rawC (s : zB) : Option Chg :=
 match z0e wTree s with
 | none => none
 | some (t, r) => match z1f wParent 8 r with
   | none => none
   | some (ps, r) => match z0e wWho r with
     | none => none
     | some (w, r) => (z79 r).map fun x => ⟨t, ps, w, x⟩
def getC (s : zB) : Option Chg := match rawC s with | none => none | some c => if z18 c then some c else none
theorem z7a {s x : zB} (h : z79 s = some x) : s = 10 :: x := by
 match s, h with
 | c :: s, h =>
   rw [z79] at h;by_cases hc : c = 10
   · rw [if_pos hc] at h; cases h; rw [hc]
   · rw [if_neg hc] at h; cases h
 | [], h => cases h
theorem zck {s : zB} {c : Chg} (h : rawC s = some c) : s = putC c := by
 unfold rawC at h;cases h1 : z0e wTree s with
 | none => rw [h1] at h; cases h
 | some p =>
   obtain ⟨t, r1⟩ := p;rw [h1] at h; simp only at h;cases h2 : z1f wParent 8 r1 with
   | none => rw [h2] at h; cases h
   | some p =>
     obtain ⟨ps, r2⟩ := p;rw [h2] at h; simp only at h;cases h3 : z0e wWho r2 with
     | none => rw [h3] at h; cases h
     | some p =>
       obtain ⟨w, r3⟩ := p;rw [h3] at h; simp only at h;obtain ⟨x, h4, rfl⟩ := Option.map_eq_some_iff.1 h;have e1 := (z0y h1).1;have e2 := z62 h2;have e3 := (z0y h3).1;have e4 := z7a h4;rw [e1, e2, e3, e4]; rfl
theorem who_no {s : zB} (h : whoB s = true) {c : UInt8} (hc : whoC c = false) : c ∉ s := by
 unfold whoB at h;simp only [Bool.and_eq_true, List.all_eq_true] at h;intro hm;have := h.1 c hm;rw [hc] at this; cases this
theorem z1k {c : Chg} : z18 c = true ↔ z0c c.tree = true ∧ c.parents.length ≤ 8 ∧ (∀ p ∈ c.parents, z0c p = true) ∧ c.parents.Nodup ∧ whoB c.who = true := by
 unfold z18;simp only [Bool.and_eq_true, decide_eq_true_eq, List.all_eq_true];exact ⟨fun h => ⟨h.1.1, h.1.2.1.1, h.1.2.1.2, h.1.2.2, h.2⟩, fun h => ⟨⟨h.1, ⟨h.2.1, h.2.2.1⟩, h.2.2.2.1⟩, h.2.2.2.2⟩⟩
theorem rawC_put {c : Chg} (h : z18 c = true) : rawC (putC c) = some c := by
 obtain ⟨h1, h2, h3, _, h5⟩ := z1k.1 h;unfold rawC putC;rw [z38 (z4z h1 (by decide))];simp only;unfold parL;rw [zci h2 (fun a ha => z4z (h3 a ha) (by decide)) (by rfl)];simp only;rw [z38 (who_no h5 (by decide))];rfl
theorem z8b {s : zB} {c : Chg} : getC s = some c ↔ z18 c = true ∧ putC c = s := by
 unfold getC;constructor
 · intro h;cases hg : rawC s with
   | none => rw [hg] at h; cases h
   | some c' =>
     rw [hg] at h; simp only at h;by_cases hr : z18 c' = true
     · rw [if_pos hr] at h; cases h;exact ⟨hr, (zck hg).symm⟩
     · rw [if_neg hr] at h; cases h
 · rintro ⟨hr, rfl⟩;rw [rawC_put hr];show (if z18 c = true then _ else _) = _;rw [if_pos hr]
structure Lbl where
 id : zB
 kind : Int
 name : zB
 text : zB
deriving DecidableEq
def kindW (k : Int) : zB := if k = 1 then [98, 108, 111, 98] else if k = 2 then [116, 114, 101, 101] else if k = 3 then [99, 111, 109, 109, 105, 116] else if k = 4 then [116, 97, 103] else []
def kindOfW (w : zB) : Int := if w = [98, 108, 111, 98] then 1 else if w = [116, 114, 101, 101] then 2 else if w = [99, 111, 109, 109, 105, 116] then 3 else if w = [116, 97, 103] then 4 else 0
def wObject : zB := [111, 98, 106, 101, 99, 116, 32]
def wKind : zB := [107, 105, 110, 100, 32]
def wName : zB := [110, 97, 109, 101, 32]
def rightL (l : Lbl) : Bool := z0c l.id && (decide (1 ≤ l.kind) && decide (l.kind ≤ 4)) && z2a l.name
def z6e (l : Lbl) : zB := wObject ++ (l.id ++ 10 :: (wKind ++ (kindW l.kind ++ 10 :: (wName ++ (l.name ++ 10 :: (10 :: l.text))))))
def rawL (s : zB) : Option Lbl :=
 match z0e wObject s with
 | none => none
 | some (i, r) => match z0e wKind r with
   | none => none
   | some (k, r) => match z0e wName r with
     | none => none
     | some (n, r) => (z79 r).map fun x => ⟨i, kindOfW k, n, x⟩
def z28 (s : zB) : Option Lbl := match rawL s with | none => none | some l => if rightL l then some l else none
theorem z3b {k : Int} (h1 : 1 ≤ k) (h2 : k ≤ 4) : k = 1 ∨ k = 2 ∨ k = 3 ∨ k = 4 := by omega
theorem z8r {k : Int} (h1 : 1 ≤ k) (h2 : k ≤ 4) : kindOfW (kindW k) = k := by
 rcases z3b h1 h2 with rfl | rfl | rfl | rfl <;> rfl
theorem z8s {w : zB} (h : 1 ≤ kindOfW w) : kindW (kindOfW w) = w := by
 unfold kindOfW at h ⊢;by_cases h1 : w = [98, 108, 111, 98]
 · rw [if_pos h1, h1]; rfl
 rw [if_neg h1] at h ⊢;by_cases h2 : w = [116, 114, 101, 101]
 · rw [if_pos h2, h2]; rfl
 rw [if_neg h2] at h ⊢;by_cases h3 : w = [99, 111, 109, 109, 105, 116]
 · rw [if_pos h3, h3]; rfl
 rw [if_neg h3] at h ⊢;by_cases h4 : w = [116, 97, 103]
 · rw [if_pos h4, h4]; rfl
 rw [if_neg h4] at h;omega
theorem z3e {k : Int} : kindW k = [] ↔ ¬ (1 ≤ k ∧ k ≤ 4) := by
 constructor
 · rintro h ⟨h1, h2⟩;rcases z3b h1 h2 with rfl | rfl | rfl | rfl <;> cases h
 · intro h;unfold kindW;rw [if_neg (by omega), if_neg (by omega), if_neg (by omega), if_neg (by omega)]
theorem word_no {k : Int} : (10 : UInt8) ∉ kindW k := by
 by_cases h : 1 ≤ k ∧ k ≤ 4
 · rcases z3b h.1 h.2 with rfl | rfl | rfl | rfl <;> decide
 · rw [z3e.2 h]; simp
theorem z3j {l : Lbl} : rightL l = true ↔ z0c l.id = true ∧ (1 ≤ l.kind ∧ l.kind ≤ 4) ∧ z2a l.name = true := by
 unfold rightL;simp only [Bool.and_eq_true, decide_eq_true_eq];exact ⟨fun h => ⟨h.1.1, h.1.2, h.2⟩, fun h => ⟨⟨h.1, h.2.1⟩, h.2.2⟩⟩
theorem zkd {s : zB} {l : Lbl} (h : rawL s = some l) (hk : 1 ≤ l.kind) : s = z6e l := by
 unfold rawL at h;cases h1 : z0e wObject s with
 | none => rw [h1] at h; cases h
 | some p =>
   obtain ⟨i, r1⟩ := p;rw [h1] at h; simp only at h;cases h2 : z0e wKind r1 with
   | none => rw [h2] at h; cases h
   | some p =>
     obtain ⟨k, r2⟩ := p;rw [h2] at h; simp only at h;cases h3 : z0e wName r2 with
     | none => rw [h3] at h; cases h
     | some p =>
       obtain ⟨n, r3⟩ := p;rw [h3] at h; simp only at h;obtain ⟨x, h4, rfl⟩ := Option.map_eq_some_iff.1 h;have e1 := (z0y h1).1;have e2 := (z0y h2).1;have e3 := (z0y h3).1;have e4 := z7a h4;unfold z6e;rw [z8s hk, e1, e2, e3, e4]
theorem zge {l : Lbl} (h : rightL l = true) : rawL (z6e l) = some l := by
 obtain ⟨h1, h2, h3⟩ := z3j.1 h;unfold rawL z6e;rw [z38 (z4z h1 (by decide))];simp only;rw [z38 word_no];simp only;rw [z38 (zev h3 (by decide))];show some (Lbl.mk l.id (kindOfW (kindW l.kind)) l.name l.text) = _;rw [z8r h2.1 h2.2]
theorem zcl {s : zB} {l : Lbl} : z28 s = some l ↔ rightL l = true ∧ z6e l = s := by
 unfold z28;constructor
 · intro h;cases hg : rawL s with
   | none => rw [hg] at h; cases h
   | some c' =>
     rw [hg] at h; simp only at h;by_cases hr : rightL c' = true
     · rw [if_pos hr] at h; cases h;exact ⟨hr, (zkd hg (z3j.1 hr).2.1.1).symm⟩
     · rw [if_neg hr] at h; cases h
 · rintro ⟨hr, rfl⟩;rw [zge hr];show (if rightL l = true then _ else _) = _;rw [if_pos hr]
def z7b (x : Itm) : zB × Int := (x.id, if x.mode = 3 then 2 else 1)
def zbk (c : Chg) : List (zB × Int) := (c.tree, 2) :: c.parents.map fun p => (p, 3)
def zcm (l : Lbl) : List (zB × Int) := [(l.id, l.kind)]
def z0g (k : Int) (d : zB) : Option (List (zB × Int)) :=
 if 65536 < d.length then none
 else if k = 1 then some []
 else if k = 2 then (getT d).map fun l => l.map z7b
 else if k = 3 then (getC d).map zbk
 else if k = 4 then (z28 d).map zcm
 else none
end Go.Proofs.YtgjddkeogboojaaGreatDoor
namespace Go.Proofs.YtgjddkeogboojaaGreatDoor
open Go Go.RowKit
def SV (l : zB) : Value := .string ⟨l.toArray⟩
theorem ret_bool {a b : Bool} (h : a = b) : Ending.returned (.bool a) = .returned (.bool b) := by rw [h]
theorem ret_u8 {a b : Int} (h : a = b) : Ending.returned (.int .u8 a) = .returned (.int .u8 b) := by rw [h]
theorem append_S (p q : zB) : (⟨p.toArray⟩ : ByteArray) ++ (⟨q.toArray⟩ : ByteArray) = ⟨(p ++ q).toArray⟩ := by
 apply ByteArray.ext;rw [ByteArray.data_append];apply Array.ext';simp
theorem extract_S (p : zB) (a b : Nat) : (⟨p.toArray⟩ : ByteArray).extract a b = ⟨((p.take b).drop a).toArray⟩ := by
 apply ByteArray.ext;rw [ByteArray.data_extract];apply Array.ext';simp [List.drop_take]
theorem lt_heap {w : World} {g : Nat} {o : Obj} (h : w.heap[g]? = some o) : g < w.heap.size := by
 rcases Nat.lt_or_ge g w.heap.size with hlt | hge
 · exact hlt
 · rw [Array.getElem?_eq_none hge] at h; cases h
def RdK {α : Type} (k : Nat) (f : α → List Value) (w : World) (v : Value) (l : List α) : Prop :=
 ((∃ A c, v = .slice A 0 c) ∧ l = []) ∨ ∃ g o c, v = .slice (some ⟨g, o, none⟩) l.length c ∧ l.length ≤ c ∧ g < w.heap.size ∧ ∀ j, j < l.length → ∀ x, l[j]? = some x → ∀ i, i < k → w.cell? ⟨g, o + j * k + i, none⟩ = (f x)[i]?
theorem RdK.below {α : Type} {k : Nat} {f : α → List Value} {w w' : World} {v : Value} {l : List α} {b : Nat} (h : RdK k f w v l) (hb : Below b w w') (hlt : w.heap.size ≤ b) : RdK k f w' v l := by
 rcases h with h | ⟨g, o, c, rfl, hc, hg, hcell⟩
 · exact .inl h
 · exact .inr ⟨g, o, c, rfl, hc, Nat.lt_of_lt_of_le hg hb.size, fun j hj x hx i hi => by rw [hb.cell (p := ⟨g, o + j * k + i, none⟩) (by show g < b; omega)]; exact hcell j hj x hx i hi⟩
theorem RdK.shape {α : Type} {k : Nat} {f : α → List Value} {w : World} {v : Value} {l : List α} (h : RdK k f w v l) : ∃ A c, v = .slice A l.length c := by
 rcases h with ⟨⟨A, c, rfl⟩, rfl⟩ | ⟨g, o, c, rfl, hc, _⟩
 · exact ⟨A, c, rfl⟩
 · exact ⟨_, _, rfl⟩
def OwK {α : Type} (t : TypeId) (k : Nat) (f : α → List Value) (w : World) (base : Nat) (v : Value) (l : List α) : Prop := w.ownsRow base t k v l.length (l.flatMap f)
theorem z49 {α : Type} {k : Nat} {f : α → List Value} (hf : ∀ x, (f x).length = k) (l : List α) : (l.flatMap f).length = l.length * k := by
 induction l with
 | nil => simp
 | cons x l ih => rw [List.flatMap_cons, List.length_append, ih, hf, List.length_cons, Nat.add_mul, Nat.one_mul, Nat.add_comm]
theorem z6f {α : Type} {k : Nat} {f : α → List Value} (hf : ∀ x, (f x).length = k) : ∀ (l : List α) (j : Nat) (x : α), l[j]? = some x → ∀ i, i < k → (l.flatMap f)[j * k + i]? = (f x)[i]?
 | [], j, x, h, i, hi => by simp at h
 | y :: l, 0, x, h, i, hi => by
   simp at h; subst h;rw [List.flatMap_cons, Nat.zero_mul, Nat.zero_add, List.getElem?_append_left (by rw [hf]; exact hi)]
 | y :: l, j + 1, x, h, i, hi => by
   rw [List.flatMap_cons, List.getElem?_append_right (by rw [hf, Nat.add_mul]; omega), hf, show (j + 1) * k + i - k = j * k + i by rw [Nat.add_mul]; omega];exact z6f hf l j x (by simpa using h) i hi
theorem OwK.rd {α : Type} {t : TypeId} {k : Nat} {f : α → List Value} (hf : ∀ x, (f x).length = k) {w : World} {base : Nat} {v : Value} {l : List α} (h : OwK t k f w base v l) : RdK k f w v l := by
 obtain ⟨h1, h2⟩ := h;rcases h2 with ⟨rfl, h2⟩ | ⟨g, cap, cur, rfl, hb, hg, hn, hm, hs, ht⟩
 · exact .inl ⟨⟨_, _, rfl⟩, List.length_eq_zero_iff.1 h2⟩
 · refine .inr ⟨g, 0, cap, rfl, hn, lt_heap hg, fun j hj x hx i hi => ?_⟩;rw [Nat.zero_add, cell_of_row w g (j * k + i) _ _ _ hg]
   have hlt : j * k + i < l.length * k := by
    have : (j + 1) * k ≤ l.length * k := Nat.mul_le_mul_right k hj;rw [Nat.add_mul] at this; omega
   have h3 : (cur.toList.take (l.length * k))[j * k + i]? = (l.flatMap f)[j * k + i]? := by rw [ht]
   rw [List.getElem?_take, if_pos hlt, Array.getElem?_toList, z6f hf l j x hx i hi] at h3;exact h3
theorem OwK.below {α : Type} {t : TypeId} {k : Nat} {f : α → List Value} {w w' : World} {base b : Nat} {v : Value} {l : List α} (h : OwK t k f w base v l) (hb : Below b w w') (hlt : w.heap.size ≤ b) : OwK t k f w' base v l := by
 obtain ⟨h1, h2⟩ := h;refine ⟨h1, ?_⟩;rcases h2 with h2 | ⟨g, cap, cur, rfl, hbg, hg, r⟩
 · exact .inl h2
 · exact .inr ⟨g, cap, cur, rfl, hbg, (hb.block g (Nat.lt_of_lt_of_le (lt_heap hg) hlt)).trans hg, r⟩
theorem OwK.mono {α : Type} {t : TypeId} {k : Nat} {f : α → List Value} {w : World} {base b : Nat} {v : Value} {l : List α} (h : OwK t k f w base v l) (hb : b ≤ base) : OwK t k f w b v l := by
 obtain ⟨h1, h2⟩ := h;refine ⟨h1, ?_⟩;rcases h2 with h2 | ⟨g, cap, cur, rfl, hbg, r⟩
 · exact .inl h2
 · exact .inr ⟨g, cap, cur, rfl, Nat.le_trans hb hbg, r⟩
theorem OwK.nil {α : Type} (t : TypeId) (k : Nat) (f : α → List Value) (w : World) (base : Nat) : OwK t k f w base (.slice none 0 0) ([] : List α) := World.ownsRow_nil w base _ _
def strC (s : zB) : List Value := [SV s]
def itmC (x : Itm) : List Value := [.int .i64 x.mode, SV x.name, SV x.id]
def z8t (x : zB × Int) : List Value := [SV x.1, .int .i64 x.2]
theorem z19 (x : zB) : (strC x).length = 1 := rfl
theorem zbl (x : Itm) : (itmC x).length = 3 := rfl
theorem z6g (x : zB × Int) : (z8t x).length = 2 := rfl
def StrsR (w : World) (v : Value) (l : List (zB)) : Prop := RdK 1 strC w v l
def ItmsR (w : World) (v : Value) (l : List Itm) : Prop := RdK 3 itmC w v l
def zcn (w : World) (v : Value) (l : List (zB × Int)) : Prop := RdK 2 z8t w v l
theorem StrsR.cell {w : World} {g o n c : Nat} {l : List (zB)} (h : StrsR w (.slice (some ⟨g, o, none⟩) n c) l) (k : Nat) (hk : k < l.length) : w.cell? ⟨g, o + k, none⟩ = some (SV (l.getD k [])) := by
 rcases h with ⟨_, rfl⟩ | ⟨g', o', c', e, hc, hg, hcell⟩
 · simp at hk
 · cases e;have := hcell k hk _ (zj hk) 0 (by omega);rw [Nat.mul_one, Nat.add_zero] at this;rw [this, zg, zj hk]; rfl
theorem ItmsR.cells {w : World} {g o n c : Nat} {l : List Itm} (h : ItmsR w (.slice (some ⟨g, o, none⟩) n c) l) (k : Nat) (hk : k < l.length) :
 w.cell? ⟨g, o + k * 3, none⟩ = some (.int .i64 (l.getD k z1c).mode) ∧ w.cell? ⟨g, o + k * 3 + 1, none⟩ = some (SV (l.getD k z1c).name) ∧ w.cell? ⟨g, o + k * 3 + 2, none⟩ = some (SV (l.getD k z1c).id) := by
 rcases h with ⟨_, rfl⟩ | ⟨g', o', c', e, hc, hg, hcell⟩
 · simp at hk
 · cases e;have h0 := hcell k hk _ (zj hk);have e : l.getD k z1c = l[k] := by rw [zg, zj hk]; rfl
   rw [e];exact ⟨h0 0 (by omega), h0 1 (by omega), h0 2 (by omega)⟩
theorem RdK.pos {α : Type} {k : Nat} {f : α → List Value} {w : World} {v : Value} {l : List α} (h : RdK k f w v l) (hl : 0 < l.length) : ∃ g o c, v = .slice (some ⟨g, o, none⟩) l.length c ∧ l.length ≤ c ∧ g < w.heap.size := by
 rcases h with ⟨_, rfl⟩ | ⟨g, o, c, rfl, hc, hg, _⟩
 · simp at hl
 · exact ⟨g, o, c, rfl, hc, hg⟩
theorem z0l {α : Type} (l : List α) (d : α) (k : Nat) (hk : k < l.length) : l.take (k + 1) = l.take k ++ [l.getD k d] := by
 rw [List.take_succ_eq_append_getElem hk, zg, zj hk]; rfl
theorem z1w {α : Type} (l : List α) (d : α) (k : Nat) (hk : k < l.length) : l.getD k d ∈ l := by
 rw [zg, zj hk]; exact List.getElem_mem hk
end Go.Proofs.YtgjddkeogboojaaGreatDoor
namespace Go.Proofs.YtgjddkeogboojaaGreatDoor
open Go Go.RowKit Go.Extern.Stop Go.Stop Go.Extern
def Et (w : World) : Prop := w.cell? ⟨0, 0, none⟩ = some (.iface 172 (.agg #[.pointer (some ⟨11, 64, none⟩)]))
theorem rlm (z : Sem Value) (f : TypeId → Addr → Nat → Nat → Sem Value) (v : Value) :
 ReflectliteValue.method z f #[v] = (do match ← ReflectliteValue.parts v with | none => z | some (t, a, fl) => f t a fl (fl % 32)) := rfl
theorem valueOfP (t : Addr) (w : World) : (ReflectliteValue.unpack (.iface 233 (.pointer (some t)))).run Tryz.prog w
 = .ok (.agg #[.pointer (some ⟨11, 233, none⟩), .pointer (some ⟨w.heap.size, 0, none⟩), .int .u64 150]) (w.alloc (.cells #[.pointer (some t)] 233)) := by kernel_rfl
theorem typeP (a : Addr) (w : World) : (ReflectliteValue.methodAny (ReflectliteValue.valueError "reflectlite.Value.Type" 0) (fun t _ _ _ => ReflectliteType.toType t) #[.agg #[.pointer (some ⟨11, 233, none⟩), .pointer (some a), .int .u64 150]]).run Tryz.prog w
 = .ok (.iface 172 (.agg #[.pointer (some ⟨11, 233, none⟩)])) w := by kernel_rfl
theorem kindP (w : World) : ((ReflectliteType.abiMethod fun t => (fun a : Nat => Value.int IntKind.u8 (a : Int)) <$> Rtype.kind t) #[.pointer (some ⟨11, 233, none⟩)]).run Tryz.prog w = .ok (.int .u8 22) w := by kernel_rfl
theorem kindE (w : World) : ((ReflectliteType.abiMethod fun t => (fun a : Nat => Value.int IntKind.u8 (a : Int)) <$> Rtype.kind t) #[.pointer (some ⟨11, 232, none⟩)]).run Tryz.prog w = .ok (.int .u8 22) w := by kernel_rfl
theorem partsP (a : Addr) (w : World) : (ReflectliteValue.parts (.agg #[.pointer (some ⟨11, 233, none⟩), .pointer (some a), .int .u64 150])).run Tryz.prog w = .ok (some (233, a, 150)) w := by kernel_rfl
theorem isNilP (a p : Addr) (W : World) (ha : W.cell? a = some (.pointer (some p))) :
 (ReflectliteValue.method (ReflectliteValue.valueError "reflectlite.Value.IsNil" 0) ReflectliteValue.isNil #[.agg #[.pointer (some ⟨11, 233, none⟩), .pointer (some a), .int .u64 150]]).run Tryz.prog W = .ok (.bool false) W := by
 rw [rlm];simp only [Sem.run_bind, partsP, Result.andThen];simp [ReflectliteValue.isNil, loadVar, isAgg, underlying, Tryz.underlying233, ha, Result.andThen]
theorem elemP (w : World) : (ReflectliteType.method ReflectliteType.elem #[.agg #[.pointer (some ⟨11, 233, none⟩)]]).run Tryz.prog w = .ok (.iface 172 (.agg #[.pointer (some ⟨11, 232, none⟩)])) w := by kernel_rfl
theorem implementsE (w : World) : (ReflectliteType.relation "Implements" ReflectliteType.implements_ #[.agg #[.pointer (some ⟨11, 232, none⟩)], .iface 172 (.agg #[.pointer (some ⟨11, 64, none⟩)])]).run Tryz.prog w = .ok (.bool true) w := by kernel_rfl
theorem typeOfF (v : Value) (w : World) : (ReflectliteType.typeOf #[.iface 232 v]).run Tryz.prog w = .ok (.iface 172 (.agg #[.pointer (some ⟨11, 232, none⟩)])) w := by kernel_rfl
theorem assignF (w : World) : (ReflectliteType.relation "AssignableTo" ReflectliteType.assignableTo #[.agg #[.pointer (some ⟨11, 232, none⟩)], .iface 172 (.agg #[.pointer (some ⟨11, 232, none⟩)])]).run Tryz.prog w = .ok (.bool true) w := by kernel_rfl
theorem valueOfE (p : Option Addr) (w : World) : (ReflectliteValue.unpack (.iface 232 (.pointer p))).run Tryz.prog w
 = .ok (.agg #[.pointer (some ⟨11, 232, none⟩), .pointer (some ⟨w.heap.size, 0, none⟩), .int .u64 150]) (w.alloc (.cells #[.pointer p] 232)) := by kernel_rfl
theorem elemOfP (w : World) : (Rtype.elem? 233).run Tryz.prog w = .ok (some 232) w := by kernel_rfl
theorem mkE (p : Addr) (w : World) : (ReflectliteValue.mk 232 p ReflectliteValue.flagAddr).run Tryz.prog w = .ok (.agg #[.pointer (some ⟨11, 232, none⟩), .pointer (some p), .int .u64 406]) w := by kernel_rfl
theorem elemVP (a p : Addr) (W : World) (ha : W.cell? a = some (.pointer (some p))) :
 (ReflectliteValue.method (ReflectliteValue.valueError "reflectlite.Value.Elem" 0) ReflectliteValue.elem #[.agg #[.pointer (some ⟨11, 233, none⟩), .pointer (some a), .int .u64 150]]).run Tryz.prog W
   = .ok (.agg #[.pointer (some ⟨11, 232, none⟩), .pointer (some p), .int .u64 406]) W := by
 rw [rlm];simp only [Sem.run_bind, partsP, Result.andThen];simp [ReflectliteValue.elem, loadVar, isAgg, underlying, Tryz.underlying233, ha, Result.andThen, elemOfP, mkE]
theorem rls (v x : Value) : ReflectliteValue.set #[v, x] = (do
 let (some (dst, a, fl), some (src, b, _)) := (← ReflectliteValue.parts v, ← ReflectliteValue.parts x)
  | unsupported (.noEntry "extern/(internal/reflectlite.Value).Set.zeroValue")
 if fl / ReflectliteValue.flagAddr % 2 == 0 then unsupported (.noEntry "extern/(internal/reflectlite.Value).Set.unaddressable")
 let val ← loadVar src b
 if ← Rtype.directlyAssignable dst src then storeVar dst a val
 else if ← Rtype.implements dst src then
  if (← Rtype.kind src) == 20 then
   match val with
   | .nilIface => unsupported (.noEntry "extern/reflectlite: a nil value of one interface type handed on as a value of another")
   | _ => storeVar dst a val
  else storeVar dst a (.iface src val)
 else panicString ("reflectlite.Set: value of type " ++ (← Rtype.spelt src) ++ " is not assignable to type " ++ (← Rtype.spelt dst))
 pure (.tuple #[])) := rfl
theorem partsEa (a : Addr) (w : World) : (ReflectliteValue.parts (.agg #[.pointer (some ⟨11, 232, none⟩), .pointer (some a), .int .u64 406])).run Tryz.prog w = .ok (some (232, a, 406)) w := by kernel_rfl
theorem partsE (a : Addr) (w : World) : (ReflectliteValue.parts (.agg #[.pointer (some ⟨11, 232, none⟩), .pointer (some a), .int .u64 150])).run Tryz.prog w = .ok (some (232, a, 150)) w := by kernel_rfl
theorem directE (w : World) : (Rtype.directlyAssignable 232 232).run Tryz.prog w = .ok true w := by kernel_rfl
theorem setE (ta b : Addr) (p : Option Addr) (old : Value) (W : World) (hb : W.cell? b = some (.pointer p)) (ht : W.cell? ta = some old) (hf : W.frozen? ta = false) :
 (ReflectliteValue.set #[.agg #[.pointer (some ⟨11, 232, none⟩), .pointer (some ta), .int .u64 406], .agg #[.pointer (some ⟨11, 232, none⟩), .pointer (some b), .int .u64 150]]).run Tryz.prog W
   = .ok (.tuple #[]) (W.setCell ta (.pointer p)) := by
 rw [rls];simp only [Sem.run_bind, partsEa, partsE, Result.andThen];simp [ReflectliteValue.flagAddr, loadVar, isAgg, underlying, Tryz.underlying232, hb, Result.andThen, directE, storeVar, Value.cells, storeCells, Addr.add];rw [run_store Tryz.prog W ta _ _ (by rfl)];simp [ht, hf]
theorem zan (t : Value) (w : World) : Calls Tryz.prog 51 #[.nilIface, t] w fun e w' => e = .returned (.bool false) ∧ w' = w := by
 go_enter Tryz.func51, Tryz.ntmps51
 go_wp2
 go_ret
 exact ⟨rfl, rfl⟩
theorem zew (h : Value) (w : World) : (Go.method 464 172 (.agg #[h]) "AssignableTo").run Tryz.prog w = .ok (275, .agg #[h]) w := by kernel_rfl
theorem mKind (h : Value) (w : World) : (Go.method 464 172 (.agg #[h]) "Kind").run Tryz.prog w = .ok (265, h) w := by kernel_rfl
theorem mElem (h : Value) (w : World) : (Go.method 464 172 (.agg #[h]) "Elem").run Tryz.prog w = .ok (277, .agg #[h]) w := by kernel_rfl
theorem z65 (h : Value) (w : World) : (Go.method 464 172 (.agg #[h]) "Implements").run Tryz.prog w = .ok (278, .agg #[h]) w := by kernel_rfl
theorem z4a (w : World) (t : Addr) (u : Value) : w.grownBy (w.setCell t u) (some t.block) :=
 ⟨rfl, rfl, rfl, by simp [World.setCell], fun k _ hk => Below.heap_setCell _ _ _ _ (fun e => hk (by rw [e]))⟩
theorem below_new (w : World) (o : Obj) : Below w.heap.size w (w.alloc o) := (Below.refl _ w).alloc zl o
theorem z1a {w w' : World} {o : Obj} (hg : (w.alloc o).grownBy w' (some w.heap.size)) : Below w.heap.size w w' :=
 (below_new w o).grown hg (by simp) (fun k hk => by cases hk; exact Nat.le_refl _)
def AsPost (t : Addr) (p : Option Addr) (w : World) (e : Ending) (w' : World) : Prop := e = .returned (.bool true) ∧ w.grownBy w' (some t.block) ∧ w'.cell? t = some (.pointer p)
def zzzn := PLift.up <| @run_callFunc_extern Tryz.prog 93 _ ReflectliteValue.set Tryz.func93 (by kernel_rfl) (by kernel_rfl) (by kernel_rfl) (by kernel_rfl)
def zzzi := PLift.up <| @run_callFunc_extern Tryz.prog 275 _ (ReflectliteType.relation "AssignableTo" ReflectliteType.assignableTo) Tryz.func275 (by kernel_rfl) (by kernel_rfl) (by kernel_rfl) (by kernel_rfl)
def zzze := PLift.up <| @run_callFunc_extern Tryz.prog 92 _ (ReflectliteValue.method (ReflectliteValue.valueError "reflectlite.Value.Elem" 0) ReflectliteValue.elem) Tryz.func92 (by kernel_rfl) (by kernel_rfl) (by kernel_rfl) (by kernel_rfl)
def zzzc := PLift.up <| @run_callFunc_extern Tryz.prog 91 _ ReflectliteType.typeOf Tryz.func91 (by kernel_rfl) (by kernel_rfl) (by kernel_rfl) (by kernel_rfl)
def zzza := PLift.up <| @run_callFunc_extern Tryz.prog 67 _ (fun args => ReflectliteValue.unpack (args.getD 0 (.tuple #[]))) Tryz.func67 (by kernel_rfl) (by kernel_rfl) (by kernel_rfl) (by kernel_rfl)
theorem as_fault (p : Option Addr) (t v : Addr) (old : Value) (w : World)
 (hv : w.cell? v = some (.pointer (some t))) (ht : w.cell? t = some old) (hf : w.frozen? t = false) :
 Calls Tryz.prog 70 #[.iface 232 (.pointer p), .iface 233 (.pointer (some t)), .agg #[.pointer (some ⟨11, 233, none⟩), .pointer (some v), .int .u64 150], .iface 172 (.agg #[.pointer (some ⟨11, 232, none⟩)])] w (AsPost t p w) := by
 have hTO := zzzc.1;have hVO := zzza.1;have hAT := zzzi.1;have hEl := zzze.1;have hSe := zzzn.1;have q1 := typeOfF; have q4 := assignF; have q5 := valueOfE; have q6 := zew;have hvl := World.block_lt_of_cell? w v hv;have htl := World.block_lt_of_cell? w t ht;have el := elemVP v t (w.alloc (.cells #[.pointer (some ⟨11, 233, none⟩), .pointer (some v), .int .u64 150] 136)) (by rw [World.cell?_alloc_lt _ _ v hvl]; exact hv)
 have st := setE t ⟨w.heap.size + 1, 0, none⟩ p old ((w.alloc (.cells #[.pointer (some ⟨11, 233, none⟩), .pointer (some v), .int .u64 150] 136)).alloc (.cells #[.pointer p] 232))
  (by rw [World.cell?_alloc_at _ _ _ _ (by simp)]; rfl)
  (by rw [World.cell?_alloc_lt _ _ t (by simp; omega), World.cell?_alloc_lt _ _ t htl]; exact ht)
  (by rw [World.frozen?_alloc_old _ _ t (by simp; omega), World.frozen?_alloc_old _ _ t (Nat.ne_of_lt htl)]; exact hf)
 go_enter Tryz.func70, Tryz.ntmps70
 go_wp2
 refine wp_loop_rounds 1 ?_;rw [rounds_succ]
 go_wp2_with fail
 go_ret
 refine ⟨rfl, z0u (z0u (World.grownBy_alloc _ _ _) (World.grownBy_alloc _ _ _)) (z4a _ _ _), World.cell?_setCell_same _ _ _ (u := old) ?_⟩;rw [World.cell?_alloc_lt _ _ t (by simp; omega), World.cell?_alloc_lt _ _ t htl, ht]
def zzzl := PLift.up <| @run_callFunc_extern Tryz.prog 277 _ (ReflectliteType.method ReflectliteType.elem) Tryz.func277 (by kernel_rfl) (by kernel_rfl) (by kernel_rfl) (by kernel_rfl)
def zzzj := PLift.up <| @run_callFunc_extern Tryz.prog 278 _ (ReflectliteType.relation "Implements" ReflectliteType.implements_) Tryz.func278 (by kernel_rfl) (by kernel_rfl) (by kernel_rfl) (by kernel_rfl)
def zzzg := PLift.up <| @run_callFunc_extern Tryz.prog 265 _ (ReflectliteType.abiMethod fun t => do pure (.int .u8 (← Rtype.kind t))) Tryz.func265 (by kernel_rfl) (by kernel_rfl) (by kernel_rfl) (by kernel_rfl)
def zzzd := PLift.up <| @run_callFunc_extern Tryz.prog 69 _ (ReflectliteValue.method (ReflectliteValue.valueError "reflectlite.Value.IsNil" 0) ReflectliteValue.isNil) Tryz.func69 (by kernel_rfl) (by kernel_rfl) (by kernel_rfl) (by kernel_rfl)
def zzzb := PLift.up <| @run_callFunc_extern Tryz.prog 68 _ (ReflectliteValue.methodAny (ReflectliteValue.valueError "reflectlite.Value.Type" 0) (fun t _ _ _ => ReflectliteType.toType t)) Tryz.func68 (by kernel_rfl) (by kernel_rfl) (by kernel_rfl) (by kernel_rfl)
theorem errAs_fault (p : Option Addr) (t : Addr) (old : Value) (w : World) (het : Et w) (ht : w.cell? t = some old) (hf : w.frozen? t = false) :
 Calls Tryz.prog 51 #[.iface 232 (.pointer p), .iface 233 (.pointer (some t))] w (AsPost t p w) := by
 have hVO := zzza.1;have hVT := zzzb.1;have hIN := zzzd.1;have hKi := zzzg.1;have hTE := zzzl.1;have hTI := zzzj.1;have htl := World.block_lt_of_cell? w t ht;have hgl := World.block_lt_of_cell? w ⟨0, 0, none⟩ het;have q1 := valueOfP; have q2 := typeP; have q3 := kindP; have q4 := kindE; have q5 := elemP; have q6 := implementsE; have q7 := mKind; have q8 := mElem; have q9 := z65;have n8 := isNilP ⟨w.heap.size, 0, none⟩ t ((w.alloc (.cells #[.pointer (some t)] 233)).alloc (.cells #[.pointer (some ⟨11, 233, none⟩), .pointer (some ⟨w.heap.size, 0, none⟩), .int .u64 150] 136)) (by simp)
 have hg2 : ((w.alloc (.cells #[.pointer (some t)] 233)).alloc (.cells #[.pointer (some ⟨11, 233, none⟩), .pointer (some ⟨w.heap.size, 0, none⟩), .int .u64 150] 136)).cell? ⟨0, 0, none⟩ = some (.iface 172 (.agg #[.pointer (some ⟨11, 64, none⟩)])) := by
  rw [World.cell?_alloc_lt _ _ ⟨0, 0, none⟩ (by have h := hgl; simp at h ⊢ <;> omega), World.cell?_alloc_lt _ _ ⟨0, 0, none⟩ hgl]; exact het
 have hin := as_fault p t ⟨w.heap.size, 0, none⟩ old ((w.alloc (.cells #[.pointer (some t)] 233)).alloc (.cells #[.pointer (some ⟨11, 233, none⟩), .pointer (some ⟨w.heap.size, 0, none⟩), .int .u64 150] 136))
  (by simp)
  (by rw [World.cell?_alloc_lt _ _ t (by simp; omega), World.cell?_alloc_lt _ _ t htl]; exact ht)
  (by rw [World.frozen?_alloc_old _ _ t (by simp; omega), World.frozen?_alloc_old _ _ t (Nat.ne_of_lt htl)]; exact hf)
 have Hin := zh hin; clear hin het
 go_enter Tryz.func51, Tryz.ntmps51
 go_wp2_with fail
 refine Hin.out.mono ?_;rintro e w' ⟨rfl, hg, hc⟩
 go_wp2
 go_ret
 exact ⟨rfl, z0u (z0u (World.grownBy_alloc _ _ _) (World.grownBy_alloc _ _ _)) hg, hc⟩
def FV (ev : Value) : Prop := ∃ p, ev = .iface 232 (.pointer (some p))
def z06 (v : Value) (w : World) (e : Ending) (w' : World) : Prop := e = .returned v ∧ Below w.heap.size w w'
theorem told_hin (p : Option Addr) (w : World) (het : Et w) : Calls Tryz.prog 51 #[.iface 232 (.pointer p), .iface 233 (.pointer (some ⟨w.heap.size, 0, none⟩))] (w.alloc (.cells #[.pointer none] 232)) (AsPost ⟨w.heap.size, 0, none⟩ p (w.alloc (.cells #[.pointer none] 232))) := by
 have hgl := World.block_lt_of_cell? w ⟨0, 0, none⟩ het;refine errAs_fault p _ (.pointer none) _ ?_ (by simp) (by simp);unfold Et; rw [World.cell?_alloc_lt _ _ ⟨0, 0, none⟩ hgl]; exact het
theorem zke (s : Value) (w : World) : Calls Tryz.prog 128 #[s, .nilIface] w (z06 (.tuple #[s, .bool true]) w) := by
 have Hin := zh (fun t w => zan t w)
 go_enter Tryz.func128, Tryz.ntmps128
 go_wp2_with fail
 refine (Hin.out _ _).mono ?_;rintro e w' ⟨rfl, rfl⟩
 go_wp2
 go_ret2
 exact ⟨rfl, below_new w _⟩
theorem zex (s ev : Value) (w : World) (h : FV ev) (het : Et w) : Calls Tryz.prog 128 #[s, ev] w (z06 (.tuple #[.string ⟨#[]⟩, .bool false]) w) := by
 obtain ⟨p, rfl⟩ := h;have Hin := zh (told_hin (some p) w het); clear het
 go_enter Tryz.func128, Tryz.ntmps128
 go_wp2_with fail
 refine Hin.out.mono ?_;rintro e w' ⟨rfl, hg, hc⟩
 go_wp2
 go_ret2
 exact ⟨rfl, z1a hg⟩
theorem zkf (s : Value) (w : World) : Calls Tryz.prog 126 #[s, .nilIface] w (z06 (.tuple #[s, .bool true]) w) := by
 have Hin := zh (fun t w => zan t w)
 go_enter Tryz.func126, Tryz.ntmps126
 go_wp2_with fail
 refine (Hin.out _ _).mono ?_;rintro e w' ⟨rfl, rfl⟩
 go_wp2
 go_ret2
 exact ⟨rfl, below_new w _⟩
theorem zey (s ev : Value) (w : World) (h : FV ev) (het : Et w) : Calls Tryz.prog 126 #[s, ev] w (z06 (.tuple #[.slice none 0 0, .bool false]) w) := by
 obtain ⟨p, rfl⟩ := h;have Hin := zh (told_hin (some p) w het); clear het
 go_enter Tryz.func126, Tryz.ntmps126
 go_wp2_with fail
 refine Hin.out.mono ?_;rintro e w' ⟨rfl, hg, hc⟩
 go_wp2
 go_ret2
 exact ⟨rfl, z1a hg⟩
theorem z2m (s ev : Value) (w : World) : Calls Tryz.prog 140 #[.bool true, s, ev] w fun e w' => e = .returned .nilIface ∧ w = w' := by
 go_enter Tryz.func140, Tryz.ntmps140
 go_wp2
 go_ret
 exact ⟨rfl, rfl⟩
theorem z3s (s : ByteArray) (te : TypeId) (pe : Value) (w : World) : Calls Tryz.prog 140 #[.bool false, .string s, .iface te pe] w fun e w' => e = .returned (.iface 232 (.pointer (some ⟨w.heap.size, 0, none⟩))) ∧ w.alloc (.cells #[.string s, .iface te pe] 236) = w' := by
 go_enter Tryz.func140, Tryz.ntmps140
 go_wp2
 go_ret
 exact ⟨rfl, rfl⟩
theorem z3w (s : Value) (w : World) : Calls Tryz.prog 141 #[s, .nilIface] w fun e w' => e = .returned .nilIface ∧ w = w' := by
 go_enter Tryz.func141, Tryz.ntmps141
 go_wp2
 go_ret
 exact ⟨rfl, rfl⟩
theorem z1l (s : ByteArray) (ev : Value) (h : FV ev) (w : World) : Calls Tryz.prog 141 #[.string s, ev] w fun e w' => e = .returned (.iface 232 (.pointer (some ⟨w.heap.size, 0, none⟩))) ∧ w.alloc (.cells #[.string s, ev] 236) = w' := by
 obtain ⟨p, rfl⟩ := h
 go_enter Tryz.func141, Tryz.ntmps141
 go_wp2
 go_ret
 exact ⟨rfl, rfl⟩
end Go.Proofs.YtgjddkeogboojaaGreatDoor
