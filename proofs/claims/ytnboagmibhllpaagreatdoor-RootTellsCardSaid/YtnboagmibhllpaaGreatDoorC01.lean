/-
  The plain side of layer 2.
  Plain: what names come to.
  Refs, plain: names and their parts, refs that are right, what updates make of them, and lines.
  Words and blocks: the digest.
  The plain side of layer 4: trees, commits and tags as lists of bytes, there and back.
  Strings, slices of texts, of items, of wants, as they lie in memory.
  The digest: Named.
-/
import Derived.Lib.Hide
import Derived.Lib.Split
import Derived.Lib.SplitLaws
import Derived.Test.YtnboagmibhllpaaGreatDoorProg
import Derived.WalkKit
import Derived.OneCell
import Derived.Laws.BitsAllLaws
import Derived.Laws.Bits64b
import Derived.Laws.Shifts
import Derived.Deep.QuietTactic
import Derived.Below
import Derived.Laws.OwnMore
import Derived.Deep.Draws
import Derived.Laws.Rows
import Derived.Deep.WholeRow
import Derived.Laws.CopyRow
import Derived.StillTailTactics
import Derived.BigQuiet
import Derived.IntWalk
import GoSem.ClaimWide
import Derived.Laws.AppendOwnNone
import Derived.Deep.RegionHeld3
import Derived.Lib.IndexLaws
import Derived.Laws.Externs

namespace Go.Proofs.YtnboagmibhllpaaGreatDoor
/-- Turned to the right by n. -/
def rotr (x n : UInt32) : UInt32 := x >>> n ||| x <<< (32 - n)
structure V where
  a : UInt32
  b : UInt32
  c : UInt32
  d : UInt32
  e : UInt32
  f : UInt32
  g : UInt32
  h : UInt32
deriving DecidableEq
def bs0 (x : UInt32) : UInt32 := rotr x 2 ^^^ rotr x 13 ^^^ rotr x 22
def bs1 (x : UInt32) : UInt32 := rotr x 6 ^^^ rotr x 11 ^^^ rotr x 25
def ss0 (x : UInt32) : UInt32 := rotr x 7 ^^^ rotr x 18 ^^^ x >>> 3
def ss1 (x : UInt32) : UInt32 := rotr x 17 ^^^ rotr x 19 ^^^ x >>> 10
def chs (e f g : UInt32) : UInt32 := (e &&& f) ^^^ (~~~e &&& g)
def maj (a b c : UInt32) : UInt32 := (a &&& b) ^^^ (a &&& c) ^^^ (b &&& c)
def rndX (k w : UInt32) (v : V) : UInt32 := v.h + bs1 v.e + chs v.e v.f v.g + k + w
def rndY (v : V) : UInt32 := bs0 v.a + maj v.a v.b v.c
def rnd (k w : UInt32) (v : V) : V := ⟨rndX k w v + rndY v, v.a, v.b, v.c, v.d + rndX k w v, v.e, v.f, v.g⟩
def rnds (kf wf : Nat → UInt32) (v : V) : Nat → V
  | 0 => v
  | t + 1 => rnd (kf t) (wf t) (rnds kf wf v t)
def addV (v u : V) : V := ⟨v.a + u.a, v.b + u.b, v.c + u.c, v.d + u.d, v.e + u.e, v.f + u.f, v.g + u.g, v.h + u.h⟩
/-- Word t of the 64, m being the first sixteen. -/
def sched (m : Nat → UInt32) (t : Nat) : UInt32 :=
  if _h : t < 16 then m t else ss1 (sched m (t - 2)) + sched m (t - 7) + ss0 (sched m (t - 15)) + sched m (t - 16)
termination_by t
theorem sched_lo (m : Nat → UInt32) (t : Nat) (h : t < 16) : sched m t = m t := by rw [sched, dif_pos h]
theorem sched_hi (m : Nat → UInt32) (t : Nat) (h : ¬ t < 16) : sched m t = ss1 (sched m (t - 2)) + sched m (t - 7) + ss0 (sched m (t - 15)) + sched m (t - 16) := by rw [sched, dif_neg h]
/-- Word t of the bytes m. -/
def word (m : Nat → UInt8) (t : Nat) : UInt32 := (m (4 * t)).toUInt32 <<< 24 ||| (m (4 * t + 1)).toUInt32 <<< 16 ||| (m (4 * t + 2)).toUInt32 <<< 8 ||| (m (4 * t + 3)).toUInt32
/-- The eight words behind the block m. -/
def mixV (kf : Nat → UInt32) (v : V) (m : Nat → UInt8) : V := addV v (rnds kf (sched (word m)) v 64)
/-- The eight words behind n blocks of m. -/
def takeV (kf : Nat → UInt32) (v : V) (m : Nat → UInt8) : Nat → V
  | 0 => v
  | n + 1 => mixV kf (takeV kf v m n) (fun j => m (64 * n + j))
theorem word_congr {m m' : Nat → UInt8} {t : Nat} (h : ∀ j, j < 4 → m (4 * t + j) = m' (4 * t + j)) : word m t = word m' t := by
  unfold word
  rw [h 1 (by omega), h 2 (by omega), h 3 (by omega)]
  have := h 0 (by omega)
  simp only [Nat.add_zero] at this
  rw [this]
theorem sched_congr {m m' : Nat → UInt32} (h : ∀ t, t < 16 → m t = m' t) (t : Nat) : sched m t = sched m' t := by
  induction t using Nat.strongRecOn with
  | _ t ih =>
    by_cases h16 : t < 16
    · rw [sched_lo _ _ h16, sched_lo _ _ h16, h t h16]
    · rw [sched_hi _ _ h16, sched_hi _ _ h16, ih (t - 2) (by omega), ih (t - 7) (by omega), ih (t - 15) (by omega), ih (t - 16) (by omega)]
theorem rnds_congr {k k' w w' : Nat → UInt32} (v : V) (n : Nat) (h : ∀ t, t < n → k t = k' t ∧ w t = w' t) : rnds k w v n = rnds k' w' v n := by
  induction n with
  | zero => rfl
  | succ n ih => rw [rnds, rnds, ih fun t ht => h t (by omega), (h n (by omega)).1, (h n (by omega)).2]
theorem mixV_congr {k k' : Nat → UInt32} (v : V) {m m' : Nat → UInt8} (hk : ∀ t, t < 64 → k t = k' t) (h : ∀ j, j < 64 → m j = m' j) : mixV k v m = mixV k' v m' := by
  unfold mixV
  rw [rnds_congr v 64 (k' := k') (w' := sched (word m')) fun t ht => ⟨hk t ht, sched_congr (fun t ht => word_congr fun j hj => h _ (by omega)) t⟩]
theorem takeV_congr {k k' : Nat → UInt32} (v : V) {m m' : Nat → UInt8} (n : Nat) (hk : ∀ t, t < 64 → k t = k' t) (h : ∀ j, j < 64 * n → m j = m' j) : takeV k v m n = takeV k' v m' n := by
  induction n with
  | zero => rfl
  | succ n ih => rw [takeV, takeV, ih fun j hj => h j (by omega), mixV_congr _ hk fun j hj => h _ (by omega)]
/-- The length of the padded text. -/
def tot (n : Nat) : Nat := (n + 8) / 64 * 64 + 64
/-- The padded text. -/
def padded (l : List UInt8) (j : Nat) : UInt8 :=
  if j < l.length then l.getD j 0 else if j = l.length then 128 else if j < tot l.length - 8 then 0 else UInt8.ofNat (8 * l.length / 2 ^ (8 * (tot l.length - 1 - j)))
/-- The first bits of the cube roots' fractions. -/
def KL : List UInt32 := [
  0x428a2f98, 0x71374491, 0xb5c0fbcf, 0xe9b5dba5, 0x3956c25b, 0x59f111f1, 0x923f82a4, 0xab1c5ed5,
  0xd807aa98, 0x12835b01, 0x243185be, 0x550c7dc3, 0x72be5d74, 0x80deb1fe, 0x9bdc06a7, 0xc19bf174,
  0xe49b69c1, 0xefbe4786, 0x0fc19dc6, 0x240ca1cc, 0x2de92c6f, 0x4a7484aa, 0x5cb0a9dc, 0x76f988da,
  0x983e5152, 0xa831c66d, 0xb00327c8, 0xbf597fc7, 0xc6e00bf3, 0xd5a79147, 0x06ca6351, 0x14292967,
  0x27b70a85, 0x2e1b2138, 0x4d2c6dfc, 0x53380d13, 0x650a7354, 0x766a0abb, 0x81c2c92e, 0x92722c85,
  0xa2bfe8a1, 0xa81a664b, 0xc24b8b70, 0xc76c51a3, 0xd192e819, 0xd6990624, 0xf40e3585, 0x106aa070,
  0x19a4c116, 0x1e376c08, 0x2748774c, 0x34b0bcb5, 0x391c0cb3, 0x4ed8aa4a, 0x5b9cca4f, 0x682e6ff3,
  0x748f82ee, 0x78a5636f, 0x84c87814, 0x8cc70208, 0x90befffa, 0xa4506ceb, 0xbef9a3f7, 0xc67178f2]
def KF (t : Nat) : UInt32 := KL.getD t 0
def H0 : V := ⟨0x6a09e667, 0xbb67ae85, 0x3c6ef372, 0xa54ff53a, 0x510e527f, 0x9b05688c, 0x1f83d9ab, 0x5be0cd19⟩
/-- The eight words of a text's sum. -/
def sumV (l : List UInt8) : V := takeV KF H0 (padded l) (tot l.length / 64)
def V.get (v : V) : Nat → UInt32
  | 0 => v.a
  | 1 => v.b
  | 2 => v.c
  | 3 => v.d
  | 4 => v.e
  | 5 => v.f
  | 6 => v.g
  | _ => v.h
/-- Byte i of the sum of eight words. -/
def byteV (v : V) (i : Nat) : UInt8 := (v.get (i / 4) >>> UInt32.ofNat (24 - i % 4 * 8)).toUInt8
/-- A text's sum. -/
def sumL (l : List UInt8) : List UInt8 := (List.range 32).map (byteV (sumV l))
theorem sumL_length (l : List UInt8) : (sumL l).length = 32 := by simp [sumL]
/-- A digit of sixteen. -/
def hexD (n : UInt8) : UInt8 := if n < 10 then 48 + n else 87 + n
/-- A text's name. -/
def nameL (l : List UInt8) : List UInt8 := (sumL l).flatMap fun c => [hexD (c / 16), hexD (c % 16)]
theorem flat2_length (f g : UInt8 → UInt8) (l : List UInt8) : (l.flatMap fun c => [f c, g c]).length = 2 * l.length := by
  induction l with
  | nil => rfl
  | cons c l ih => simp only [List.flatMap_cons, List.length_append, ih, List.length_cons, List.length_nil]; omega
theorem nameL_length (l : List UInt8) : (nameL l).length = 64 := by unfold nameL; rw [flat2_length, sumL_length]
/-- A digit. -/
def isD (c : UInt8) : Bool := (48 ≤ c && c ≤ 57) || (97 ≤ c && c ≤ 102)
/-- May the text be a name? -/
def namedB (l : List UInt8) : Bool := l.length == 64 && l.all isD
theorem u8_all {p : UInt8 → Bool} (h : ∀ n : Fin 256, p (UInt8.ofFin n) = true) (c : UInt8) : p c = true := by have := h c.toFin; simpa using this
end Go.Proofs.YtnboagmibhllpaaGreatDoor


namespace Go.Proofs.YtnboagmibhllpaaGreatDoor
abbrev Bs := List UInt8
theorem lt_irr (a : Bs) : ¬ a < a := List.lt_irrefl a
theorem lt_tr {a b c : Bs} (h : a < b) (k : b < c) : a < c := List.lt_trans h k
theorem lt_of_le_ne {a b : Bs} (h : a ≤ b) (hn : a ≠ b) : a < b := by
  rcases List.le_iff_lt_or_eq.1 h with h | h
  · exact h
  · exact absurd h hn
theorem lt_cases (a b : Bs) : a < b ∨ a = b ∨ b < a := by
  rcases List.le_total a b with h | h
  · rcases List.le_iff_lt_or_eq.1 h with h | h
    · exact .inl h
    · exact .inr (.inl h)
  · rcases List.le_iff_lt_or_eq.1 h with h | h
    · exact .inr (.inr h)
    · exact .inr (.inl h.symm)
/-- Texts that rise. -/
def Rising (l : List Bs) : Prop := l.Pairwise fun a b => a < b
theorem Rising.nodup {l : List Bs} (h : Rising l) : l.Nodup := List.Pairwise.imp (fun {a b} (hab : a < b) (e : a = b) => lt_irr b (by rw [e] at hab; exact hab)) h
theorem rising_ext : ∀ {a b : List Bs}, Rising a → Rising b → (∀ x, x ∈ a ↔ x ∈ b) → a = b
  | [], [], _, _, _ => rfl
  | [], y :: b, _, _, h => by have := (h y).2 (by simp); simp at this
  | x :: a, [], _, _, h => by have := (h x).1 (by simp); simp at this
  | x :: a, y :: b, ha, hb, h => by
    have ha' := List.pairwise_cons.1 ha
    have hb' := List.pairwise_cons.1 hb
    have hxy : x = y := by
      rcases List.mem_cons.1 ((h x).1 (by simp)) with e | hx
      · exact e
      · rcases List.mem_cons.1 ((h y).2 (by simp)) with e | hy
        · exact e.symm
        · exact absurd (lt_tr (hb'.1 x hx) (ha'.1 y hy)) (lt_irr _)
    subst hxy
    congr 1
    refine rising_ext ha'.2 hb'.2 fun z => ⟨fun hz => ?_, fun hz => ?_⟩
    · rcases List.mem_cons.1 ((h z).1 (List.mem_cons_of_mem _ hz)) with e | h2
      · exact absurd (ha'.1 z hz) (by rw [e]; exact lt_irr _)
      · exact h2
    · rcases List.mem_cons.1 ((h z).2 (List.mem_cons_of_mem _ hz)) with e | h2
      · exact absurd (hb'.1 z hz) (by rw [e]; exact lt_irr _)
      · exact h2
end Go.Proofs.YtnboagmibhllpaaGreatDoor


namespace Go.Proofs.YtnboagmibhllpaaGreatDoor.Rf
open Go.Proofs.YtnboagmibhllpaaGreatDoor
/-- A text, parted at each slash. -/
def parts : Bs → List Bs
  | [] => [[]]
  | c :: s => if c = 47 then [] :: parts s else match parts s with | p :: r => (c :: p) :: r | [] => [[c]]
theorem parts_ne (s : Bs) : parts s ≠ [] := by
  cases s with
  | nil => simp [parts]
  | cons c s =>
    unfold parts
    split
    · simp
    · split <;> simp
theorem parts_cons (c : UInt8) (h : c ≠ 47) (s p : Bs) (r : List Bs) (hp : parts s = p :: r) : parts (c :: s) = (c :: p) :: r := by
  rw [parts, if_neg h, hp]
theorem parts_slash (s : Bs) : parts (47 :: s) = [] :: parts s := by rw [parts, if_pos rfl]
/-- A part, a slash, the rest. -/
theorem parts_app {p : Bs} (h : (47 : UInt8) ∉ p) (s : Bs) : parts (p ++ 47 :: s) = p :: parts s := by
  induction p with
  | nil => exact parts_slash s
  | cons c p ih =>
    have hc : c ≠ 47 := fun e => h (by rw [e]; simp)
    exact parts_cons c hc _ _ _ (ih fun hm => h (List.mem_cons_of_mem _ hm))
theorem parts_one {p : Bs} (h : (47 : UInt8) ∉ p) : parts p = [p] := by
  induction p with
  | nil => rfl
  | cons c p ih =>
    have hc : c ≠ 47 := fun e => h (by rw [e]; simp)
    exact parts_cons c hc _ _ _ (ih fun hm => h (List.mem_cons_of_mem _ hm))
theorem parts_len : ∀ s : Bs, (parts s).length = s.count 47 + 1
  | [] => rfl
  | c :: s => by
    have ih := parts_len s
    by_cases h : c = 47
    · rw [h, parts_slash, List.count_cons]; simp [ih]
    · cases hp : parts s with
      | nil => exact absurd hp (parts_ne s)
      | cons p r =>
        rw [parts_cons c h s p r hp, List.count_cons]
        rw [hp] at ih
        simp at ih ⊢
        simp [h, ih]
theorem index_ne (s : Bs) (c : UInt8) (h : c ≠ 47) : Go.Lib.index (c :: s) [47] = if Go.Lib.index s [47] == -1 then -1 else Go.Lib.index s [47] + 1 := by
  have hf : List.isPrefixOf [(47 : UInt8)] (c :: s) = false := by simp [List.isPrefixOf]; exact fun e => h e.symm
  rw [Go.Lib.index, hf]
  simp
theorem index_eq (s : Bs) : Go.Lib.index (47 :: s) [47] = 0 := by
  have hf : List.isPrefixOf [(47 : UInt8)] (47 :: s) = true := by simp [List.isPrefixOf]
  rw [Go.Lib.index, hf]
  rfl
theorem index_some : ∀ {s : Bs}, 0 < s.count 47 → ∃ i : Nat, Go.Lib.index s [47] = i ∧ i < s.length ∧ parts s = s.take i :: parts (s.drop (i + 1)) ∧ s.count 47 = (s.drop (i + 1)).count 47 + 1
  | [], h => by simp at h
  | c :: s, h => by
    by_cases hc : c = 47
    · subst hc
      exact ⟨0, index_eq s, by simp, by rw [parts_slash]; rfl, by simp⟩
    · obtain ⟨i, h1, h2, h3, h4⟩ := index_some (s := s) (by rw [List.count_cons_of_ne hc] at h; exact h)
      refine ⟨i + 1, ?_, by simp; omega, ?_, ?_⟩
      · rw [index_ne s c hc, h1]
        have : ¬ ((i : Int) == -1) = true := by simp
        rw [if_neg this]; omega
      · rw [parts_cons c hc s _ _ h3]; rfl
      · rw [List.count_cons_of_ne hc, h4]; rfl
theorem splitK_parts : ∀ (k : Nat) (s : Bs), s.count 47 = k → Go.Lib.splitK [47] 0 k s = parts s
  | 0, s, h => by
    show [s] = parts s
    rw [parts_one (p := s)]
    exact List.count_eq_zero.1 h
  | k + 1, s, h => by
    obtain ⟨i, h1, h2, h3, h4⟩ := index_some (s := s) (by omega)
    rw [Go.Lib.splitK, h1]
    have : ¬ ((i : Int) == -1) = true := by simp
    rw [if_neg this, h3]
    have ih := splitK_parts k (s.drop (i + 1)) (by omega)
    simp
    exact ih
def partByte (c : UInt8) : Bool := (97 ≤ c && c ≤ 122) || (48 ≤ c && c ≤ 57) || c == 46 || c == 45 || c == 95
/-- May that be a part behind the first? -/
def partB (s : Bs) : Bool := decide (1 ≤ s.length) && decide (s.length ≤ 30) && !(s.getD 0 0 == 46) && s.all partByte
def wHeads : Bs := [104, 101, 97, 100, 115]
def wTags : Bs := [116, 97, 103, 115]
def firstB (s : Bs) : Bool := s == wHeads || s == wTags
/-- Is that a ref's name? -/
def nameB (s : Bs) : Bool := decide (s.length ≤ 80) && (decide (2 ≤ (parts s).length) && decide ((parts s).length ≤ 4)) && firstB ((parts s).headD []) && (parts s).tail.all partB
/-- Is one above another one? -/
def aboveB (a b : Bs) : Bool := (a ++ [47]).isPrefixOf b
structure Ref where
  name : Bs
  id : Bs
theorem Ref.ext' {a b : Ref} (h : a.name = b.name) (k : a.id = b.id) : a = b := by cases a; cases b; cases h; cases k; rfl
structure Right (l : List Ref) : Prop where
  len : l.length ≤ 64
  name : ∀ r ∈ l, nameB r.name = true
  id : ∀ r ∈ l, namedB r.id = true
  rise : l.Pairwise fun a b => a.name < b.name
  above : ∀ a ∈ l, ∀ b ∈ l, aboveB a.name b.name = false
theorem Right.nil : Right [] := ⟨Nat.zero_le _, (fun _ h => by cases h), (fun _ h => by cases h), List.Pairwise.nil, fun _ h => by cases h⟩
def lineL (r : Ref) : Bs := r.id ++ 32 :: (r.name ++ [10])
def linesL (l : List Ref) : Bs := l.flatMap lineL
def IsGet (s : Bs) (l : List Ref) : Prop := Right l ∧ linesL l = s
end Go.Proofs.YtnboagmibhllpaaGreatDoor.Rf


namespace Go.Proofs.YtnboagmibhllpaaGreatDoor
open Go Go.RowKit
theorem w32_nat (n : Nat) : IntKind.u32.wrap (n : Int) = ((n % 4294967296 : Nat) : Int) := by rw [IntKind.wrap_u32']; omega
theorem ofInt32 (x : UInt32) : BitVec.ofInt 32 (x.toNat : Int) = x.toBitVec := by
  rw [BitVec.ofInt_natCast]; exact BitVec.eq_of_toNat_eq (by simp)
theorem u32_back (b : BitVec 32) : IntKind.u32.wrap (b.toNat : Int) = (b.toNat : Int) := by
  have := b.isLt
  rw [w32_nat, Nat.mod_eq_of_lt (by omega)]
theorem and32 (x y : UInt32) : bits .and .u32 (x.toNat : Int) (y.toNat : Int) = ((x &&& y).toNat : Int) := by
  show IntKind.u32.wrap ((BitVec.ofInt 32 (x.toNat : Int) &&& BitVec.ofInt 32 (y.toNat : Int)).toNat : Int) = _
  rw [u32_back, ofInt32, ofInt32]; rfl
theorem xor32 (x y : UInt32) : bits .xor .u32 (x.toNat : Int) (y.toNat : Int) = ((x ^^^ y).toNat : Int) := by
  show IntKind.u32.wrap ((BitVec.ofInt 32 (x.toNat : Int) ^^^ BitVec.ofInt 32 (y.toNat : Int)).toNat : Int) = _
  rw [u32_back, ofInt32, ofInt32]; rfl
theorem not32 (x : UInt32) : bits .xor .u32 4294967295 (x.toNat : Int) = ((~~~x).toNat : Int) := by
  show IntKind.u32.wrap ((BitVec.ofInt 32 4294967295 ^^^ BitVec.ofInt 32 (x.toNat : Int)).toNat : Int) = _
  rw [u32_back, ofInt32]
  have : BitVec.ofInt 32 4294967295 ^^^ x.toBitVec = ~~~x.toBitVec := by
    rw [show BitVec.ofInt 32 4294967295 = BitVec.allOnes 32 by decide, BitVec.allOnes_xor]
  rw [this]; rfl
theorem add32 (x y : UInt32) : IntKind.u32.wrap ((x.toNat : Int) + (y.toNat : Int)) = ((x + y).toNat : Int) := by
  rw [← Int.natCast_add, w32_nat, UInt32.toNat_add]
theorem shr32 (x : UInt32) (n : Nat) (h : n < 32) : (x.toNat : Int) / ((2 ^ n : Nat) : Int) = ((x >>> UInt32.ofNat n).toNat : Int) := by
  rw [← Int.natCast_ediv, UInt32.toNat_shiftRight, UInt32.toNat_ofNat', Nat.mod_eq_of_lt (a := n) (by omega), Nat.mod_eq_of_lt h, Nat.shiftRight_eq_div_pow]
theorem shl32 (x : UInt32) (n : Nat) (h : n < 32) : IntKind.u32.wrap ((x.toNat : Int) * ((2 ^ n : Nat) : Int)) = ((x <<< UInt32.ofNat n).toNat : Int) := by
  rw [← Int.natCast_mul, w32_nat, UInt32.toNat_shiftLeft, UInt32.toNat_ofNat', Nat.mod_eq_of_lt (a := n) (by omega), Nat.mod_eq_of_lt h, Nat.shiftLeft_eq]
theorem shrP (x : UInt32) (n : Nat) (h : n < 32) : (x.toNat : Int) / 2 ^ n = ((x >>> UInt32.ofNat n).toNat : Int) := by
  rw [← shr32 x n h]; simp
theorem shlP (x : UInt32) (n : Nat) (h : n < 32) : (x.toNat : Int) * 2 ^ n % 4294967296 = ((x <<< UInt32.ofNat n).toNat : Int) := by
  rw [← shl32 x n h, IntKind.wrap_u32']; simp
theorem ret_u32 {a b : Int} (h : a = b) : Ending.returned (.int .u32 a) = .returned (.int .u32 b) := by rw [h]
theorem not32' (x : UInt32) : bits .xor .u32 (if IntKind.u32.signed = true then -1 else IntKind.u32.max) (x.toNat : Int) = ((~~~x).toNat : Int) := not32 x
theorem add32m (x y : UInt32) : ((x.toNat : Int) + (y.toNat : Int)) % 4294967296 = ((x + y).toNat : Int) := by rw [← add32, IntKind.wrap_u32']
end Go.Proofs.YtnboagmibhllpaaGreatDoor
namespace Go.Proofs.YtnboagmibhllpaaGreatDoor
open Go Go.RowKit
def wv (x : UInt32) : Value := .int .u32 (x.toNat : Int)
def bv (x : UInt8) : Value := .int .u8 (x.toNat : Int)
/-- n words as cells. -/
def u32s (n : Nat) (f : Nat → UInt32) : Array Value := ((List.range n).map fun i => wv (f i)).toArray
/-- n bytes as cells. -/
def u8s (n : Nat) (f : Nat → UInt8) : Array Value := ((List.range n).map fun i => bv (f i)).toArray
theorem u32s_size (n : Nat) (f : Nat → UInt32) : (u32s n f).size = n := by simp [u32s]
theorem u8s_size (n : Nat) (f : Nat → UInt8) : (u8s n f).size = n := by simp [u8s]
theorem u32s_get (n : Nat) (f : Nat → UInt32) (i : Nat) (h : i < n) : (u32s n f)[i]? = some (wv (f i)) := by simp [u32s, h]
theorem u8s_get (n : Nat) (f : Nat → UInt8) (i : Nat) (h : i < n) : (u8s n f)[i]? = some (bv (f i)) := by simp [u8s, h]
def upd {β : Type} (f : Nat → β) (k : Nat) (x : β) (i : Nat) : β := if i = k then x else f i
theorem upd_same {β : Type} (f : Nat → β) (k : Nat) (x : β) : upd f k x k = x := if_pos rfl
theorem upd_other {β : Type} (f : Nat → β) (k : Nat) (x : β) (i : Nat) (h : i ≠ k) : upd f k x i = f i := if_neg h
theorem u32s_set (n : Nat) (f : Nat → UInt32) (k : Nat) (x : UInt32) : (u32s n f).setIfInBounds k (wv x) = u32s n (upd f k x) := by
  apply Array.ext_getElem?
  intro i
  rw [Array.getElem?_setIfInBounds]
  by_cases h : k = i
  · subst h
    rw [if_pos rfl, u32s_size]
    by_cases hk : k < n
    · rw [if_pos hk, u32s_get _ _ _ hk, upd_same]
    · rw [if_neg hk, Array.getElem?_eq_none (by rw [u32s_size]; omega)]
  · rw [if_neg h]
    by_cases hi : i < n
    · rw [u32s_get _ _ _ hi, u32s_get _ _ _ hi, upd_other _ _ _ _ (Ne.symm h)]
    · rw [Array.getElem?_eq_none (by rw [u32s_size]; omega), Array.getElem?_eq_none (by rw [u32s_size]; omega)]
theorem u8s_set (n : Nat) (f : Nat → UInt8) (k : Nat) (x : UInt8) : (u8s n f).setIfInBounds k (bv x) = u8s n (upd f k x) := by
  apply Array.ext_getElem?
  intro i
  rw [Array.getElem?_setIfInBounds]
  by_cases h : k = i
  · subst h
    rw [if_pos rfl, u8s_size]
    by_cases hk : k < n
    · rw [if_pos hk, u8s_get _ _ _ hk, upd_same]
    · rw [if_neg hk, Array.getElem?_eq_none (by rw [u8s_size]; omega)]
  · rw [if_neg h]
    by_cases hi : i < n
    · rw [u8s_get _ _ _ hi, u8s_get _ _ _ hi, upd_other _ _ _ _ (Ne.symm h)]
    · rw [Array.getElem?_eq_none (by rw [u8s_size]; omega), Array.getElem?_eq_none (by rw [u8s_size]; omega)]
theorem u32s_congr {n : Nat} {f g : Nat → UInt32} (h : ∀ i, i < n → f i = g i) : u32s n f = u32s n g := by
  unfold u32s
  congr 1
  exact List.map_congr_left fun i hi => by rw [h i (by simpa using hi)]
theorem u8s_congr {n : Nat} {f g : Nat → UInt8} (h : ∀ i, i < n → f i = g i) : u8s n f = u8s n g := by
  unfold u8s
  congr 1
  exact List.map_congr_left fun i hi => by rw [h i (by simpa using hi)]
theorem u32s_one (n : Nat) (f : Nat → UInt32) : (u32s n f).all (·.oneCell') = true := by
  rw [Array.all_eq_true_iff_forall_mem]
  intro v hv
  simp only [u32s, List.mem_toArray, List.mem_map] at hv
  obtain ⟨i, _, rfl⟩ := hv
  rfl
theorem u8s_one (n : Nat) (f : Nat → UInt8) : (u8s n f).all (·.oneCell') = true := by
  rw [Array.all_eq_true_iff_forall_mem]
  intro v hv
  simp only [u8s, List.mem_toArray, List.mem_map] at hv
  obtain ⟨i, _, rfl⟩ := hv
  rfl
/-- Block g is just these cells. -/
def Blk (w : World) (g : Nat) (t : TypeId) (cs : Array Value) : Prop := w.heap[g]? = some (.cells cs t (0, 0))
section
variable {w w' : World} {g : Nat} {t : TypeId} {cs : Array Value}
theorem Blk.lt (h : Blk w g t cs) : g < w.heap.size := by
  rcases Nat.lt_or_ge g w.heap.size with hlt | hge
  · exact hlt
  · unfold Blk at h; rw [Array.getElem?_eq_none hge] at h; cases h
theorem Blk.cell (h : Blk w g t cs) (i : Nat) : w.cell? ⟨g, i, none⟩ = cs[i]? := cell_of_row w g i cs t (0, 0) h
theorem Blk.frozen (h : Blk w g t cs) (i : Nat) : w.frozen? ⟨g, i, none⟩ = false := by
  unfold Blk at h
  simp [World.frozen?, h]
theorem Blk.new (w : World) (t : TypeId) (cs : Array Value) : Blk (w.alloc (.cells cs t)) w.heap.size t cs := heap_alloc_new w _
theorem Blk.drewN (h : Blk w g t cs) (n : Nat) : Blk (w.drewN n) g t cs := h
theorem Blk.alloc (h : Blk w g t cs) (o : Obj) : Blk (w.alloc o) g t cs := (Below.heap_alloc w o g h.lt).trans h
theorem Blk.set_ (h : Blk w g t cs) (i : Nat) (u : Value) : Blk (w.setCell ⟨g, i, none⟩ u) g t (cs.setIfInBounds i u) := by
  unfold Blk at h ⊢
  simp [World.setCell, Array.getElem?_modify, h]
theorem Blk.far (h : Blk w g t cs) {p : Addr} (hp : g ≠ p.block) (u : Value) : Blk (w.setCell p u) g t cs := (Below.heap_setCell w p u g hp).trans h
theorem Blk.below {B : Nat} (h : Blk w g t cs) (hb : Below B w w') (hg : g < B) : Blk w' g t cs := (hb.block g hg).trans h
theorem Blk.word {n : Nat} {f : Nat → UInt32} (h : Blk w g t (u32s n f)) (i : Nat) (hi : i < n) : w.cell? ⟨g, i, none⟩ = some (.int .u32 ((f i).toNat : Int)) := (h.cell i).trans (u32s_get n f i hi)
theorem Blk.byte {n : Nat} {f : Nat → UInt8} (h : Blk w g t (u8s n f)) (i : Nat) (hi : i < n) : w.cell? ⟨g, i, none⟩ = some (.int .u8 ((f i).toNat : Int)) := (h.cell i).trans (u8s_get n f i hi)
theorem Blk.setW {n : Nat} {f : Nat → UInt32} (h : Blk w g t (u32s n f)) (i : Nat) (x : UInt32) : Blk (w.setCell ⟨g, i, none⟩ (.int .u32 (x.toNat : Int))) g t (u32s n (upd f i x)) := by
  have := h.set_ i (wv x); rwa [u32s_set] at this
theorem Blk.setB {n : Nat} {f : Nat → UInt8} (h : Blk w g t (u8s n f)) (i : Nat) (x : UInt8) : Blk (w.setCell ⟨g, i, none⟩ (.int .u8 (x.toNat : Int))) g t (u8s n (upd f i x)) := by
  have := h.set_ i (bv x); rwa [u8s_set] at this
end
end Go.Proofs.YtnboagmibhllpaaGreatDoor
namespace Go.Proofs.YtnboagmibhllpaaGreatDoor
open Go Go.RowKit
theorem addV_get (v u : V) (k : Nat) (h : k < 8) : (addV v u).get k = v.get k + u.get k := by
  match k, h with
  | 0, _ => rfl
  | 1, _ => rfl
  | 2, _ => rfl
  | 3, _ => rfl
  | 4, _ => rfl
  | 5, _ => rfl
  | 6, _ => rfl
  | 7, _ => rfl
end Go.Proofs.YtnboagmibhllpaaGreatDoor


namespace Go.Proofs.YtnboagmibhllpaaGreatDoor
open Go
def cutAt (c : UInt8) : List UInt8 → Option (List UInt8 × List UInt8)
  | [] => none
  | x :: s => if x = c then some ([], s) else (cutAt c s).map fun p => (x :: p.1, p.2)
theorem cutAt_some {c : UInt8} : ∀ {s a r : List UInt8}, cutAt c s = some (a, r) → s = a ++ c :: r ∧ c ∉ a
  | [], _, _, h => by cases h
  | x :: s, a, r, h => by
    rw [cutAt] at h
    by_cases hx : x = c
    · rw [if_pos hx] at h
      simp only [Option.some.injEq, Prod.mk.injEq] at h
      obtain ⟨rfl, rfl⟩ := h
      exact ⟨by rw [hx]; rfl, by simp⟩
    · rw [if_neg hx] at h
      obtain ⟨⟨a', r'⟩, h1, h2⟩ := Option.map_eq_some_iff.1 h
      simp only [Prod.mk.injEq] at h2
      obtain ⟨rfl, rfl⟩ := h2
      obtain ⟨e1, e2⟩ := cutAt_some h1
      exact ⟨by rw [e1]; rfl, by simp only [List.mem_cons, not_or]; exact ⟨fun e => hx e.symm, e2⟩⟩
structure Itm where
  mode : Int
  name : List UInt8
  id : List UInt8
deriving DecidableEq
def noItm : Itm := ⟨0, [], []⟩
end Go.Proofs.YtnboagmibhllpaaGreatDoor


namespace Go.Proofs.YtnboagmibhllpaaGreatDoor
open Go Go.RowKit
def SV (l : List UInt8) : Value := .string ⟨l.toArray⟩
theorem ret_bool {a b : Bool} (h : a = b) : Ending.returned (.bool a) = .returned (.bool b) := by rw [h]
theorem ret_u8 {a b : Int} (h : a = b) : Ending.returned (.int .u8 a) = .returned (.int .u8 b) := by rw [h]
theorem ret_i64 {a b : Int} (h : a = b) : Ending.returned (.int .i64 a) = .returned (.int .i64 b) := by rw [h]
theorem ret_SV {a b : List UInt8} (h : a = b) : Ending.returned (.string ⟨a.toArray⟩) = .returned (.string ⟨b.toArray⟩) := by rw [h]
theorem append_S (p q : List UInt8) : (⟨p.toArray⟩ : ByteArray) ++ (⟨q.toArray⟩ : ByteArray) = ⟨(p ++ q).toArray⟩ := by
  apply ByteArray.ext
  rw [ByteArray.data_append]
  apply Array.ext'
  simp
theorem extract_S (p : List UInt8) (a b : Nat) : (⟨p.toArray⟩ : ByteArray).extract a b = ⟨((p.take b).drop a).toArray⟩ := by
  apply ByteArray.ext
  rw [ByteArray.data_extract]
  apply Array.ext'
  simp [List.drop_take]
theorem lt_heap {w : World} {g : Nat} {o : Obj} (h : w.heap[g]? = some o) : g < w.heap.size := by
  rcases Nat.lt_or_ge g w.heap.size with hlt | hge
  · exact hlt
  · rw [Array.getElem?_eq_none hge] at h; cases h
/-- The slice value v holds, element by element, the k cells that f tells. -/
def RdK {α : Type} (k : Nat) (f : α → List Value) (w : World) (v : Value) (l : List α) : Prop :=
  ((∃ A c, v = .slice A 0 c) ∧ l = []) ∨ ∃ g o c, v = .slice (some ⟨g, o, none⟩) l.length c ∧ l.length ≤ c ∧ g < w.heap.size ∧ ∀ j, j < l.length → ∀ x, l[j]? = some x → ∀ i, i < k → w.cell? ⟨g, o + j * k + i, none⟩ = (f x)[i]?
theorem RdK.below {α : Type} {k : Nat} {f : α → List Value} {w w' : World} {v : Value} {l : List α} {b : Nat} (h : RdK k f w v l) (hb : Below b w w') (hlt : w.heap.size ≤ b) : RdK k f w' v l := by
  rcases h with h | ⟨g, o, c, rfl, hc, hg, hcell⟩
  · exact .inl h
  · exact .inr ⟨g, o, c, rfl, hc, Nat.lt_of_lt_of_le hg hb.size, fun j hj x hx i hi => by rw [hb.cell (p := ⟨g, o + j * k + i, none⟩) (by show g < b; omega)]; exact hcell j hj x hx i hi⟩
theorem RdK.shape {α : Type} {k : Nat} {f : α → List Value} {w : World} {v : Value} {l : List α} (h : RdK k f w v l) : ∃ A c, v = .slice A l.length c := by
  rcases h with ⟨⟨A, c, rfl⟩, rfl⟩ | ⟨g, o, c, rfl, hc, _⟩
  · exact ⟨A, c, rfl⟩
  · exact ⟨_, _, rfl⟩
/-- Behind what turned one block that is not its own. -/
theorem RdK.grown {α : Type} {k : Nat} {f : α → List Value} {w w' : World} {v : Value} {l : List α} {r : Option Nat} (h : RdK k f w v l) (hg : w.grownBy w' r) (hr : ∀ g o c, v = .slice (some ⟨g, o, none⟩) l.length c → r ≠ some g) : RdK k f w' v l := by
  rcases h with h | ⟨g, o, c, rfl, hc, hgl, hcell⟩
  · exact .inl h
  · refine .inr ⟨g, o, c, rfl, hc, Nat.lt_of_lt_of_le hgl hg.size, fun j hj x hx i hi => ?_⟩
    have hb := hg.block g hgl (fun e => hr g o c rfl e.symm)
    rw [← hcell j hj x hx i hi]
    exact World.cell?_of_block (w := w) (a := ⟨g, o + j * k + i, none⟩) hb
/-- The slice value v is the call's own, above base, and holds them. -/
def OwK {α : Type} (t : TypeId) (k : Nat) (f : α → List Value) (w : World) (base : Nat) (v : Value) (l : List α) : Prop := w.ownsRow base t k v l.length (l.flatMap f)
theorem flat_length {α : Type} {k : Nat} {f : α → List Value} (hf : ∀ x, (f x).length = k) (l : List α) : (l.flatMap f).length = l.length * k := by
  induction l with
  | nil => simp
  | cons x l ih => rw [List.flatMap_cons, List.length_append, ih, hf, List.length_cons, Nat.add_mul, Nat.one_mul, Nat.add_comm]
theorem flat_get {α : Type} {k : Nat} {f : α → List Value} (hf : ∀ x, (f x).length = k) : ∀ (l : List α) (j : Nat) (x : α), l[j]? = some x → ∀ i, i < k → (l.flatMap f)[j * k + i]? = (f x)[i]?
  | [], j, x, h, i, hi => by simp at h
  | y :: l, 0, x, h, i, hi => by
    simp at h; subst h
    rw [List.flatMap_cons, Nat.zero_mul, Nat.zero_add, List.getElem?_append_left (by rw [hf]; exact hi)]
  | y :: l, j + 1, x, h, i, hi => by
    rw [List.flatMap_cons, List.getElem?_append_right (by rw [hf, Nat.add_mul]; omega), hf, show (j + 1) * k + i - k = j * k + i by rw [Nat.add_mul]; omega]
    exact flat_get hf l j x (by simpa using h) i hi
theorem OwK.rd {α : Type} {t : TypeId} {k : Nat} {f : α → List Value} (hf : ∀ x, (f x).length = k) {w : World} {base : Nat} {v : Value} {l : List α} (h : OwK t k f w base v l) : RdK k f w v l := by
  obtain ⟨h1, h2⟩ := h
  rcases h2 with ⟨rfl, h2⟩ | ⟨g, cap, cur, rfl, hb, hg, hn, hm, hs, ht⟩
  · exact .inl ⟨⟨_, _, rfl⟩, List.length_eq_zero_iff.1 h2⟩
  · refine .inr ⟨g, 0, cap, rfl, hn, lt_heap hg, fun j hj x hx i hi => ?_⟩
    rw [Nat.zero_add, cell_of_row w g (j * k + i) _ _ _ hg]
    have hlt : j * k + i < l.length * k := by
      have : (j + 1) * k ≤ l.length * k := Nat.mul_le_mul_right k hj
      rw [Nat.add_mul] at this; omega
    have h3 : (cur.toList.take (l.length * k))[j * k + i]? = (l.flatMap f)[j * k + i]? := by rw [ht]
    rw [List.getElem?_take, if_pos hlt, Array.getElem?_toList, flat_get hf l j x hx i hi] at h3
    exact h3
theorem OwK.below {α : Type} {t : TypeId} {k : Nat} {f : α → List Value} {w w' : World} {base b : Nat} {v : Value} {l : List α} (h : OwK t k f w base v l) (hb : Below b w w') (hlt : w.heap.size ≤ b) : OwK t k f w' base v l := by
  obtain ⟨h1, h2⟩ := h
  refine ⟨h1, ?_⟩
  rcases h2 with h2 | ⟨g, cap, cur, rfl, hbg, hg, r⟩
  · exact .inl h2
  · exact .inr ⟨g, cap, cur, rfl, hbg, (hb.block g (Nat.lt_of_lt_of_le (lt_heap hg) hlt)).trans hg, r⟩
theorem OwK.mono {α : Type} {t : TypeId} {k : Nat} {f : α → List Value} {w : World} {base b : Nat} {v : Value} {l : List α} (h : OwK t k f w base v l) (hb : b ≤ base) : OwK t k f w b v l := by
  obtain ⟨h1, h2⟩ := h
  refine ⟨h1, ?_⟩
  rcases h2 with h2 | ⟨g, cap, cur, rfl, hbg, r⟩
  · exact .inl h2
  · exact .inr ⟨g, cap, cur, rfl, Nat.le_trans hb hbg, r⟩
theorem OwK.nil {α : Type} (t : TypeId) (k : Nat) (f : α → List Value) (w : World) (base : Nat) : OwK t k f w base (.slice none 0 0) ([] : List α) := World.ownsRow_nil w base _ _
def strC (s : List UInt8) : List Value := [SV s]
def itmC (x : Itm) : List Value := [.int .i64 x.mode, SV x.name, SV x.id]
def wantV (x : List UInt8 × Int) : List Value := [SV x.1, .int .i64 x.2]
theorem strC_len (x : List UInt8) : (strC x).length = 1 := rfl
theorem itmC_len (x : Itm) : (itmC x).length = 3 := rfl
theorem wantV_len (x : List UInt8 × Int) : (wantV x).length = 2 := rfl
def StrsR (w : World) (v : Value) (l : List (List UInt8)) : Prop := RdK 1 strC w v l
def ItmsR (w : World) (v : Value) (l : List Itm) : Prop := RdK 3 itmC w v l
def WantsR (w : World) (v : Value) (l : List (List UInt8 × Int)) : Prop := RdK 2 wantV w v l
theorem StrsR.cell {w : World} {g o n c : Nat} {l : List (List UInt8)} (h : StrsR w (.slice (some ⟨g, o, none⟩) n c) l) (k : Nat) (hk : k < l.length) : w.cell? ⟨g, o + k, none⟩ = some (SV (l.getD k [])) := by
  rcases h with ⟨_, rfl⟩ | ⟨g', o', c', e, hc, hg, hcell⟩
  · simp at hk
  · cases e
    have := hcell k hk _ (List.getElem?_eq_getElem hk) 0 (by omega)
    rw [Nat.mul_one, Nat.add_zero] at this
    rw [this, List.getD_eq_getElem?_getD, List.getElem?_eq_getElem hk]; rfl
theorem ItmsR.cells {w : World} {g o n c : Nat} {l : List Itm} (h : ItmsR w (.slice (some ⟨g, o, none⟩) n c) l) (k : Nat) (hk : k < l.length) :
    w.cell? ⟨g, o + k * 3, none⟩ = some (.int .i64 (l.getD k noItm).mode) ∧ w.cell? ⟨g, o + k * 3 + 1, none⟩ = some (SV (l.getD k noItm).name) ∧ w.cell? ⟨g, o + k * 3 + 2, none⟩ = some (SV (l.getD k noItm).id) := by
  rcases h with ⟨_, rfl⟩ | ⟨g', o', c', e, hc, hg, hcell⟩
  · simp at hk
  · cases e
    have h0 := hcell k hk _ (List.getElem?_eq_getElem hk)
    have e : l.getD k noItm = l[k] := by rw [List.getD_eq_getElem?_getD, List.getElem?_eq_getElem hk]; rfl
    rw [e]
    exact ⟨h0 0 (by omega), h0 1 (by omega), h0 2 (by omega)⟩
theorem WantsR.cells {w : World} {g o n c : Nat} {l : List (List UInt8 × Int)} (h : WantsR w (.slice (some ⟨g, o, none⟩) n c) l) (k : Nat) (hk : k < l.length) :
    w.cell? ⟨g, o + k * 2, none⟩ = some (SV (l.getD k ([], 0)).1) ∧ w.cell? ⟨g, o + k * 2 + 1, none⟩ = some (.int .i64 (l.getD k ([], 0)).2) := by
  rcases h with ⟨_, rfl⟩ | ⟨g', o', c', e, hc, hg, hcell⟩
  · simp at hk
  · cases e
    have h0 := hcell k hk _ (List.getElem?_eq_getElem hk)
    have e : l.getD k ([], 0) = l[k] := by rw [List.getD_eq_getElem?_getD, List.getElem?_eq_getElem hk]; rfl
    rw [e]
    exact ⟨h0 0 (by omega), h0 1 (by omega)⟩
/-- A slice that is not empty lies in a block. -/
theorem RdK.pos {α : Type} {k : Nat} {f : α → List Value} {w : World} {v : Value} {l : List α} (h : RdK k f w v l) (hl : 0 < l.length) : ∃ g o c, v = .slice (some ⟨g, o, none⟩) l.length c ∧ l.length ≤ c ∧ g < w.heap.size := by
  rcases h with ⟨_, rfl⟩ | ⟨g, o, c, rfl, hc, hg, _⟩
  · simp at hl
  · exact ⟨g, o, c, rfl, hc, hg⟩
theorem take_getD {α : Type} (l : List α) (d : α) (k : Nat) (hk : k < l.length) : l.take (k + 1) = l.take k ++ [l.getD k d] := by
  rw [List.take_succ_eq_append_getElem hk, List.getD_eq_getElem?_getD, List.getElem?_eq_getElem hk]; rfl
theorem getD_mem {α : Type} (l : List α) (d : α) (k : Nat) (hk : k < l.length) : l.getD k d ∈ l := by
  rw [List.getD_eq_getElem?_getD, List.getElem?_eq_getElem hk]; exact List.getElem_mem hk
end Go.Proofs.YtnboagmibhllpaaGreatDoor


namespace Go.Proofs.YtnboagmibhllpaaGreatDoor
open Go Go.RowKit
theorem isD_int (c : UInt8) : isD c = ((decide (48 ≤ (c.toNat : Int)) && decide ((c.toNat : Int) ≤ 57)) || (decide (97 ≤ (c.toNat : Int)) && decide ((c.toNat : Int) ≤ 102))) := by
  unfold isD
  rw [Bool.eq_iff_iff]; simp [UInt8.le_iff_toNat_le]; omega
set_option maxHeartbeats 400000 in
theorem digit_any (c : UInt8) (w : World) : Calls Tryz.prog 83 #[.int .u8 (c.toNat : Int)] w fun e w' => e = .returned (.bool (isD c)) ∧ w = w' := by
  rw [isD_int]
  go_enter Tryz.func83, Tryz.ntmps83
  go_wp2
  all_goals (go_ret; refine ⟨ret_bool ?_, rfl⟩; first | rfl | (rw [Bool.eq_iff_iff]; simp; done) | (rw [Bool.eq_iff_iff]; simp; omega))
set_option maxHeartbeats 400000 in
theorem rdigit_any (c : UInt8) (hc : c < 16) (w : World) : Calls Tryz.prog 45 #[.int .u8 (c.toNat : Int)] w fun e w' => e = .returned (.int .u8 ((hexD c).toNat : Int)) ∧ w = w' := by
  have hc' : c.toNat < 16 := by simpa [UInt8.lt_iff_toNat_lt] using hc
  have hd : (hexD c).toNat = if c.toNat < 10 then 48 + c.toNat else 87 + c.toNat := by
    unfold hexD
    by_cases h : c.toNat < 10
    · rw [if_pos (by simpa [UInt8.lt_iff_toNat_lt] using h), if_pos h, UInt8.toNat_add]; simp; omega
    · rw [if_neg (by simpa [UInt8.lt_iff_toNat_lt] using h), if_neg h, UInt8.toNat_add]; simp; omega
  have HD := Lib.hid hd; clear hd hc
  by_cases h : c.toNat < 10
  · go_enter Tryz.func45, Tryz.ntmps45
    go_wp2
    go_ret
    exact ⟨ret_u8 (by rw [HD.out, if_pos h]; omega), rfl⟩
  · go_enter Tryz.func45, Tryz.ntmps45
    go_wp2
    go_ret
    exact ⟨ret_u8 (by rw [HD.out, if_neg h]; omega), rfl⟩
set_option maxHeartbeats 400000 in
theorem three_any (a b c : UInt32) (w : World) : Calls Tryz.prog 92 #[.int .u32 (a.toNat : Int), .int .u32 (b.toNat : Int), .int .u32 (c.toNat : Int)] w fun e w' => e = .returned (.int .u32 ((a ^^^ b ^^^ c).toNat : Int)) ∧ w = w' := by
  have H := Lib.hid (show bits .xor .u32 (bits .xor .u32 (a.toNat : Int) (b.toNat : Int)) (c.toNat : Int) = ((a ^^^ b ^^^ c).toNat : Int) by rw [xor32, xor32])
  go_enter Tryz.func92, Tryz.ntmps92
  go_wp2
  go_ret
  exact ⟨ret_u32 H.out, rfl⟩
theorem rotr_add (x : UInt32) (n : Nat) (h1 : 1 ≤ n) (h2 : n < 32) : rotr x (UInt32.ofNat n) = x >>> UInt32.ofNat n + x <<< UInt32.ofNat (32 - n) := by
  unfold rotr
  rw [show 32 - UInt32.ofNat n = UInt32.ofNat (32 - n) by rw [← UInt32.toNat_inj, UInt32.toNat_sub]; simp; omega]
  rw [← UInt32.toBitVec_inj, UInt32.toBitVec_or, UInt32.toBitVec_add]
  refine (BitVec.add_eq_or_of_and_eq_zero _ _ ?_).symm
  rw [UInt32.toBitVec_shiftRight, UInt32.toBitVec_shiftLeft]
  have e1 : (UInt32.ofNat n).toBitVec % 32 = BitVec.ofNat 32 n := by apply BitVec.eq_of_toNat_eq; simp; omega
  have e2 : (UInt32.ofNat (32 - n)).toBitVec % 32 = BitVec.ofNat 32 (32 - n) := by apply BitVec.eq_of_toNat_eq; simp; omega
  rw [e1, e2]
  apply BitVec.eq_of_getLsbD_eq
  intro i hi
  have hn : (BitVec.ofNat 32 n).toNat = n := by simp; omega
  have hm : (BitVec.ofNat 32 (32 - n)).toNat = 32 - n := by simp; omega
  rw [BitVec.getLsbD_and, BitVec.ushiftRight_eq', BitVec.shiftLeft_eq', hn, hm, BitVec.getLsbD_ushiftRight, BitVec.getLsbD_shiftLeft]
  by_cases h : i < 32 - n
  · simp [h]
  · have : x.toBitVec.getLsbD (n + i) = false := BitVec.getLsbD_of_ge _ _ (by omega)
    simp [this]
set_option maxHeartbeats 400000 in
theorem rturn_any (x : UInt32) (n : Nat) (h1 : 1 ≤ n) (h2 : n < 32) (w : World) :
    Calls Tryz.prog 93 #[.int .u32 (x.toNat : Int), .int .i64 (n : Int)] w fun e w' => e = .returned (.int .u32 ((rotr x (UInt32.ofNat n)).toNat : Int)) ∧ ∃ m, w' = w.drewN m := by
  have e1 : IntKind.i64.wrap (32 - (n : Int)) = ((32 - n : Nat) : Int) := by rw [IntWalk.i64_in _ (by omega)]; omega
  have p1 : 0 ≤ (n : Int) := by omega
  have p2 : 0 ≤ ((32 - n : Nat) : Int) := by omega
  have H := Lib.hid (rotr_add x n h1 h2)
  go_enter Tryz.func93, Tryz.ntmps93
  go_wp2
  go_quiet (fail)
  clear e1 p1 p2
  go_wp2
  go_ret
  refine ⟨ret_u32 ?_, nq, rfl⟩
  rw [shrP x n h2, shlP x (32 - n) (by omega), add32m, H.out]
/-- Which text, byte by byte: the digits so far. -/
theorem all_snoc (l : List UInt8) (k : Nat) (h : k < l.length) (ih : (l.take k).all isD = true) : (l.take (k + 1)).all isD = isD l[k] := by
  rw [List.take_succ_eq_append_getElem h, List.all_append, ih]; simp
theorem named_no (l : List UInt8) (k : Nat) (h : k < l.length) (hd : isD l[k] = false) : namedB l = false := by
  unfold namedB
  have : l.all isD = false := by
    rw [List.all_eq_false]; exact ⟨l[k], List.getElem_mem h, by simp [hd]⟩
  rw [this, Bool.and_false]
theorem named_yes (l : List UInt8) (h : l.length = 64) (ha : (l.take 64).all isD = true) : namedB l = true := by
  unfold namedB
  rw [← h, List.take_length] at ha
  rw [h, ha]; rfl
theorem named_len (l : List UInt8) (h : l.length ≠ 64) : namedB l = false := by
  unfold namedB
  rw [show (l.length == 64) = false by simpa using h]; rfl
set_option maxHeartbeats 400000 in
theorem Named_any (l : List UInt8) (w : World) (hl : l.length ≤ maxLen) : Calls Tryz.prog 58 #[SV l] w fun e w' => e = .returned (.bool (namedB l)) ∧ w = w' := by
  unfold maxLen at hl
  unfold SV
  by_cases h64 : l.length = 64
  · have H64 := Lib.hid h64
    have b1 : (l.length : Int) ≤ 64 := by omega
    have b2 : 64 ≤ (l.length : Int) := by omega
    have b3 : ((l.length : Int) != 64) = false := by simp [h64]
    clear h64
    go_enter Tryz.func58, Tryz.ntmps58
    go_wp2
    go_loop [9] (fun i => ∃ k : Nat, k ≤ l.length ∧ i = .int .i64 k ∧ (l.take k).all isD = true) (fun i => l.length - (intOf i).toNat)
    case atStart => exact ⟨0, Nat.zero_le _, rfl, rfl⟩
    case round =>
      obtain ⟨k, hk, rfl, hall⟩ := hrel
      by_cases hlt : k < l.length
      · have hcall := digit_any l[k] w
        have hsn := all_snoc l k hlt hall
        cases hp : isD l[k]
        · rw [hp] at hcall
          have Hno := Lib.hid (named_no l k hlt hp)
          clear hsn hp hall
          go_wp2_with fail
          refine hcall.mono ?_
          rintro e w' ⟨rfl, rfl⟩
          go_wp2
          go_ret
          exact ⟨ret_bool Hno.out.symm, rfl⟩
        · rw [hp] at hcall
          have Hsn := Lib.hid (hsn.trans hp)
          clear hsn hp hall
          go_wp2_with fail
          refine hcall.mono ?_
          rintro e w' ⟨rfl, rfl⟩
          go_wp2
          go_round
          case rel => exact ⟨k + 1, by omega, by go_num, Hsn.out⟩
          case measure => simp [intOf]; omega
      · have Hy := Lib.hid (named_yes l H64.out (by rw [List.take_of_length_le (by omega)]; rw [List.take_of_length_le (by omega)] at hall; exact hall))
        clear hall
        go_wp2
        go_ret
        exact ⟨ret_bool Hy.out.symm, rfl⟩
  · have Hn := Lib.hid (named_len l h64)
    have b3 : ((l.length : Int) != 64) = true := by simp; omega
    clear h64
    go_enter Tryz.func58, Tryz.ntmps58
    go_wp2
    go_ret
    exact ⟨ret_bool Hn.out.symm, rfl⟩
end Go.Proofs.YtnboagmibhllpaaGreatDoor
