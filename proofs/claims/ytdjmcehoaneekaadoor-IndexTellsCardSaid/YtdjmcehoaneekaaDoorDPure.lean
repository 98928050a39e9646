/-
  The plain side of layer 2.
-/
import Derived.Lib.Hide
namespace Go.Proofs.YtdjmcehoaneekaaDoor
/-- Turned to the right by n. -/
def rotr (x n : UInt32) : UInt32 := x >>> n ||| x <<< (32 - n)
structure V where
  a : UInt32
  b : UInt32
  c : UInt32
  d : UInt32
  e : UInt32
  f : UInt32
  g : UInt32
  h : UInt32
deriving DecidableEq
def bs0 (x : UInt32) : UInt32 := rotr x 2 ^^^ rotr x 13 ^^^ rotr x 22
def bs1 (x : UInt32) : UInt32 := rotr x 6 ^^^ rotr x 11 ^^^ rotr x 25
def ss0 (x : UInt32) : UInt32 := rotr x 7 ^^^ rotr x 18 ^^^ x >>> 3
def ss1 (x : UInt32) : UInt32 := rotr x 17 ^^^ rotr x 19 ^^^ x >>> 10
def chs (e f g : UInt32) : UInt32 := (e &&& f) ^^^ (~~~e &&& g)
def maj (a b c : UInt32) : UInt32 := (a &&& b) ^^^ (a &&& c) ^^^ (b &&& c)
def rndX (k w : UInt32) (v : V) : UInt32 := v.h + bs1 v.e + chs v.e v.f v.g + k + w
def rndY (v : V) : UInt32 := bs0 v.a + maj v.a v.b v.c
def rnd (k w : UInt32) (v : V) : V := ⟨rndX k w v + rndY v, v.a, v.b, v.c, v.d + rndX k w v, v.e, v.f, v.g⟩
def rnds (kf wf : Nat → UInt32) (v : V) : Nat → V
  | 0 => v
  | t + 1 => rnd (kf t) (wf t) (rnds kf wf v t)
def addV (v u : V) : V := ⟨v.a + u.a, v.b + u.b, v.c + u.c, v.d + u.d, v.e + u.e, v.f + u.f, v.g + u.g, v.h + u.h⟩
/-- Word t of the 64, m being the first sixteen. -/
def sched (m : Nat → UInt32) (t : Nat) : UInt32 :=
  if _h : t < 16 then m t else ss1 (sched m (t - 2)) + sched m (t - 7) + ss0 (sched m (t - 15)) + sched m (t - 16)
termination_by t
theorem sched_lo (m : Nat → UInt32) (t : Nat) (h : t < 16) : sched m t = m t := by rw [sched, dif_pos h]
theorem sched_hi (m : Nat → UInt32) (t : Nat) (h : ¬ t < 16) : sched m t = ss1 (sched m (t - 2)) + sched m (t - 7) + ss0 (sched m (t - 15)) + sched m (t - 16) := by rw [sched, dif_neg h]
/-- Word t of the bytes m. -/
def word (m : Nat → UInt8) (t : Nat) : UInt32 := (m (4 * t)).toUInt32 <<< 24 ||| (m (4 * t + 1)).toUInt32 <<< 16 ||| (m (4 * t + 2)).toUInt32 <<< 8 ||| (m (4 * t + 3)).toUInt32
/-- The eight words behind the block m. -/
def mixV (kf : Nat → UInt32) (v : V) (m : Nat → UInt8) : V := addV v (rnds kf (sched (word m)) v 64)
/-- The eight words behind n blocks of m. -/
def takeV (kf : Nat → UInt32) (v : V) (m : Nat → UInt8) : Nat → V
  | 0 => v
  | n + 1 => mixV kf (takeV kf v m n) (fun j => m (64 * n + j))
theorem word_congr {m m' : Nat → UInt8} {t : Nat} (h : ∀ j, j < 4 → m (4 * t + j) = m' (4 * t + j)) : word m t = word m' t := by
  unfold word
  rw [h 1 (by omega), h 2 (by omega), h 3 (by omega)]
  have := h 0 (by omega)
  simp only [Nat.add_zero] at this
  rw [this]
theorem sched_congr {m m' : Nat → UInt32} (h : ∀ t, t < 16 → m t = m' t) (t : Nat) : sched m t = sched m' t := by
  induction t using Nat.strongRecOn with
  | _ t ih =>
    by_cases h16 : t < 16
    · rw [sched_lo _ _ h16, sched_lo _ _ h16, h t h16]
    · rw [sched_hi _ _ h16, sched_hi _ _ h16, ih (t - 2) (by omega), ih (t - 7) (by omega), ih (t - 15) (by omega), ih (t - 16) (by omega)]
theorem rnds_congr {k k' w w' : Nat → UInt32} (v : V) (n : Nat) (h : ∀ t, t < n → k t = k' t ∧ w t = w' t) : rnds k w v n = rnds k' w' v n := by
  induction n with
  | zero => rfl
  | succ n ih => rw [rnds, rnds, ih fun t ht => h t (by omega), (h n (by omega)).1, (h n (by omega)).2]
theorem mixV_congr {k k' : Nat → UInt32} (v : V) {m m' : Nat → UInt8} (hk : ∀ t, t < 64 → k t = k' t) (h : ∀ j, j < 64 → m j = m' j) : mixV k v m = mixV k' v m' := by
  unfold mixV
  rw [rnds_congr v 64 (k' := k') (w' := sched (word m')) fun t ht => ⟨hk t ht, sched_congr (fun t ht => word_congr fun j hj => h _ (by omega)) t⟩]
theorem takeV_congr {k k' : Nat → UInt32} (v : V) {m m' : Nat → UInt8} (n : Nat) (hk : ∀ t, t < 64 → k t = k' t) (h : ∀ j, j < 64 * n → m j = m' j) : takeV k v m n = takeV k' v m' n := by
  induction n with
  | zero => rfl
  | succ n ih => rw [takeV, takeV, ih fun j hj => h j (by omega), mixV_congr _ hk fun j hj => h _ (by omega)]
theorem takeV_add (k : Nat → UInt32) (v : V) (m : Nat → UInt8) (n n' : Nat) : takeV k v m (n + n') = takeV k (takeV k v m n) (fun j => m (64 * n + j)) n' := by
  induction n' with
  | zero => rfl
  | succ n' ih =>
    rw [← Nat.add_assoc, takeV, ih, takeV]
    congr 1
    funext j
    congr 1
    omega
/-- The length of the padded text. -/
def tot (n : Nat) : Nat := (n + 8) / 64 * 64 + 64
/-- The padded text. -/
def padded (l : List UInt8) (j : Nat) : UInt8 :=
  if j < l.length then l.getD j 0 else if j = l.length then 128 else if j < tot l.length - 8 then 0 else UInt8.ofNat (8 * l.length / 2 ^ (8 * (tot l.length - 1 - j)))
/-- The first bits of the cube roots' fractions. -/
def KL : List UInt32 := [
  0x428a2f98, 0x71374491, 0xb5c0fbcf, 0xe9b5dba5, 0x3956c25b, 0x59f111f1, 0x923f82a4, 0xab1c5ed5,
  0xd807aa98, 0x12835b01, 0x243185be, 0x550c7dc3, 0x72be5d74, 0x80deb1fe, 0x9bdc06a7, 0xc19bf174,
  0xe49b69c1, 0xefbe4786, 0x0fc19dc6, 0x240ca1cc, 0x2de92c6f, 0x4a7484aa, 0x5cb0a9dc, 0x76f988da,
  0x983e5152, 0xa831c66d, 0xb00327c8, 0xbf597fc7, 0xc6e00bf3, 0xd5a79147, 0x06ca6351, 0x14292967,
  0x27b70a85, 0x2e1b2138, 0x4d2c6dfc, 0x53380d13, 0x650a7354, 0x766a0abb, 0x81c2c92e, 0x92722c85,
  0xa2bfe8a1, 0xa81a664b, 0xc24b8b70, 0xc76c51a3, 0xd192e819, 0xd6990624, 0xf40e3585, 0x106aa070,
  0x19a4c116, 0x1e376c08, 0x2748774c, 0x34b0bcb5, 0x391c0cb3, 0x4ed8aa4a, 0x5b9cca4f, 0x682e6ff3,
  0x748f82ee, 0x78a5636f, 0x84c87814, 0x8cc70208, 0x90befffa, 0xa4506ceb, 0xbef9a3f7, 0xc67178f2]
def HL : List UInt32 := [0x6a09e667, 0xbb67ae85, 0x3c6ef372, 0xa54ff53a, 0x510e527f, 0x9b05688c, 0x1f83d9ab, 0x5be0cd19]
def KF (t : Nat) : UInt32 := KL.getD t 0
def H0 : V := ⟨0x6a09e667, 0xbb67ae85, 0x3c6ef372, 0xa54ff53a, 0x510e527f, 0x9b05688c, 0x1f83d9ab, 0x5be0cd19⟩
/-- The eight words of a text's sum. -/
def sumV (l : List UInt8) : V := takeV KF H0 (padded l) (tot l.length / 64)
def V.get (v : V) : Nat → UInt32
  | 0 => v.a
  | 1 => v.b
  | 2 => v.c
  | 3 => v.d
  | 4 => v.e
  | 5 => v.f
  | 6 => v.g
  | _ => v.h
/-- Byte i of the sum of eight words. -/
def byteV (v : V) (i : Nat) : UInt8 := (v.get (i / 4) >>> UInt32.ofNat (24 - i % 4 * 8)).toUInt8
/-- A text's sum. -/
def sumL (l : List UInt8) : List UInt8 := (List.range 32).map (byteV (sumV l))
theorem sumL_length (l : List UInt8) : (sumL l).length = 32 := by simp [sumL]
/-- A digit of sixteen. -/
def hexD (n : UInt8) : UInt8 := if n < 10 then 48 + n else 87 + n
/-- A text's name. -/
def nameL (l : List UInt8) : List UInt8 := (sumL l).flatMap fun c => [hexD (c / 16), hexD (c % 16)]
theorem flat2_length (f g : UInt8 → UInt8) (l : List UInt8) : (l.flatMap fun c => [f c, g c]).length = 2 * l.length := by
  induction l with
  | nil => rfl
  | cons c l ih => simp only [List.flatMap_cons, List.length_append, ih, List.length_cons, List.length_nil]; omega
theorem nameL_length (l : List UInt8) : (nameL l).length = 64 := by unfold nameL; rw [flat2_length, sumL_length]
/-- A digit. -/
def isD (c : UInt8) : Bool := (48 ≤ c && c ≤ 57) || (97 ≤ c && c ≤ 102)
/-- May the text be a name? -/
def namedB (l : List UInt8) : Bool := l.length == 64 && l.all isD
theorem u8_all {p : UInt8 → Bool} (h : ∀ n : Fin 256, p (UInt8.ofFin n) = true) (c : UInt8) : p c = true := by have := h c.toFin; simpa using this
end Go.Proofs.YtdjmcehoaneekaaDoor
