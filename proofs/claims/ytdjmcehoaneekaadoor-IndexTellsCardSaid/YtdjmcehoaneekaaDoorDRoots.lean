/-
  The plain side of roots.
-/
import Derived.Test.YtdjmcehoaneekaaDoorDPure
import Derived.Lib.BitFns
namespace Go.Proofs.YtdjmcehoaneekaaDoor
def shl64 (x : UInt64) (s : Nat) : UInt64 := UInt64.ofNat (x.toNat * 2 ^ s)
def shr64 (x : UInt64) (s : Nat) : UInt64 := UInt64.ofNat (x.toNat / 2 ^ s)
def mulHi (x y : UInt64) : UInt64 := UInt64.ofNat (x.toNat * y.toNat / 18446744073709551616)
structure Two where
  hi : UInt64
  lo : UInt64
deriving DecidableEq
def Two.times (n : Two) (m : UInt64) : Two := ⟨n.hi * m + mulHi n.lo m, n.lo * m⟩
def Two.pow (r : UInt64) : Nat → Two
  | 0 => ⟨0, r⟩
  | j + 1 => (Two.pow r j).times r
def Two.down (n : Two) (b : Nat) : UInt64 := shl64 n.hi (64 - b) ||| shr64 n.lo b
/-- One round's test. -/
def corrB (yn0 un q rhat : UInt64) : Bool := decide (4294967296 ≤ q.toNat) || decide ((4294967296 * rhat + un).toNat < (q * yn0).toNat)
def corr (yn1 yn0 un : UInt64) : Nat → UInt64 → UInt64 → UInt64
  | 0, q, _ => q
  | n + 1, q, rhat => if corrB yn0 un q rhat then (if 4294967296 ≤ (rhat + yn1).toNat then q - 1 else corr yn1 yn0 un n (q - 1) (rhat + yn1)) else q
def corrOk (yn1 yn0 un : UInt64) : Nat → UInt64 → UInt64 → Bool
  | 0, _, _ => false
  | n + 1, q, rhat => if corrB yn0 un q rhat then (if 4294967296 ≤ (rhat + yn1).toNat then true else corrOk yn1 yn0 un n (q - 1) (rhat + yn1)) else true
/-- What Div64 reckons with. -/
structure Div where
  s : Nat
  y : UInt64
  yn1 : UInt64
  yn0 : UInt64
  un32 : UInt64
  un1 : UInt64
  un0 : UInt64
def divOf (hi lo y : UInt64) (s : Nat) : Div :=
  ⟨s, shl64 y s, shr64 (shl64 y s) 32, shl64 y s &&& 4294967295, shl64 hi s ||| shr64 lo (64 - s), shr64 (shl64 lo s) 32, shl64 lo s &&& 4294967295⟩
def Div.q1 (d : Div) : UInt64 := corr d.yn1 d.yn0 d.un1 3 (d.un32 / d.yn1) (d.un32 - d.un32 / d.yn1 * d.yn1)
def Div.un21 (d : Div) : UInt64 := d.un32 * 4294967296 + d.un1 - d.q1 * d.y
def Div.q0 (d : Div) : UInt64 := corr d.yn1 d.yn0 d.un0 3 (d.un21 / d.yn1) (d.un21 - d.un21 / d.yn1 * d.yn1)
def Div.quo (d : Div) : UInt64 := d.q1 * 4294967296 + d.q0
def Div.ok (d : Div) : Bool := decide (0 < d.yn1.toNat) && decide (d.yn1.toNat < 4294967296) && corrOk d.yn1 d.yn0 d.un1 3 (d.un32 / d.yn1) (d.un32 - d.un32 / d.yn1 * d.yn1)
  && corrOk d.yn1 d.yn0 d.un0 3 (d.un21 / d.yn1) (d.un21 - d.un21 / d.yn1 * d.yn1)
/-- The number of bits. -/
def lenN (n : Nat) : Nat := Go.Lib.bitLen n
def nearM (r : UInt64) (k : Nat) : UInt64 := (Two.pow r (k - 1)).down (32 * k - 51)
def nearS (r p : UInt64) (k : Nat) : UInt64 := (UInt64.ofNat k - 1) * nearM r k + (UInt64.ofNat k + 1) * shl64 p 51
def nearY (r p : UInt64) (k : Nat) : UInt64 := (UInt64.ofNat k + 1) * nearM r k + (UInt64.ofNat k - 1) * shl64 p 51
def nearD (r p : UInt64) (k : Nat) : Div := divOf (mulHi (nearS r p k) r) (nearS r p k * r) (nearY r p k) (64 - lenN (nearY r p k).toNat)
def nearer (r p : UInt64) (k : Nat) : UInt64 := (nearD r p k).quo
def nearOk (r p : UInt64) (k : Nat) : Bool :=
  (nearD r p k).ok && decide (0 < (mulHi (nearS r p k) r).toNat) && decide ((mulHi (nearS r p k) r).toNat < (nearY r p k).toNat) && decide (1 ≤ lenN (nearY r p k).toNat)
def rootN (p near : UInt64) (k : Nat) : Nat → UInt64
  | 0 => near
  | j + 1 => nearer (rootN p near k j) p k
def primesL : List Nat := [
  2, 3, 5, 7, 11, 13, 17, 19, 23, 29, 31, 37, 41, 43, 47, 53,
  59, 61, 67, 71, 73, 79, 83, 89, 97, 101, 103, 107, 109, 113, 127, 131,
  137, 139, 149, 151, 157, 163, 167, 173, 179, 181, 191, 193, 197, 199, 211, 223,
  227, 229, 233, 239, 241, 251, 257, 263, 269, 271, 277, 281, 283, 293, 307, 311]
def primeN (i : Nat) : Nat := primesL.getD i 0
/-- The roots so far. -/
def rootsR (k : Nat) : Nat → UInt64
  | 0 => 4294967296
  | i + 1 => rootN (UInt64.ofNat (primeN i)) (rootsR k i) k 3
/-- The roots, reckoned one by one: what is held at each step is a number, and each step is looked at. -/
def forceN {β : Type} (x : UInt64) (f : UInt64 → β) : β :=
  match x.toNat with
  | 0 => f 0
  | n + 1 => f (UInt64.ofNat (n + 1))
theorem forceN_eq {β : Type} (x : UInt64) (f : UInt64 → β) : forceN x f = f x := by
  unfold forceN
  split
  · rename_i h; rw [show x = 0 from UInt64.toNat_inj.1 (by simpa using h)]
  · rename_i n h; rw [show n + 1 = x.toNat from h.symm, UInt64.ofNat_toNat]
def stepE (p : Nat) (k : Nat) (near : UInt64) : Bool × UInt64 :=
  forceN (nearer near (UInt64.ofNat p) k) fun r1 => forceN (nearer r1 (UInt64.ofNat p) k) fun r2 => forceN (nearer r2 (UInt64.ofNat p) k) fun r3 =>
    (nearOk near (UInt64.ofNat p) k && nearOk r1 (UInt64.ofNat p) k && nearOk r2 (UInt64.ofNat p) k, r3)
def rootsK (st : Bool × UInt64) (t : UInt32) (f : UInt64 → Bool) : Bool := st.1 && decide (st.2.toUInt32 = t) && f st.2
def rootsE (k : Nat) : List Nat → UInt64 → List UInt32 → Bool
  | [], _, _ => true
  | p :: ps, near, L => rootsK (stepE p k near) (L.headD 0) fun r => rootsE k ps r L.tail
theorem rootsE_eq (k p : Nat) (ps : List Nat) (near : UInt64) (t : UInt32) (ts : List UInt32) : rootsE k (p :: ps) near (t :: ts) = rootsK (stepE p k near) t fun r => rootsE k ps r ts := rfl
theorem eight : rootsE 2 (primesL.take 8) 4294967296 HL = true := by decide +kernel
theorem sixtyfour : rootsE 3 primesL 4294967296 KL = true := by decide +kernel
theorem stepE_eq (p k : Nat) (near : UInt64) : stepE p k near = (nearOk near (UInt64.ofNat p) k && nearOk (rootN (UInt64.ofNat p) near k 1) (UInt64.ofNat p) k && nearOk (rootN (UInt64.ofNat p) near k 2) (UInt64.ofNat p) k, rootN (UInt64.ofNat p) near k 3) := by
  unfold stepE
  simp only [forceN_eq]
  rfl
theorem rootsK_spec {st : Bool × UInt64} {t : UInt32} {f : UInt64 → Bool} (h : rootsK st t f = true) : st.1 = true ∧ st.2.toUInt32 = t ∧ f st.2 = true := by
  unfold rootsK at h
  rw [Bool.and_eq_true, Bool.and_eq_true] at h
  exact ⟨h.1.1, of_decide_eq_true h.1.2, h.2⟩
def okAll (p k : Nat) (near : UInt64) : Prop := ∀ j, j < 3 → nearOk (rootN (UInt64.ofNat p) near k j) (UInt64.ofNat p) k = true
theorem okAll_of {p k : Nat} {near : UInt64} (h : (nearOk near (UInt64.ofNat p) k && nearOk (rootN (UInt64.ofNat p) near k 1) (UInt64.ofNat p) k && nearOk (rootN (UInt64.ofNat p) near k 2) (UInt64.ofNat p) k) = true) : okAll p k near := by
  rw [Bool.and_eq_true, Bool.and_eq_true] at h
  obtain ⟨⟨k0, k1⟩, k2⟩ := h
  intro j hj
  match j, hj with
  | 0, _ => exact k0
  | 1, _ => exact k1
  | 2, _ => exact k2
theorem rootsE_cons {k p : Nat} {ps : List Nat} {near : UInt64} {t : UInt32} {ts : List UInt32} (h : rootsE k (p :: ps) near (t :: ts) = true) :
    okAll p k near ∧ (rootN (UInt64.ofNat p) near k 3).toUInt32 = t ∧ rootsE k ps (rootN (UInt64.ofNat p) near k 3) ts = true := by
  rw [rootsE_eq] at h
  obtain ⟨h1, h2, h3⟩ := rootsK_spec h
  rw [stepE_eq] at h1 h2 h3
  exact ⟨okAll_of h1, h2, h3⟩
theorem rootsE_at {k : Nat} {ps : List Nat} {L : List UInt32} (h : rootsE k ps 4294967296 L = true) (hl : L.length = ps.length) (hp : ∀ i, i < ps.length → ps[i]? = some (primeN i)) :
    ∀ i, i ≤ ps.length → rootsE k (ps.drop i) (rootsR k i) (L.drop i) = true := by
  intro i
  induction i with
  | zero => intro _; exact h
  | succ i ih =>
    intro hi
    have h1 := ih (by omega)
    have e1 : ps.drop i = primeN i :: ps.drop (i + 1) := by
      have := hp i (by omega)
      rw [List.getElem?_eq_getElem (by omega)] at this
      rw [List.drop_eq_getElem_cons (by omega), Option.some.inj this]
    have e2 : L.drop i = L[i]'(by omega) :: L.drop (i + 1) := List.drop_eq_getElem_cons (by omega)
    rw [e1, e2] at h1
    exact (rootsE_cons h1).2.2
theorem rootsE_get {k : Nat} {ps : List Nat} {L : List UInt32} (h : rootsE k ps 4294967296 L = true) (hl : L.length = ps.length) (hp : ∀ i, i < ps.length → ps[i]? = some (primeN i))
    (i : Nat) (hi : i < ps.length) : okAll (primeN i) k (rootsR k i) ∧ (rootsR k (i + 1)).toUInt32 = L.getD i 0 := by
  have h1 := rootsE_at h hl hp i (by omega)
  have e1 : ps.drop i = primeN i :: ps.drop (i + 1) := by
    have := hp i (by omega)
    rw [List.getElem?_eq_getElem (by omega)] at this
    rw [List.drop_eq_getElem_cons (by omega), Option.some.inj this]
  have e2 : L.drop i = L[i]'(by omega) :: L.drop (i + 1) := List.drop_eq_getElem_cons (by omega)
  rw [e1, e2] at h1
  have h2 := rootsE_cons h1
  refine ⟨h2.1, ?_⟩
  rw [List.getD_eq_getElem?_getD, List.getElem?_eq_getElem (by omega)]
  exact h2.2.1
/-- All that the rounds' numbers owe. -/
theorem roots3 (i : Nat) (hi : i < 64) : okAll (primeN i) 3 (rootsR 3 i) ∧ (rootsR 3 (i + 1)).toUInt32 = KF i :=
  rootsE_get sixtyfour rfl (fun i hi => by
    unfold primeN; rw [List.getD_eq_getElem?_getD, List.getElem?_eq_getElem hi]; rfl) i hi
theorem HL_get : ∀ i, i < 8 → HL.getD i 0 = H0.get i := by decide +kernel
theorem take8 : ∀ i, i < 8 → (primesL.take 8)[i]? = some (primeN i) := by decide +kernel
theorem roots2 (i : Nat) (hi : i < 8) : okAll (primeN i) 2 (rootsR 2 i) ∧ (rootsR 2 (i + 1)).toUInt32 = H0.get i := by
  have h := rootsE_get eight (by decide) (fun i hi => take8 i hi) i hi
  exact ⟨h.1, h.2.trans (HL_get i hi)⟩
end Go.Proofs.YtdjmcehoaneekaaDoor
