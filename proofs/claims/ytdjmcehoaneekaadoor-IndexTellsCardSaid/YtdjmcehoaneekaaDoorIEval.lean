/-
  The plain side, reckoned: the same sums by lists, each word reckoned before it goes on; three sums.
-/
import Derived.Test.YtdjmcehoaneekaaDoorDPure
import Derived.Test.YtdjmcehoaneekaaDoorIPure
namespace Go.Proofs.YtdjmcehoaneekaaDoor.Ix
open Go.Proofs.YtdjmcehoaneekaaDoor

/-- k of x, x being reckoned first. -/
def force {β : Type} (x : UInt32) (k : UInt32 → β) : β :=
  match x.toNat with
  | 0 => k 0
  | n + 1 => k (UInt32.ofNat (n + 1))
theorem force_eq {β : Type} (x : UInt32) (k : UInt32 → β) : force x k = k x := by
  unfold force
  split
  · rename_i h; rw [show x = 0 from UInt32.toNat_inj.1 (by simpa using h)]
  · rename_i n h; rw [show n + 1 = x.toNat from h.symm, UInt32.ofNat_toNat]

/-- The words so far, the newest one first. -/
def schedE (m : Nat → UInt32) : Nat → List UInt32
  | 0 => []
  | t + 1 =>
    let l := schedE m t
    if t < 16 then m t :: l else (ss1 (l.getD 1 0) + l.getD 6 0 + ss0 (l.getD 14 0) + l.getD 15 0) :: l

theorem schedE_length (m : Nat → UInt32) (t : Nat) : (schedE m t).length = t := by
  induction t with
  | zero => rfl
  | succ t ih => rw [schedE]; split <;> simp [ih]
theorem schedE_get (m : Nat → UInt32) (t i : Nat) (h : i < t) : (schedE m t).getD i 0 = sched m (t - 1 - i) := by
  induction t generalizing i with
  | zero => omega
  | succ t ih =>
    rw [schedE]
    cases i with
    | zero =>
      by_cases h16 : t < 16
      · rw [if_pos h16, show t + 1 - 1 - 0 = t by omega, sched_lo _ _ h16]; rfl
      · rw [if_neg h16, ih 1 (by omega), ih 6 (by omega), ih 14 (by omega), ih 15 (by omega), show t + 1 - 1 - 0 = t by omega, sched_hi _ _ h16,
          show t - 1 - 1 = t - 2 by omega, show t - 1 - 6 = t - 7 by omega, show t - 1 - 14 = t - 15 by omega, show t - 1 - 15 = t - 16 by omega]
        rfl
    | succ i =>
      have e : ∀ x : UInt32, (x :: schedE m t).getD (i + 1) 0 = (schedE m t).getD i 0 := fun _ => rfl
      have e2 : t + 1 - 1 - (i + 1) = t - 1 - i := by omega
      split <;> rw [e, ih i (by omega), e2]

/-- All words, reckoned: n more behind l. -/
def growE : Nat → List UInt32 → List UInt32
  | 0, l => l
  | n + 1, l => force (ss1 (l.getD 1 0) + l.getD 6 0 + ss0 (l.getD 14 0) + l.getD 15 0) fun x => growE n (x :: l)
theorem growE_eq (m : Nat → UInt32) (n t : Nat) (h : 16 ≤ t) : growE n (schedE m t) = schedE m (t + n) := by
  induction n generalizing t with
  | zero => rfl
  | succ n ih =>
    rw [growE, force_eq]
    have : (ss1 ((schedE m t).getD 1 0) + (schedE m t).getD 6 0 + ss0 ((schedE m t).getD 14 0) + (schedE m t).getD 15 0) :: schedE m t = schedE m (t + 1) := by
      rw [schedE, if_neg (by omega)]
    rw [this, ih (t + 1) (by omega)]
    congr 1; omega

/-- The rounds, reckoned: the words that are left, the oldest first. -/
def rndsE : List UInt32 → List UInt32 → V → V
  | k :: ks, w :: ws, v => force (rndX k w v + rndY v) fun a => force (v.d + rndX k w v) fun e => rndsE ks ws ⟨a, v.a, v.b, v.c, e, v.e, v.f, v.g⟩
  | _, _, v => v
theorem rndsE_eq (kf wf : Nat → UInt32) (v : V) (n : Nat) (ks ws : List UInt32) (t : Nat) (hk : ks.length = n) (hw : ws.length = n)
    (ek : ∀ i, i < n → ks.getD i 0 = kf (t + i)) (ew : ∀ i, i < n → ws.getD i 0 = wf (t + i)) : rndsE ks ws (rnds kf wf v t) = rnds kf wf v (t + n) := by
  induction n generalizing ks ws t with
  | zero =>
    cases ks with
    | nil => rfl
    | cons => simp at hk
  | succ n ih =>
    cases ks with
    | nil => simp at hk
    | cons k ks =>
      cases ws with
      | nil => simp at hw
      | cons w ws =>
        have k0 := ek 0 (by omega)
        have w0 := ew 0 (by omega)
        simp only [List.getD_cons_zero, Nat.add_zero] at k0 w0
        rw [rndsE, force_eq, force_eq]
        have : (⟨rndX k w (rnds kf wf v t) + rndY (rnds kf wf v t), (rnds kf wf v t).a, (rnds kf wf v t).b, (rnds kf wf v t).c, (rnds kf wf v t).d + rndX k w (rnds kf wf v t), (rnds kf wf v t).e, (rnds kf wf v t).f, (rnds kf wf v t).g⟩ : V) = rnds kf wf v (t + 1) := by
          rw [rnds, rnd, k0, w0]
        rw [this, ih ks ws (t + 1) (by simpa using hk) (by simpa using hw) (fun i hi => by have := ek (i + 1) (by omega); rw [show t + 1 + i = t + (i + 1) by omega, ← this]; rfl) (fun i hi => by have := ew (i + 1) (by omega); rw [show t + 1 + i = t + (i + 1) by omega, ← this]; rfl)]
        congr 1; omega

def forceAll {β : Type} : List UInt32 → (List UInt32 → β) → β
  | [], k => k []
  | x :: l, k => force x fun y => forceAll l fun l' => k (y :: l')
theorem forceAll_eq {β : Type} (l : List UInt32) (k : List UInt32 → β) : forceAll l k = k l := by
  induction l generalizing k with
  | nil => rfl
  | cons x l ih => rw [forceAll, force_eq, ih]

def mixE (v : V) (m : Nat → UInt8) : V := addV v (forceAll (schedE (word m) 16) fun l => rndsE KL (growE 48 l).reverse v)

theorem KF_get (t : Nat) : KL.getD t 0 = KF t := rfl
theorem rev_get (l : List UInt32) (i : Nat) (h : i < l.length) : l.reverse.getD i 0 = l.getD (l.length - 1 - i) 0 := by
  rw [List.getD_eq_getElem?_getD, List.getD_eq_getElem?_getD, List.getElem?_reverse h]
theorem mixE_eq (v : V) (m : Nat → UInt8) : mixE v m = mixV KF v m := by
  unfold mixE mixV
  rw [forceAll_eq, growE_eq _ _ _ (Nat.le_refl _)]
  have hl : (schedE (word m) (16 + 48)).length = 64 := schedE_length _ _
  congr 1
  exact rndsE_eq KF (sched (word m)) v 64 KL _ 0 rfl (by rw [List.length_reverse, hl]) (fun i hi => by rw [Nat.zero_add]; rfl) (fun i hi => by
    rw [rev_get _ _ (by rw [hl]; exact hi), hl, schedE_get _ _ _ (by omega), Nat.zero_add]
    congr 1; omega)

theorem sum_a : sumV [97] = ⟨0xca978112, 0xca1bbdca, 0xfac231b3, 0x9a23dc4d, 0xa786eff8, 0x147c4e72, 0xb9807785, 0xafee48bb⟩ := by
  have h : sumV [97] = mixE H0 (fun j => padded [97] (64 * 0 + j)) := by
    rw [mixE_eq]; rfl
  rw [h]
  decide +kernel
theorem sum_b : sumV [98] = ⟨0x3e23e816, 0x0039594a, 0x33894f65, 0x64e1b134, 0x8bbd7a00, 0x88d42c4a, 0xcb73eeae, 0xd59c009d⟩ := by
  have h : sumV [98] = mixE H0 (fun j => padded [98] (64 * 0 + j)) := by
    rw [mixE_eq]; rfl
  rw [h]
  decide +kernel
theorem sum_0 : sumV [] = ⟨0xe3b0c442, 0x98fc1c14, 0x9afbf4c8, 0x996fb924, 0x27ae41e4, 0x649b934c, 0xa495991b, 0x7852b855⟩ := by
  have h : sumV [] = mixE H0 (fun j => padded [] (64 * 0 + j)) := by
    rw [mixE_eq]; rfl
  rw [h]
  decide +kernel
theorem name_hex (l : List UInt8) : nameL l = hexL (sumL l) := rfl
theorem names_apart {l m : List UInt8} (h2 : ((sumV l).a >>> 24).toUInt8 ≠ ((sumV m).a >>> 24).toUInt8) : nameL l ≠ nameL m := fun e => by
  rw [name_hex, name_hex] at e
  have e2 : sumL l = sumL m := by rw [← raw_hex _ (sumL_length l), e, raw_hex _ (sumL_length m)]
  have e3 : (sumL l).getD 0 0 = (sumL m).getD 0 0 := by rw [e2]
  exact h2 e3
theorem nab : nameL [97] ≠ nameL [98] := names_apart (by rw [sum_a, sum_b]; decide)
theorem na0 : nameL [] ≠ nameL [97] := names_apart (by rw [sum_a, sum_0]; decide)
theorem nb0 : nameL [] ≠ nameL [98] := names_apart (by rw [sum_b, sum_0]; decide)
end Go.Proofs.YtdjmcehoaneekaaDoor.Ix
