/-
  The index, plain: names and what their digits say; rows; what is written, read, found.
-/
import Derived.Test.YtdjmcehoaneekaaDoorDPure
import Derived.Lib.Bytealg
namespace Go.Proofs.YtdjmcehoaneekaaDoor.Ix
open Go.Proofs.YtdjmcehoaneekaaDoor

abbrev Bs := List UInt8

/-! ### Names and sums -/
def valD (c : UInt8) : UInt8 := if c ≤ 57 then c - 48 else c - 87
/-- What a name's digits say. -/
def rawL (id : Bs) : Bs := (List.range 32).map fun i => valD (id.getD (2 * i) 0) <<< 4 ||| valD (id.getD (2 * i + 1) 0)
/-- The digits of bytes. -/
def hexL (s : Bs) : Bs := s.flatMap fun c => [hexD (c / 16), hexD (c % 16)]
theorem rawL_len (id : Bs) : (rawL id).length = 32 := by simp [rawL]
theorem hexL_len (s : Bs) : (hexL s).length = 2 * s.length := flat2_length _ _ s
theorem hexL_get : ∀ (s : Bs) (i : Nat), i < s.length → (hexL s).getD (2 * i) 0 = hexD (s.getD i 0 / 16) ∧ (hexL s).getD (2 * i + 1) 0 = hexD (s.getD i 0 % 16)
  | [], i, h => absurd h (Nat.not_lt_zero _)
  | c :: s, 0, _ => ⟨rfl, rfl⟩
  | c :: s, i + 1, h => hexL_get s i (by simpa using h)
theorem val_hex (b : UInt8) : valD (hexD (b / 16)) <<< 4 ||| valD (hexD (b % 16)) = b := by
  have h : (valD (hexD (b / 16)) <<< 4 ||| valD (hexD (b % 16)) == b) = true := u8_all (p := fun b => valD (hexD (b / 16)) <<< 4 ||| valD (hexD (b % 16)) == b) (by decide +kernel) b
  simpa using h
theorem isD_hexd (b : UInt8) : isD (hexD (b / 16)) = true ∧ isD (hexD (b % 16)) = true := by
  have h : (isD (hexD (b / 16)) && isD (hexD (b % 16))) = true := u8_all (p := fun b => isD (hexD (b / 16)) && isD (hexD (b % 16))) (by decide +kernel) b
  simpa using h
theorem ext_getD {a b : Bs} (hl : a.length = b.length) (h : ∀ i, i < a.length → a.getD i 0 = b.getD i 0) : a = b := by
  apply List.ext_getElem hl
  intro i h1 h2
  have := h i h1
  rw [List.getD_eq_getElem?_getD, List.getD_eq_getElem?_getD, List.getElem?_eq_getElem h1, List.getElem?_eq_getElem h2] at this
  exact this
theorem raw_get (id : Bs) (i : Nat) (h : i < 32) : (rawL id).getD i 0 = valD (id.getD (2 * i) 0) <<< 4 ||| valD (id.getD (2 * i + 1) 0) := by
  unfold rawL
  rw [List.getD_eq_getElem?_getD, List.getElem?_map, List.getElem?_range h]; rfl
theorem raw_hex (s : Bs) (h : s.length = 32) : rawL (hexL s) = s := by
  apply ext_getD (by rw [rawL_len, h])
  intro i hi
  rw [rawL_len] at hi
  obtain ⟨h1, h2⟩ := hexL_get s i (by omega)
  rw [raw_get _ _ hi, h1, h2, val_hex]
/-- The sixteen digits. -/
theorem isD_all {p : UInt8 → Bool} (h : ∀ n : Fin 16, p (hexD (UInt8.ofNat n.val)) = true) (c : UInt8) (hc : isD c = true) : p c = true := by
  have key : ∀ c, (!isD c || (hexD (valD c) == c && decide (valD c < 16))) = true := u8_all (by decide +kernel)
  have hk := key c
  rw [hc] at hk
  simp only [Bool.not_true, Bool.false_or, Bool.and_eq_true, beq_iff_eq, decide_eq_true_eq] at hk
  have hv : (valD c).toNat < 16 := by have := hk.2; rw [UInt8.lt_iff_toNat_lt] at this; exact this
  have := h ⟨(valD c).toNat, hv⟩
  simp only [UInt8.ofNat_toNat] at this
  rw [hk.1] at this; exact this
theorem hex_val (c d : UInt8) (hc : isD c = true) (hd : isD d = true) : hexD ((valD c <<< 4 ||| valD d) / 16) = c ∧ hexD ((valD c <<< 4 ||| valD d) % 16) = d := by
  have h2 : ∀ n m : Fin 16, (hexD ((valD (hexD (UInt8.ofNat n.val)) <<< 4 ||| valD (hexD (UInt8.ofNat m.val))) / 16) == hexD (UInt8.ofNat n.val) && hexD ((valD (hexD (UInt8.ofNat n.val)) <<< 4 ||| valD (hexD (UInt8.ofNat m.val))) % 16) == hexD (UInt8.ofNat m.val)) = true := by decide +kernel
  have h : (hexD ((valD c <<< 4 ||| valD d) / 16) == c && hexD ((valD c <<< 4 ||| valD d) % 16) == d) = true :=
    isD_all (p := fun c => hexD ((valD c <<< 4 ||| valD d) / 16) == c && hexD ((valD c <<< 4 ||| valD d) % 16) == d)
      (fun n => isD_all (p := fun d => hexD ((valD (hexD (UInt8.ofNat n.val)) <<< 4 ||| valD d) / 16) == hexD (UInt8.ofNat n.val) && hexD ((valD (hexD (UInt8.ofNat n.val)) <<< 4 ||| valD d) % 16) == d) (h2 n) d hd) c hc
  simpa using h
theorem named_len {id : Bs} (h : namedB id = true) : id.length = 64 := by unfold namedB at h; simp at h; exact h.1
theorem named_get {id : Bs} (h : namedB id = true) (i : Nat) (hi : i < 64) : isD (id.getD i 0) = true := by
  have hl := named_len h
  unfold namedB at h
  rw [Bool.and_eq_true] at h
  rw [List.getD_eq_getElem?_getD, List.getElem?_eq_getElem (by omega)]
  exact List.all_eq_true.1 h.2 _ (List.getElem_mem _)
theorem hex_raw {id : Bs} (h : namedB id = true) : hexL (rawL id) = id := by
  have hl := named_len h
  apply ext_getD (by rw [hexL_len, rawL_len, hl])
  intro i hi
  rw [hexL_len, rawL_len] at hi
  obtain ⟨h1, h2⟩ := hexL_get (rawL id) (i / 2) (by rw [rawL_len]; omega)
  rw [raw_get _ _ (by omega)] at h1 h2
  obtain ⟨h3, h4⟩ := hex_val _ _ (named_get h (2 * (i / 2)) (by omega)) (named_get h (2 * (i / 2) + 1) (by omega))
  rcases Nat.mod_two_eq_zero_or_one i with h0 | h0
  · rw [show 2 * (i / 2) = i by omega] at h1 h3
    rw [h1, h3]
  · rw [show 2 * (i / 2) + 1 = i by omega] at h2 h4
    rw [h2, h4]
theorem named_hex (s : Bs) (h : s.length = 32) : namedB (hexL s) = true := by
  unfold namedB
  rw [hexL_len, h]
  simp only [Nat.reduceMul, beq_self_eq_true, Bool.true_and]
  unfold hexL
  clear h
  induction s with
  | nil => rfl
  | cons c s ih => simp only [List.flatMap_cons, List.all_append, ih, List.all_cons, List.all_nil, (isD_hexd c).1, (isD_hexd c).2, Bool.and_true]
theorem raw_inj {a b : Bs} (ha : namedB a = true) (hb : namedB b = true) (h : rawL a = rawL b) : a = b := by rw [← hex_raw ha, ← hex_raw hb, h]
theorem hexD_lt (a b : UInt8) (ha : a < 16) (hb : b < 16) : hexD a < hexD b ↔ a < b := by
  have h2 : ∀ n m : Fin 16, (decide (hexD (UInt8.ofNat n.val) < hexD (UInt8.ofNat m.val)) == decide (UInt8.ofNat n.val < UInt8.ofNat m.val)) = true := by decide +kernel
  have := h2 ⟨a.toNat, by rw [UInt8.lt_iff_toNat_lt] at ha; exact ha⟩ ⟨b.toNat, by rw [UInt8.lt_iff_toNat_lt] at hb; exact hb⟩
  simpa using this
theorem hexD_inj (a b : UInt8) (ha : a < 16) (hb : b < 16) : hexD a = hexD b ↔ a = b := by
  have h2 : ∀ n m : Fin 16, (decide (hexD (UInt8.ofNat n.val) = hexD (UInt8.ofNat m.val)) == decide (UInt8.ofNat n.val = UInt8.ofNat m.val)) = true := by decide +kernel
  have := h2 ⟨a.toNat, by rw [UInt8.lt_iff_toNat_lt] at ha; exact ha⟩ ⟨b.toNat, by rw [UInt8.lt_iff_toNat_lt] at hb; exact hb⟩
  simpa using this
theorem div16 (c : UInt8) : c / 16 < 16 ∧ c % 16 < 16 := by
  rw [UInt8.lt_iff_toNat_lt, UInt8.lt_iff_toNat_lt, UInt8.toNat_div, UInt8.toNat_mod]
  have := c.toNat_lt
  exact ⟨by show c.toNat / 16 < 16; omega, by show c.toNat % 16 < 16; omega⟩
/-- Names stand as their sums do. -/
theorem hex_lt : ∀ (s t : Bs), hexL s < hexL t ↔ s < t
  | [], [] => by simp [hexL]
  | [], d :: t => by simp [hexL]
  | c :: s, [] => by simp [hexL]
  | c :: s, d :: t => by
    have ih := hex_lt s t
    unfold hexL at ih ⊢
    simp only [List.flatMap_cons, List.cons_append, List.nil_append, List.cons_lt_cons_iff, ih]
    rw [hexD_lt _ _ (div16 c).1 (div16 d).1, hexD_lt _ _ (div16 c).2 (div16 d).2, hexD_inj _ _ (div16 c).1 (div16 d).1, hexD_inj _ _ (div16 c).2 (div16 d).2]
    simp only [UInt8.lt_iff_toNat_lt, ← UInt8.toNat_inj, UInt8.toNat_div, UInt8.toNat_mod]
    have e16 : (16 : UInt8).toNat = 16 := rfl
    rw [e16]
    generalize (s < t) = q
    constructor
    · rintro (h | ⟨h, h2 | ⟨h2, hq⟩⟩)
      · left; omega
      · left; omega
      · right; exact ⟨by omega, hq⟩
    · rintro (h | ⟨h, hq⟩)
      · by_cases h3 : c.toNat / 16 < d.toNat / 16
        · exact .inl h3
        · exact .inr ⟨by omega, .inl (by omega)⟩
      · exact .inr ⟨by omega, .inr ⟨by omega, hq⟩⟩

/-! ### Rows -/
structure Rw where
  sum : Bs
  place : Nat
deriving DecidableEq, Inhabited

def num2 (n : Nat) : Bs := [UInt8.ofNat (n / 256), UInt8.ofNat n]
/-- How many begin with c or a lesser byte. -/
def upToN (rows : List Rw) (c : Nat) : Nat := rows.countP fun r => decide ((r.sum.getD 0 0).toNat ≤ c)
def headL (rows : List Rw) : Bs := (List.range 256).flatMap fun c => num2 (upToN rows c)
def rowB (r : Rw) : Bs := r.sum ++ num2 r.place
def bodyL (rows : List Rw) : Bs := rows.flatMap rowB
def tblL (rows : List Rw) : Bs := headL rows ++ bodyL rows
def indexL (rows : List Rw) : Bs := tblL rows ++ sumL (tblL rows)

theorem flat_len {β : Type} (f : β → Bs) (k : Nat) (l : List β) (h : ∀ x ∈ l, (f x).length = k) : (l.flatMap f).length = l.length * k := by
  induction l with
  | nil => simp
  | cons x l ih =>
    rw [List.flatMap_cons, List.length_append, h x (List.mem_cons.2 (.inl rfl)), ih fun y hy => h y (List.mem_cons.2 (.inr hy)), List.length_cons, Nat.add_mul]; omega
theorem flat_drop {β : Type} (f : β → Bs) (k : Nat) : ∀ (l : List β) (i : Nat), (∀ x ∈ l, (f x).length = k) → (l.flatMap f).drop (i * k) = (l.drop i).flatMap f
  | l, 0, _ => by simp
  | [], i + 1, _ => by simp
  | x :: l, i + 1, h => by
    rw [List.flatMap_cons, List.drop_succ_cons, ← flat_drop f k l i fun y hy => h y (List.mem_cons.2 (.inr hy))]
    have hx := h x (List.mem_cons.2 (.inl rfl))
    rw [Nat.add_mul, Nat.one_mul, Nat.add_comm, ← hx, List.drop_append, List.drop_of_length_le (by omega), List.nil_append, show (f x).length + i * (f x).length - (f x).length = i * (f x).length by omega]
theorem flat_at {β : Type} (f : β → Bs) (k : Nat) (l : List β) (i : Nat) (x : β) (h : ∀ x ∈ l, (f x).length = k) (hi : l[i]? = some x) : ((l.flatMap f).drop (i * k)).take k = f x := by
  obtain ⟨hlt, e⟩ := List.getElem?_eq_some_iff.1 hi
  rw [flat_drop f k l i h, List.drop_eq_getElem_cons hlt, e, List.flatMap_cons, ← h x (e ▸ List.getElem_mem hlt), List.take_left]

theorem num2_len (n : Nat) : (num2 n).length = 2 := rfl
theorem headL_len (rows : List Rw) : (headL rows).length = 512 := by unfold headL; rw [flat_len _ 2 _ fun _ _ => rfl, List.length_range]
def Fit (rows : List Rw) : Prop := ∀ r ∈ rows, r.sum.length = 32
theorem rowB_len {r : Rw} (h : r.sum.length = 32) : (rowB r).length = 34 := by unfold rowB; rw [List.length_append, h]; rfl
theorem bodyL_len {rows : List Rw} (h : Fit rows) : (bodyL rows).length = rows.length * 34 := flat_len _ 34 _ fun r hr => rowB_len (h r hr)
theorem tblL_len {rows : List Rw} (h : Fit rows) : (tblL rows).length = 512 + rows.length * 34 := by unfold tblL; rw [List.length_append, headL_len, bodyL_len h]
theorem indexL_len {rows : List Rw} (h : Fit rows) : (indexL rows).length = 544 + rows.length * 34 := by unfold indexL; rw [List.length_append, tblL_len h, sumL_length]; omega

def unnum (b : Bs) : Nat := (b.getD 0 0).toNat * 256 + (b.getD 1 0).toNat
theorem unnum_num2 (n : Nat) (m : Bs) (h : n < 65536) : unnum (num2 n ++ m) = n := by
  unfold unnum num2
  simp only [List.cons_append, List.nil_append, List.getD_cons_zero, List.getD_cons_succ, UInt8.toNat_ofNat']
  omega
theorem num2_unnum (a b : UInt8) : num2 (a.toNat * 256 + b.toNat) = [a, b] := by
  have h1 := a.toNat_lt; have h2 := b.toNat_lt
  unfold num2
  congr 1
  · apply UInt8.toNat_inj.1; rw [UInt8.toNat_ofNat']; omega
  · congr 1; apply UInt8.toNat_inj.1; rw [UInt8.toNat_ofNat']; omega

/-- The row that stands at place i. -/
def rowAt (b : Bs) (i : Nat) : Rw := ⟨(b.drop (512 + i * 34)).take 32, unnum (b.drop (512 + i * 34 + 32))⟩
/-- The rows of bytes, if these are as long as an index may be. -/
def rowsL (b : Bs) : Option (List Rw) :=
  if 544 ≤ b.length ∧ (b.length - 544) % 34 = 0 ∧ (b.length - 544) / 34 ≤ 512 then some ((List.range ((b.length - 544) / 34)).map (rowAt b)) else none

/-- Do names, sums rise? -/
def risesB : List Bs → Bool
  | a :: b :: l => decide (a < b) && risesB (b :: l)
  | _ => true
def placedB (rows : List Rw) : Bool := rows.all (fun r => decide (r.place < rows.length)) && decide (rows.map Rw.place).Nodup
def sumsOf (rows : List Rw) : List Bs := rows.map Rw.sum
/-- What bytes are the index of. -/
def readI (b : Bs) : Option (List Rw) :=
  match rowsL b with
  | some rows => if placedB rows = true ∧ risesB (sumsOf rows) = true ∧ indexL rows = b then some rows else none
  | none => none
def findI (rows : List Rw) (s : Bs) : Option Nat := (rows.find? fun r => r.sum == s).map Rw.place

theorem lt_trans_bs {a b c : Bs} (h1 : a < b) (h2 : b < c) : a < c := List.lt_trans h1 h2
theorem lt_irrefl_bs (a : Bs) : ¬ a < a := List.lt_irrefl a
theorem lt_asymm_bs {a b : Bs} (h : a < b) : ¬ b < a := fun h' => lt_irrefl_bs a (lt_trans_bs h h')
theorem lt_total_bs {a b : Bs} (h : ¬ a < b) (h2 : a ≠ b) : b < a := by
  refine Decidable.byContradiction fun h3 => h2 ?_
  exact List.le_antisymm (List.not_lt.1 h3) (List.not_lt.1 h)
theorem nodup_of_map {α β : Type} (f : α → β) {l : List α} (h : (l.map f).Nodup) : l.Nodup := (List.pairwise_map.1 h).imp fun hne e => hne (congrArg f e)
theorem nodup_of_lt {l : List Bs} (h : l.Pairwise (· < ·)) : l.Nodup := h.imp fun {a b} hab (e : a = b) => lt_irrefl_bs b (by rw [e] at hab; exact hab)
theorem rises_pair : ∀ (l : List Bs), risesB l = true ↔ l.Pairwise (· < ·)
  | [] => by simp [risesB]
  | [a] => by simp [risesB]
  | a :: b :: l => by
    have ih := rises_pair (b :: l)
    rw [risesB, Bool.and_eq_true, ih, decide_eq_true_eq, List.pairwise_cons (a := a)]
    constructor
    · rintro ⟨h, hp⟩
      refine ⟨fun c hc => ?_, hp⟩
      rcases List.mem_cons.1 hc with rfl | hc
      · exact h
      · exact lt_trans_bs h ((List.pairwise_cons.1 hp).1 c hc)
    · rintro ⟨h, hp⟩
      exact ⟨h b (List.mem_cons.2 (.inl rfl)), hp⟩
/-- Two rows of the same that rise are one. -/
theorem rise_uniq : ∀ {l m : List Rw}, (sumsOf l).Pairwise (· < ·) → (sumsOf m).Pairwise (· < ·) → l.Perm m → l = m
  | [], m, _, _, h => (List.nil_perm.1 h).symm
  | a :: l, [], _, _, h => absurd (List.perm_nil.1 h) (by simp)
  | a :: l, b :: m, h1, h2, h => by
    unfold sumsOf at h1 h2
    rw [List.map_cons, List.pairwise_cons] at h1 h2
    have hab : a = b := by
      have ha : a ∈ b :: m := h.mem_iff.1 (List.mem_cons.2 (.inl rfl))
      have hb : b ∈ a :: l := h.mem_iff.2 (List.mem_cons.2 (.inl rfl))
      rcases List.mem_cons.1 ha with rfl | ha
      · rfl
      · rcases List.mem_cons.1 hb with rfl | hb
        · rfl
        · exact absurd (h1.1 _ (List.mem_map.2 ⟨b, hb, rfl⟩)) (lt_asymm_bs (h2.1 _ (List.mem_map.2 ⟨a, ha, rfl⟩)))
    subst hab
    rw [rise_uniq h1.2 h2.2 (List.Perm.cons_inv h)]

/-! ### Put -/
/-- The names' rows, by their places. -/
def rowsFrom : Nat → List Bs → List Rw
  | _, [] => []
  | k, id :: l => ⟨rawL id, k⟩ :: rowsFrom (k + 1) l
def rowsOf (ids : List Bs) : List Rw := rowsFrom 0 ids
theorem rowsFrom_len : ∀ (k : Nat) (l : List Bs), (rowsFrom k l).length = l.length
  | _, [] => rfl
  | k, _ :: l => by rw [rowsFrom, List.length_cons, rowsFrom_len (k + 1) l, List.length_cons]
theorem rowsOf_len (l : List Bs) : (rowsOf l).length = l.length := rowsFrom_len 0 l
theorem rowsFrom_get : ∀ (k : Nat) (l : List Bs) (i : Nat), (rowsFrom k l)[i]? = (l[i]?).map fun id => ⟨rawL id, k + i⟩
  | _, [], i => by simp [rowsFrom]
  | k, id :: l, 0 => by simp [rowsFrom]
  | k, id :: l, i + 1 => by
    rw [rowsFrom, List.getElem?_cons_succ, rowsFrom_get (k + 1) l i, List.getElem?_cons_succ]
    congr 1; funext x; congr 1; omega
theorem rowsOf_get (l : List Bs) (i : Nat) : (rowsOf l)[i]? = (l[i]?).map fun id => ⟨rawL id, i⟩ := by
  unfold rowsOf; rw [rowsFrom_get]; simp
theorem rowsFrom_sums : ∀ (k : Nat) (l : List Bs), sumsOf (rowsFrom k l) = l.map rawL
  | _, [] => rfl
  | k, id :: l => by
    have := rowsFrom_sums (k + 1) l
    unfold sumsOf at this ⊢
    rw [rowsFrom, List.map_cons, this, List.map_cons]
theorem rowsFrom_places : ∀ (k : Nat) (l : List Bs), (rowsFrom k l).map Rw.place = List.range' k l.length
  | _, [] => rfl
  | k, id :: l => by rw [rowsFrom, List.map_cons, rowsFrom_places (k + 1) l, List.length_cons, List.range'_succ]
theorem rowsFrom_snoc : ∀ (k : Nat) (l : List Bs) (id : Bs), rowsFrom k (l ++ [id]) = rowsFrom k l ++ [⟨rawL id, k + l.length⟩]
  | k, [], id => by simp [rowsFrom]
  | k, x :: l, id => by rw [List.cons_append, rowsFrom, rowsFrom_snoc (k + 1) l id, rowsFrom, List.cons_append, List.length_cons]; congr 3; simp; omega
theorem rowsOf_snoc (l : List Bs) (id : Bs) : rowsOf (l ++ [id]) = rowsOf l ++ [⟨rawL id, l.length⟩] := by unfold rowsOf; rw [rowsFrom_snoc]; simp
theorem fit_rowsFrom : ∀ (k : Nat) (l : List Bs), Fit (rowsFrom k l)
  | _, [] => fun r hr => by cases hr
  | k, id :: l => fun r hr => by
    rw [rowsFrom] at hr
    rcases List.mem_cons.1 hr with rfl | hr
    · exact rawL_len id
    · exact fit_rowsFrom (k + 1) l r hr
theorem Fit.perm {l m : List Rw} (h : Fit l) (hp : l.Perm m) : Fit m := fun r hr => h r (hp.mem_iff.2 hr)

/-- These rows are the names' own, and rise. -/
structure Srt (ids : List Bs) (rows : List Rw) : Prop where
  perm : rows.Perm (rowsOf ids)
  rise : (sumsOf rows).Pairwise (· < ·)
namespace Srt
variable {ids : List Bs} {rows : List Rw}
theorem fit (h : Srt ids rows) : Fit rows := (fit_rowsFrom 0 ids).perm h.perm.symm
theorem len (h : Srt ids rows) : rows.length = ids.length := by rw [h.perm.length_eq, rowsOf_len]
theorem uniq {rows' : List Rw} (h : Srt ids rows) (h' : Srt ids rows') : rows = rows' := rise_uniq h.rise h'.rise (h.perm.trans h'.perm.symm)
theorem nodup (h : Srt ids rows) : (ids.map rawL).Nodup := by
  have h1 : (sumsOf rows).Nodup := nodup_of_lt h.rise
  have h2 : (sumsOf rows).Perm (ids.map rawL) := by rw [← rowsFrom_sums 0 ids]; exact h.perm.map _
  exact h2.nodup_iff.1 h1
theorem nodup_ids (h : Srt ids rows) : ids.Nodup := nodup_of_map _ h.nodup
theorem placed (h : Srt ids rows) : placedB rows = true := by
  have hp : (rows.map Rw.place).Perm (List.range' 0 ids.length) := by rw [← rowsFrom_places 0 ids]; exact h.perm.map _
  unfold placedB
  rw [Bool.and_eq_true]
  refine ⟨List.all_eq_true.2 fun r hr => ?_, decide_eq_true (hp.nodup_iff.2 List.nodup_range')⟩
  have := hp.mem_iff.1 (List.mem_map.2 ⟨r, hr, rfl⟩)
  rw [List.mem_range'_1] at this
  rw [h.len]; exact decide_eq_true (by omega)
end Srt

/-! ### Read back -/
theorem rowAt_index {rows : List Rw} (hf : Fit rows) (hp : ∀ r ∈ rows, r.place < 65536) (i : Nat) (r : Rw) (hi : rows[i]? = some r) : rowAt (indexL rows) i = r := by
  obtain ⟨hlt, e⟩ := List.getElem?_eq_some_iff.1 hi
  have hr : r ∈ rows := e ▸ List.getElem_mem hlt
  have hb := bodyL_len hf
  have hi34 : i * 34 + 34 ≤ rows.length * 34 := by omega
  have hd : (indexL rows).drop (512 + i * 34) = (bodyL rows).drop (i * 34) ++ sumL (tblL rows) := by
    unfold indexL
    rw [List.drop_append, tblL_len hf, show 512 + i * 34 - (512 + rows.length * 34) = 0 by omega, List.drop_zero]
    unfold tblL
    rw [List.drop_append, headL_len, List.drop_of_length_le (by rw [headL_len]; omega), List.nil_append, show 512 + i * 34 - 512 = i * 34 by omega]
  have hat : ((bodyL rows).drop (i * 34)).take 34 = rowB r := flat_at rowB 34 rows i r (fun r hr => rowB_len (hf r hr)) hi
  have hsp : (bodyL rows).drop (i * 34) = rowB r ++ ((bodyL rows).drop (i * 34)).drop 34 := by rw [← hat, List.take_append_drop]
  have e32 : (indexL rows).drop (512 + i * 34 + 32) = ((indexL rows).drop (512 + i * 34)).drop 32 := by rw [List.drop_drop]
  unfold rowAt
  rw [e32, hd, hsp]
  unfold rowB
  have h32 := hf r hr
  obtain ⟨s, p⟩ := r
  simp only at h32 ⊢
  congr 1
  · rw [List.append_assoc, List.append_assoc, ← h32, List.take_left]
  · rw [List.append_assoc, List.append_assoc, ← h32, List.drop_left, unnum_num2]
    exact hp _ hr
theorem rowsL_index {rows : List Rw} (hf : Fit rows) (hp : ∀ r ∈ rows, r.place < 65536) (hn : rows.length ≤ 512) : rowsL (indexL rows) = some rows := by
  unfold rowsL
  rw [indexL_len hf, show 544 + rows.length * 34 - 544 = rows.length * 34 by omega, Nat.mul_div_cancel _ (by omega : 0 < 34), if_pos ⟨by omega, by omega, hn⟩]
  congr 1
  apply List.ext_getElem?
  intro i
  rw [List.getElem?_map]
  by_cases hi : i < rows.length
  · rw [List.getElem?_range hi, List.getElem?_eq_getElem hi]
    exact congrArg some (rowAt_index hf hp i _ (List.getElem?_eq_getElem hi))
  · rw [List.getElem?_eq_none (by rw [List.length_range]; omega), List.getElem?_eq_none (by omega)]; rfl
theorem placed_lt {rows : List Rw} (h : placedB rows = true) : ∀ r ∈ rows, r.place < rows.length := fun r hr => by
  unfold placedB at h
  rw [Bool.and_eq_true] at h
  simpa using List.all_eq_true.1 h.1 r hr
theorem Srt.read {ids : List Bs} {rows : List Rw} (h : Srt ids rows) (hn : ids.length ≤ 512) : readI (indexL rows) = some rows := by
  have hl := h.len
  unfold readI
  rw [rowsL_index h.fit (fun r hr => by have := placed_lt h.placed r hr; omega) (by omega)]
  simp only
  rw [if_pos ⟨h.placed, (rises_pair _).2 h.rise, trivial⟩]

/-! ### What is read -/
structure IsI (b : Bs) (rows : List Rw) : Prop where
  len : b.length = 544 + rows.length * 34
  few : rows.length ≤ 512
  fit : Fit rows
  placed : placedB rows = true
  rise : (sumsOf rows).Pairwise (· < ·)
  eq : indexL rows = b
theorem readI_is {b : Bs} {rows : List Rw} (h : readI b = some rows) : IsI b rows := by
  unfold readI rowsL at h
  by_cases hc : 544 ≤ b.length ∧ (b.length - 544) % 34 = 0 ∧ (b.length - 544) / 34 ≤ 512
  · rw [if_pos hc] at h
    simp only at h
    split at h
    · rename_i h2
      cases h
      have hl : ((List.range ((b.length - 544) / 34)).map (rowAt b)).length = (b.length - 544) / 34 := by rw [List.length_map, List.length_range]
      refine ⟨by rw [hl]; omega, by rw [hl]; exact hc.2.2, fun r hr => ?_, h2.1, (rises_pair _).1 h2.2.1, h2.2.2⟩
      obtain ⟨i, hi, rfl⟩ := List.mem_map.1 hr
      have hi := List.mem_range.1 hi
      show ((b.drop (512 + i * 34)).take 32).length = 32
      rw [List.length_take, List.length_drop]; omega
    · cases h
  · rw [if_neg hc] at h; cases h
theorem IsI.read {b : Bs} {rows : List Rw} (h : IsI b rows) : readI b = some rows := by
  have e := h.eq; subst e
  unfold readI
  rw [rowsL_index h.fit (fun r hr => by have := placed_lt h.placed r hr; have := h.few; omega) h.few]
  simp only
  rw [if_pos ⟨h.placed, (rises_pair _).2 h.rise, trivial⟩]
theorem readI_iff {b : Bs} {rows : List Rw} : readI b = some rows ↔ IsI b rows := ⟨readI_is, IsI.read⟩

/-- All names. -/
def allI (rows : List Rw) : List Bs := rows.map fun r => hexL r.sum
theorem allI_rise {rows : List Rw} (h : (sumsOf rows).Pairwise (· < ·)) : (allI rows).Pairwise (· < ·) := by
  have : allI rows = (sumsOf rows).map hexL := by unfold allI sumsOf; rw [List.map_map]; rfl
  rw [this, List.pairwise_map]
  exact h.imp fun h => (hex_lt _ _).2 h

theorem findI_some {rows : List Rw} (hr : (sumsOf rows).Pairwise (· < ·)) {r : Rw} (hm : r ∈ rows) : findI rows r.sum = some r.place := by
  unfold findI
  have hnd : (sumsOf rows).Nodup := nodup_of_lt hr
  obtain ⟨q, hq⟩ : ∃ q, rows.find? (fun x => x.sum == r.sum) = some q := Option.isSome_iff_exists.1 (by rw [List.find?_isSome]; exact ⟨r, hm, by simp⟩)
  rw [hq, Option.map_some]
  have h1 := List.mem_of_find?_eq_some hq
  have h2 : q.sum = r.sum := by simpa using List.find?_some hq
  have : q = r := by
    clear hq hr
    unfold sumsOf at hnd
    induction rows with
    | nil => cases hm
    | cons x l ih =>
      rw [List.map_cons, List.nodup_cons] at hnd
      rcases List.mem_cons.1 hm with e | hm <;> rcases List.mem_cons.1 h1 with e' | h1
      · rw [e, e']
      · exact absurd (List.mem_map.2 ⟨q, h1, by rw [h2, e]⟩) hnd.1
      · exact absurd (List.mem_map.2 ⟨r, hm, by rw [← h2, e']⟩) hnd.1
      · exact ih hm hnd.2 h1
  rw [this]
theorem findI_none {rows : List Rw} {s : Bs} (h : s ∉ sumsOf rows) : findI rows s = none := by
  unfold findI
  rw [List.find?_eq_none.2 fun r hr => by
    intro e
    have e : r.sum = s := by simpa using e
    exact h (e ▸ List.mem_map.2 ⟨r, hr, rfl⟩)]; rfl
theorem Srt.find {ids : List Bs} {rows : List Rw} (h : Srt ids rows) (i : Nat) (id : Bs) (hi : ids[i]? = some id) : findI rows (rawL id) = some i := by
  have hm : (⟨rawL id, i⟩ : Rw) ∈ rows := h.perm.mem_iff.2 (List.mem_of_getElem? (by rw [rowsOf_get, hi]; rfl))
  exact findI_some h.rise hm
theorem Srt.mem_sums {ids : List Bs} {rows : List Rw} (h : Srt ids rows) (s : Bs) : s ∈ sumsOf rows ↔ s ∈ ids.map rawL := by
  have h2 : (sumsOf rows).Perm (ids.map rawL) := by rw [← rowsFrom_sums 0 ids]; exact h.perm.map _
  exact h2.mem_iff

/-! ### What the laws ask -/
def putE (ids : List Bs) : Option Nat := if 512 < ids.length then some 2 else if ids.all namedB = true then (if (ids.map rawL).Nodup then none else some 91) else some 1
theorem nodup_raw {ids : List Bs} (h : ids.all namedB = true) : (ids.map rawL).Nodup ↔ ids.Nodup := by
  refine ⟨nodup_of_map _, fun hn => ?_⟩
  rw [List.Nodup, List.pairwise_map]
  have hm : ∀ x ∈ ids, namedB x = true := List.all_eq_true.1 h
  clear h
  induction ids with
  | nil => exact .nil
  | cons a l ih =>
    rw [List.nodup_cons] at hn
    refine List.pairwise_cons.2 ⟨fun b hb e => hn.1 ?_, ih hn.2 fun x hx => hm x (List.mem_cons.2 (.inr hx))⟩
    rw [raw_inj (hm a (List.mem_cons.2 (.inl rfl))) (hm b (List.mem_cons.2 (.inr hb))) e]; exact hb
theorem putE_none {ids : List Bs} : putE ids = none ↔ ids.length ≤ 512 ∧ ids.all namedB = true ∧ (ids.map rawL).Nodup := by
  unfold putE
  by_cases h1 : 512 < ids.length
  · rw [if_pos h1]; simp; omega
  · rw [if_neg h1]
    by_cases h2 : ids.all namedB = true
    · rw [if_pos h2]
      by_cases h3 : (ids.map rawL).Nodup
      · rw [if_pos h3]; exact ⟨fun _ => ⟨by omega, h2, h3⟩, fun _ => rfl⟩
      · rw [if_neg h3]; exact ⟨fun h => (by cases h), fun h => absurd h.2.2 h3⟩
    · rw [if_neg h2]; exact ⟨fun h => (by cases h), fun h => absurd h.2.1 h2⟩
/-- What is sorted rises just if no two are one. -/
theorem srt_of {ids : List Bs} {rows : List Rw} (hp : rows.Perm (rowsOf ids)) (hs : (sumsOf rows).Pairwise fun a b => ¬ b < a) : (risesB (sumsOf rows) = true ↔ (ids.map rawL).Nodup) ∧ (risesB (sumsOf rows) = true → Srt ids rows) := by
  have h2 : (sumsOf rows).Perm (ids.map rawL) := by rw [← rowsFrom_sums 0 ids]; exact hp.map _
  refine ⟨⟨fun h => ?_, fun h => ?_⟩, fun h => ⟨hp, (rises_pair _).1 h⟩⟩
  · exact (Srt.mk hp ((rises_pair _).1 h)).nodup
  · rw [rises_pair]
    have hn : (sumsOf rows).Nodup := h2.nodup_iff.2 h
    exact (hs.and hn).imp fun ⟨h1, h3⟩ => lt_total_bs h1 (Ne.symm h3)
def findE (rows : List Rw) (id : Bs) : Option Nat := if namedB id = true then findI rows (rawL id) else none
theorem findE_mem {ids : List Bs} {rows : List Rw} (h : Srt ids rows) (hn : ids.all namedB = true) (x : Bs) : (findE rows x).isSome = decide (x ∈ ids) := by
  unfold findE
  by_cases hx : namedB x = true
  · rw [if_pos hx]
    by_cases hm : x ∈ ids
    · obtain ⟨i, hi⟩ := List.getElem?_of_mem hm
      rw [h.find i x hi, decide_eq_true hm]; rfl
    · rw [decide_eq_false hm, findI_none]
      · rfl
      · rw [h.mem_sums]
        intro hc
        obtain ⟨y, hy, e⟩ := List.mem_map.1 hc
        rw [← raw_inj (List.all_eq_true.1 hn y hy) hx e] at hm
        exact hm hy
  · rw [if_neg hx, decide_eq_false]
    · rfl
    · exact fun hm => hx (List.all_eq_true.1 hn x hm)
theorem Srt.findE {ids : List Bs} {rows : List Rw} (h : Srt ids rows) (hn : ids.all namedB = true) (i : Nat) (id : Bs) (hi : ids[i]? = some id) : findE rows id = some i := by
  unfold Go.Proofs.YtdjmcehoaneekaaDoor.Ix.findE
  rw [if_pos (List.all_eq_true.1 hn id (List.mem_of_getElem? hi)), h.find i id hi]

/-! ### Counts -/
theorem upToN_perm {rows rows' : List Rw} (h : rows.Perm rows') (c : Nat) : upToN rows c = upToN rows' c := h.countP_eq _
def upToI (ids : List Bs) (c : Nat) : Nat := ids.countP fun id => decide (((rawL id).getD 0 0).toNat ≤ c)
theorem upToN_of : ∀ (k : Nat) (ids : List Bs) (c : Nat), upToN (rowsFrom k ids) c = upToI ids c
  | _, [], _ => rfl
  | k, id :: l, c => by
    have := upToN_of (k + 1) l c
    unfold upToN upToI at this ⊢
    rw [rowsFrom, List.countP_cons, List.countP_cons, this]
theorem Srt.upTo {ids : List Bs} {rows : List Rw} (h : Srt ids rows) (c : Nat) : upToN rows c = upToI ids c := by
  rw [upToN_perm h.perm, rowsOf, upToN_of]
theorem head_at (rows : List Rw) (c : Nat) (hc : c < 256) : (indexL rows).getD (2 * c) 0 = UInt8.ofNat (upToN rows c / 256) ∧ (indexL rows).getD (2 * c + 1) 0 = UInt8.ofNat (upToN rows c) := by
  have h : ((headL rows).drop (c * 2)).take 2 = num2 (upToN rows c) := flat_at (fun c => num2 (upToN rows c)) 2 (List.range 256) c c (fun _ _ => rfl) (List.getElem?_range hc)
  have hl := headL_len rows
  have e : ∀ i, i < 2 → (indexL rows).getD (2 * c + i) 0 = (num2 (upToN rows c)).getD i 0 := fun i hi => by
    rw [← h]
    unfold indexL tblL
    rw [List.append_assoc]
    simp only [List.getD_eq_getElem?_getD]
    rw [List.getElem?_append_left (by omega), List.getElem?_take_of_lt hi, List.getElem?_drop, Nat.mul_comm c 2]
  exact ⟨e 0 (by omega), e 1 (by omega)⟩
theorem head_num (rows : List Rw) (c : Nat) (hc : c < 256) (hn : rows.length ≤ 512) : ((indexL rows).getD (2 * c) 0).toNat * 256 + ((indexL rows).getD (2 * c + 1) 0).toNat = upToN rows c := by
  obtain ⟨h1, h2⟩ := head_at rows c hc
  rw [h1, h2, UInt8.toNat_ofNat', UInt8.toNat_ofNat']
  have : upToN rows c ≤ rows.length := List.countP_le_length
  omega
theorem upToI_mono (ids : List Bs) {c d : Nat} (h : c ≤ d) : upToI ids c ≤ upToI ids d := by
  unfold upToI
  exact List.countP_mono_left fun x _ hx => by simp only [decide_eq_true_eq] at hx ⊢; omega
theorem upToI_all (ids : List Bs) : upToI ids 255 = ids.length := by
  unfold upToI
  rw [List.countP_eq_length]
  intro x _
  have := ((rawL x).getD 0 0).toNat_lt
  simp only [decide_eq_true_eq]; omega
/-- The two digits of a byte. -/
def twoL (c : Nat) : Bs := [hexD (UInt8.ofNat (c / 16)), hexD (UInt8.ofNat (c % 16))]
theorem two_le {id : Bs} (h : namedB id = true) (c : Nat) (hc : c < 256) : twoL c < id.take 2 ↔ c < ((rawL id).getD 0 0).toNat := by
  have hl := rawL_len id
  obtain ⟨x, l, e⟩ : ∃ x l, rawL id = x :: l := by
    cases hr : rawL id with
    | nil => rw [hr] at hl; cases hl
    | cons x l => exact ⟨x, l, rfl⟩
  have e2 : id.take 2 = hexL [x] := by rw [← hex_raw h, e]; rfl
  have e3 : twoL c = hexL [UInt8.ofNat c] := by
    unfold twoL hexL
    simp only [List.flatMap_cons, List.flatMap_nil, List.append_nil]
    congr 2
    · apply UInt8.toNat_inj.1; rw [UInt8.toNat_div, UInt8.toNat_ofNat', UInt8.toNat_ofNat']; show c / 16 % 256 = c % 256 / 16; omega
    · congr 1; apply UInt8.toNat_inj.1; rw [UInt8.toNat_mod, UInt8.toNat_ofNat', UInt8.toNat_ofNat']; show c % 16 % 256 = c % 256 % 16; omega
  rw [e2, e3, hex_lt, e, List.cons_lt_cons_iff, List.getD_cons_zero, UInt8.lt_iff_toNat_lt, UInt8.toNat_ofNat']
  simp
  omega

/-! ### Names by their places -/
def putAt (rows : List Rw) : Nat → List Bs
  | 0 => List.replicate rows.length []
  | i + 1 => match rows[i]? with
    | some r => (putAt rows i).set r.place (hexL r.sum)
    | none => putAt rows i
theorem putAt_len (rows : List Rw) : ∀ i, (putAt rows i).length = rows.length
  | 0 => by simp [putAt]
  | i + 1 => by
    rw [putAt]
    split
    · rw [List.length_set, putAt_len rows i]
    · exact putAt_len rows i
theorem places_apart {rows : List Rw} (h : placedB rows = true) {i j : Nat} {r s : Rw} (hi : rows[i]? = some r) (hj : rows[j]? = some s) (hne : i ≠ j) : r.place ≠ s.place := by
  unfold placedB at h
  rw [Bool.and_eq_true] at h
  have hn : (rows.map Rw.place).Nodup := of_decide_eq_true h.2
  intro e
  obtain ⟨h1, e1⟩ := List.getElem?_eq_some_iff.1 hi
  obtain ⟨h2, e2⟩ := List.getElem?_eq_some_iff.1 hj
  have hn' := List.pairwise_iff_getElem.1 hn
  rcases Nat.lt_or_gt_of_ne hne with hlt | hlt
  · exact hn' i j (by simpa using h1) (by simpa using h2) hlt (by simp [e1, e2, e])
  · exact hn' j i (by simpa using h2) (by simpa using h1) hlt (by simp [e1, e2, e])
theorem putAt_new {rows : List Rw} (h : placedB rows = true) : ∀ (i j : Nat) (r : Rw), i ≤ j → rows[j]? = some r → (putAt rows i)[r.place]? = some []
  | 0, j, r, _, hj => by
    have := placed_lt h r (List.mem_of_getElem? hj)
    rw [putAt, List.getElem?_replicate, if_pos this]
  | i + 1, j, r, hij, hj => by
    rw [putAt]
    split
    · rename_i s hs
      rw [List.getElem?_set_ne (places_apart h hs hj (by omega))]
      exact putAt_new h i j r (by omega) hj
    · exact putAt_new h i j r (by omega) hj
theorem putAt_old {rows : List Rw} (h : placedB rows = true) : ∀ (i j : Nat) (r : Rw), j < i → rows[j]? = some r → (putAt rows i)[r.place]? = some (hexL r.sum)
  | i + 1, j, r, hij, hj => by
    rw [putAt]
    by_cases e : j = i
    · subst e
      rw [hj]
      simp only
      rw [List.getElem?_set_self (by rw [putAt_len]; exact placed_lt h r (List.mem_of_getElem? hj))]
    · split
      · rename_i s hs
        rw [List.getElem?_set_ne (places_apart h hs hj (by omega))]
        exact putAt_old h i j r (by omega) hj
      · exact putAt_old h i j r (by omega) hj
theorem perm_of_sub {α : Type} [DecidableEq α] : ∀ {l m : List α}, l.Nodup → (∀ x ∈ l, x ∈ m) → m.length ≤ l.length → l.Perm m
  | [], m, _, _, h => by rw [List.eq_nil_of_length_eq_zero (Nat.le_zero.1 h)]
  | x :: l, m, hn, hs, h => by
    rw [List.nodup_cons] at hn
    have hx := hs x (List.mem_cons.2 (.inl rfl))
    refine List.Perm.trans (List.Perm.cons x (perm_of_sub (m := m.erase x) hn.2 (fun y hy => ?_) ?_)) (List.perm_cons_erase hx).symm
    · exact (List.mem_erase_of_ne (fun (e : y = x) => hn.1 (by rw [← e]; exact hy))).2 (hs y (List.mem_cons.2 (.inr hy)))
    · rw [List.length_erase_of_mem hx]; rw [List.length_cons] at h; omega
def outI (rows : List Rw) : List Bs := putAt rows rows.length
theorem outI_len (rows : List Rw) : (outI rows).length = rows.length := putAt_len rows _
theorem outI_perm {rows : List Rw} (hf : Fit rows) (h : placedB rows = true) : rows.Perm (rowsOf (outI rows)) := by
  have hpl : (rows.map Rw.place).Nodup := by
    have h' := h
    unfold placedB at h'
    rw [Bool.and_eq_true] at h'
    exact of_decide_eq_true h'.2
  refine perm_of_sub (nodup_of_map _ hpl) (fun r hr => ?_) (by rw [rowsOf_len, outI_len]; exact Nat.le_refl _)
  obtain ⟨j, hj⟩ := List.getElem?_of_mem hr
  obtain ⟨hlt, _⟩ := List.getElem?_eq_some_iff.1 hj
  refine List.mem_of_getElem? (i := r.place) ?_
  rw [rowsOf_get, show (outI rows)[r.place]? = _ from putAt_old h _ j r hlt hj, Option.map_some, raw_hex _ (hf r hr)]
theorem IsI.srt {b : Bs} {rows : List Rw} (h : IsI b rows) : Srt (outI rows) rows := ⟨outI_perm h.fit h.placed, h.rise⟩
theorem IsI.named {b : Bs} {rows : List Rw} (h : IsI b rows) : (outI rows).all namedB = true := List.all_eq_true.2 fun x hx => by
  obtain ⟨i, hi⟩ := List.getElem?_of_mem hx
  have hm : (⟨rawL x, i⟩ : Rw) ∈ rows := h.srt.perm.mem_iff.2 (List.mem_of_getElem? (by rw [rowsOf_get, hi]; rfl))
  obtain ⟨j, hj⟩ := List.getElem?_of_mem hm
  obtain ⟨hlt, _⟩ := List.getElem?_eq_some_iff.1 hj
  have := putAt_old h.placed rows.length j _ hlt hj
  have e : x = hexL (rawL x) := Option.some.inj (hi.symm.trans this)
  rw [e]; exact named_hex _ (rawL_len x)
theorem IsI.putE {b : Bs} {rows : List Rw} (h : IsI b rows) : putE (outI rows) = none := putE_none.2 ⟨by rw [outI_len]; exact h.few, h.named, h.srt.nodup⟩
theorem IsI.findE_at {b : Bs} {rows : List Rw} (h : IsI b rows) (i : Nat) (r : Rw) (hi : rows[i]? = some r) : findE rows (hexL r.sum) = some r.place := by
  have hm := List.mem_of_getElem? hi
  have h32 := h.fit r hm
  unfold findE
  rw [if_pos (named_hex _ h32), raw_hex _ h32, findI_some h.rise hm]

/-! ### One more, another order -/
theorem srt_len_uniq {ids ids' : List Bs} {rows rows' : List Rw} (h : Srt ids rows) (h' : Srt ids' rows') (hp : ids.Perm ids') : sumsOf rows = sumsOf rows' ∧ rows.length = rows'.length := by
  have h1 : (sumsOf rows).Perm (ids.map rawL) := by rw [← rowsFrom_sums 0 ids]; exact h.perm.map _
  have h2 : (sumsOf rows').Perm (ids'.map rawL) := by rw [← rowsFrom_sums 0 ids']; exact h'.perm.map _
  have h3 : (sumsOf rows).Perm (sumsOf rows') := h1.trans ((hp.map _).trans h2.symm)
  have uniq : ∀ {l m : List Bs}, l.Pairwise (· < ·) → m.Pairwise (· < ·) → l.Perm m → l = m := by
    intro l
    induction l with
    | nil => intro m _ _ h; exact (List.nil_perm.1 h).symm
    | cons a l ih =>
      intro m h1 h2 h
      cases m with
      | nil => exact absurd (List.perm_nil.1 h) (by simp)
      | cons b m =>
        rw [List.pairwise_cons] at h1 h2
        have hab : a = b := by
          rcases List.mem_cons.1 (h.mem_iff.1 (List.mem_cons.2 (.inl rfl))) with rfl | ha
          · rfl
          · rcases List.mem_cons.1 (h.mem_iff.2 (List.mem_cons.2 (.inl rfl))) with rfl | hb
            · rfl
            · exact absurd (h1.1 _ hb) (lt_asymm_bs (h2.1 _ ha))
        subst hab
        rw [ih h1.2 h2.2 (List.Perm.cons_inv h)]
  exact ⟨uniq h.rise h'.rise h3, by have := h3.length_eq; unfold sumsOf at this; simpa using this⟩
theorem allI_sums (rows : List Rw) : allI rows = (sumsOf rows).map hexL := by unfold allI sumsOf; rw [List.map_map]; rfl
theorem all_perm {ids ids' : List Bs} (hp : ids.Perm ids') : ids.all namedB = ids'.all namedB := by
  rw [Bool.eq_iff_iff, List.all_eq_true, List.all_eq_true]
  exact ⟨fun h x hx => h x (hp.mem_iff.2 hx), fun h x hx => h x (hp.mem_iff.1 hx)⟩
theorem putE_perm {ids ids' : List Bs} (hp : ids.Perm ids') : putE ids = putE ids' := by
  unfold putE
  rw [hp.length_eq, all_perm hp]
  have : (ids.map rawL).Nodup ↔ (ids'.map rawL).Nodup := (hp.map _).nodup_iff
  by_cases h : (ids.map rawL).Nodup
  · rw [if_pos h, if_pos (this.1 h)]
  · rw [if_neg h, if_neg (mt this.2 h)]
theorem rot_perm (ids : List Bs) (k : Nat) : ids.Perm (ids.drop k ++ ids.take k) := by
  have := List.perm_append_comm (l₁ := ids.take k) (l₂ := ids.drop k)
  rwa [List.take_append_drop] at this
/-- One name more: refused as before, or there, or put. -/
theorem putE_snoc (ids : List Bs) (x : Bs) (hl : ids.length ≤ 60) (hx : namedB x = true) : putE (ids ++ [x]) = if ids.all namedB = true then (if (ids.map rawL).Nodup then (if x ∈ ids then some 91 else none) else some 91) else some 1 := by
  unfold putE
  rw [if_neg (by simp; omega)]
  by_cases h2 : ids.all namedB = true
  · have h2' : (ids ++ [x]).all namedB = true := by rw [List.all_append, h2]; simp [hx]
    rw [if_pos h2, if_pos h2']
    have e : ((ids ++ [x]).map rawL).Nodup ↔ (ids.map rawL).Nodup ∧ x ∉ ids := by
      rw [nodup_raw h2', nodup_raw h2, List.nodup_append]
      constructor
      · rintro ⟨h, _, h3⟩; exact ⟨h, fun hm => h3 x hm x (by simp) rfl⟩
      · rintro ⟨h, h3⟩; exact ⟨h, by simp, fun a ha b hb e => by simp at hb; subst hb; subst e; exact h3 ha⟩
    by_cases h3 : (ids.map rawL).Nodup
    · rw [if_pos h3]
      by_cases h4 : x ∈ ids
      · rw [if_pos h4, if_neg (fun h => (e.1 h).2 h4)]
      · rw [if_neg h4, if_pos (e.2 ⟨h3, h4⟩)]
    · rw [if_neg h3, if_neg (fun h => h3 (e.1 h).1)]
  · have h2' : ¬ (ids ++ [x]).all namedB = true := by rw [List.all_append]; simp only [Bool.and_eq_true]; exact fun h => h2 h.1
    rw [if_neg h2, if_neg h2']

/-! ### Counts of first bytes; places; halves -/
def fst (r : Rw) : Nat := (r.sum.getD 0 0).toNat
def eqN (rows : List Rw) (c : Nat) : Nat := rows.countP fun r => decide (fst r = c)
theorem eqN_snoc (rows : List Rw) (r : Rw) (c : Nat) : eqN (rows ++ [r]) c = if c = fst r then eqN rows c + 1 else eqN rows c := by
  unfold eqN
  rw [List.countP_append, List.countP_cons, List.countP_nil]
  by_cases h : c = fst r
  · rw [if_pos h, if_pos (decide_eq_true h.symm)]
  · rw [if_neg h, if_neg (by simp only [decide_eq_true_eq]; exact fun e => h e.symm)]; omega
theorem eqN_len (rows : List Rw) (c : Nat) : eqN rows c ≤ rows.length := List.countP_le_length
theorem upToN_len (rows : List Rw) (c : Nat) : upToN rows c ≤ rows.length := List.countP_le_length
theorem upToN_zero (rows : List Rw) : upToN rows 0 = eqN rows 0 := by
  unfold upToN eqN fst
  congr 1; funext r
  rw [decide_eq_decide]; omega
theorem upToN_succ (rows : List Rw) (c : Nat) : upToN rows (c + 1) = upToN rows c + eqN rows (c + 1) := by
  unfold upToN eqN fst
  induction rows with
  | nil => rfl
  | cons r l ih =>
    rw [List.countP_cons, List.countP_cons, List.countP_cons, ih]
    by_cases h1 : (r.sum.getD 0 0).toNat ≤ c
    · rw [if_pos (decide_eq_true (by omega)), if_pos (decide_eq_true h1), if_neg (by simp only [decide_eq_true_eq]; omega)]; omega
    · by_cases h2 : (r.sum.getD 0 0).toNat = c + 1
      · rw [if_pos (decide_eq_true (by omega)), if_neg (by simp only [decide_eq_true_eq]; omega), if_pos (decide_eq_true h2)]; omega
      · rw [if_neg (by simp only [decide_eq_true_eq]; omega), if_neg (by simp only [decide_eq_true_eq]; omega), if_neg (by simp only [decide_eq_true_eq]; omega)]; omega
theorem cnt_split {α : Type} (p : α → Bool) : ∀ {l : List α}, (l.Pairwise fun a b => p b = true → p a = true) → ∀ (i : Nat) (x : α), l[i]? = some x → (i < l.countP p ↔ p x = true)
  | [], _, i, x, h => by simp at h
  | a :: l, hp, i, x, h => by
    rw [List.pairwise_cons] at hp
    rw [List.countP_cons]
    cases i with
    | zero =>
      rw [List.getElem?_cons_zero] at h
      cases h
      by_cases ha : p a = true
      · rw [if_pos ha]; simp [ha]
      · rw [if_neg ha]
        have : l.countP p = 0 := by
          rw [List.countP_eq_zero]
          exact fun b hb e => ha (hp.1 b hb e)
        simp [this, ha]
    | succ i =>
      rw [List.getElem?_cons_succ] at h
      have ih := cnt_split p hp.2 i x h
      by_cases ha : p a = true
      · rw [if_pos ha, ← ih]; omega
      · rw [if_neg ha]
        have h0 : l.countP p = 0 := by
          rw [List.countP_eq_zero]
          exact fun b hb e => ha (hp.1 b hb e)
        have hx : ¬ p x = true := fun e => ha (hp.1 x (List.mem_of_getElem? h) e)
        constructor
        · intro hh; omega
        · intro hh; exact absurd hh hx
theorem head_le {a b : Bs} (h : a < b) (ha : 0 < a.length) : (a.getD 0 0).toNat ≤ (b.getD 0 0).toNat := by
  cases a with
  | nil => simp at ha
  | cons x a =>
    cases b with
    | nil => simp at h
    | cons y b =>
      rw [List.cons_lt_cons_iff] at h
      simp only [List.getD_cons_zero]
      rcases h with h | ⟨rfl, _⟩
      · rw [UInt8.lt_iff_toNat_lt] at h; omega
      · exact Nat.le_refl _
theorem lt_of_head {a b : Bs} (h : (a.getD 0 0).toNat < (b.getD 0 0).toNat) (ha : 0 < a.length) (hb : 0 < b.length) : a < b := by
  cases a with
  | nil => simp at ha
  | cons x a =>
    cases b with
    | nil => simp at hb
    | cons y b =>
      simp only [List.getD_cons_zero] at h
      rw [List.cons_lt_cons_iff]
      left; rw [UInt8.lt_iff_toNat_lt]; exact h
theorem upTo_split {rows : List Rw} (hf : Fit rows) (hr : (sumsOf rows).Pairwise (· < ·)) (c i : Nat) (r : Rw) (hi : rows[i]? = some r) : i < upToN rows c ↔ fst r ≤ c := by
  unfold sumsOf at hr
  rw [List.pairwise_map] at hr
  have hp : rows.Pairwise fun a b => decide ((b.sum.getD 0 0).toNat ≤ c) = true → decide ((a.sum.getD 0 0).toNat ≤ c) = true := by
    refine List.Pairwise.imp_of_mem (R := fun a b => a.sum < b.sum) (fun {a b} ha hb hab h => ?_) hr
    have := head_le hab (by rw [hf a ha]; omega)
    simp only [decide_eq_true_eq] at h ⊢; omega
  have := cnt_split (fun r : Rw => decide ((r.sum.getD 0 0).toNat ≤ c)) hp i r hi
  unfold upToN fst
  rw [this, decide_eq_true_eq]
/-- Where it is sought: all ahead is less, all behind is greater. -/
structure Seek (rows : List Rw) (s : Bs) (a b : Nat) : Prop where
  le : a ≤ rows.length ∧ b ≤ rows.length
  lo : ∀ i r, rows[i]? = some r → i < a → r.sum < s
  hi : ∀ i r, rows[i]? = some r → b ≤ i → s < r.sum
theorem Seek.start {rows : List Rw} (hf : Fit rows) (hr : (sumsOf rows).Pairwise (· < ·)) {s : Bs} (hs : s.length = 32) {x : Nat} (hx : x = (s.getD 0 0).toNat) (a : Nat) (ha : (x = 0 ∧ a = 0) ∨ (0 < x ∧ a = upToN rows (x - 1))) : Seek rows s a (upToN rows x) := by
  subst hx
  refine ⟨⟨?_, upToN_len _ _⟩, fun i r hi h => ?_, fun i r hi h => ?_⟩
  · rcases ha with ⟨_, rfl⟩ | ⟨_, rfl⟩
    · exact Nat.zero_le _
    · exact upToN_len _ _
  · have h32 := hf r (List.mem_of_getElem? hi)
    rcases ha with ⟨_, rfl⟩ | ⟨h0, rfl⟩
    · omega
    · have := (upTo_split hf hr _ i r hi).1 h
      unfold fst at this
      exact lt_of_head (by omega) (by omega) (by omega)
  · have h32 := hf r (List.mem_of_getElem? hi)
    have := mt (upTo_split hf hr (s.getD 0 0).toNat i r hi).2 (by omega)
    unfold fst at this
    exact lt_of_head (by omega) (by omega) (by omega)
theorem rise_two {rows : List Rw} (hr : (sumsOf rows).Pairwise (· < ·)) {i j : Nat} {r q : Rw} (hi : rows[i]? = some r) (hj : rows[j]? = some q) (h : i < j) : r.sum < q.sum := by
  unfold sumsOf at hr
  rw [List.pairwise_map] at hr
  obtain ⟨h1, e1⟩ := List.getElem?_eq_some_iff.1 hi
  obtain ⟨h2, e2⟩ := List.getElem?_eq_some_iff.1 hj
  have := List.pairwise_iff_getElem.1 hr i j h1 h2 h
  rw [e1, e2] at this; exact this
theorem Seek.up {rows : List Rw} (hr : (sumsOf rows).Pairwise (· < ·)) {s : Bs} {a b m : Nat} {r : Rw} (h : Seek rows s a b) (hm : rows[m]? = some r) (hlt : r.sum < s) : Seek rows s (m + 1) b := by
  obtain ⟨h1, _⟩ := List.getElem?_eq_some_iff.1 hm
  refine ⟨⟨by omega, h.le.2⟩, fun i q hi hx => ?_, h.hi⟩
  by_cases e : i = m
  · subst e; rw [hm] at hi; cases hi; exact hlt
  · exact lt_trans_bs (rise_two hr hi hm (by omega)) hlt
theorem Seek.down {rows : List Rw} (hr : (sumsOf rows).Pairwise (· < ·)) {s : Bs} {a b m : Nat} {r : Rw} (h : Seek rows s a b) (hm : rows[m]? = some r) (hlt : s < r.sum) : Seek rows s a m := by
  obtain ⟨h1, _⟩ := List.getElem?_eq_some_iff.1 hm
  refine ⟨⟨h.le.1, by omega⟩, h.lo, fun i q hi hx => ?_⟩
  by_cases e : i = m
  · subst e; rw [hm] at hi; cases hi; exact hlt
  · exact lt_trans_bs hlt (rise_two hr hm hi (by omega))
theorem Seek.none {rows : List Rw} {s : Bs} {a b : Nat} (h : Seek rows s a b) (hab : b ≤ a) : findI rows s = none := by
  apply findI_none
  intro hm
  obtain ⟨r, hr, rfl⟩ := List.mem_map.1 hm
  obtain ⟨i, hi⟩ := List.getElem?_of_mem hr
  by_cases hia : i < a
  · exact lt_irrefl_bs _ (h.lo i r hi hia)
  · exact lt_irrefl_bs _ (h.hi i r hi (by omega))

/-- How many of the places are p. -/
def plN (rows : List Rw) (p : Nat) : Nat := rows.countP fun r => decide (r.place = p)
theorem plN_snoc (rows : List Rw) (r : Rw) (c : Nat) : plN (rows ++ [r]) c = if c = r.place then plN rows c + 1 else plN rows c := by
  unfold plN
  rw [List.countP_append, List.countP_cons, List.countP_nil]
  by_cases h : c = r.place
  · rw [if_pos h, if_pos (decide_eq_true h.symm)]
  · rw [if_neg h, if_neg (by simp only [decide_eq_true_eq]; exact fun e => h e.symm)]; omega
theorem plN_pos (rows : List Rw) (p : Nat) : 0 < plN rows p ↔ p ∈ rows.map Rw.place := by
  unfold plN
  rw [List.countP_pos_iff, List.mem_map]
  constructor
  · rintro ⟨r, hr, h⟩; exact ⟨r, hr, of_decide_eq_true h⟩
  · rintro ⟨r, hr, h⟩; exact ⟨r, hr, decide_eq_true h⟩
theorem plN_len (rows : List Rw) (p : Nat) : plN rows p ≤ rows.length := List.countP_le_length
/-- So far each place is below n, and none is met twice. -/
def okTo (rows : List Rw) (k : Nat) : Prop := (∀ r ∈ rows.take k, r.place < rows.length) ∧ ((rows.take k).map Rw.place).Nodup
theorem take_snoc' {rows : List Rw} {k : Nat} {r : Rw} (h : rows[k]? = some r) : rows.take (k + 1) = rows.take k ++ [r] := by
  rw [List.take_add_one, h]; rfl
theorem okTo.step {rows : List Rw} {k : Nat} {r : Rw} (h : okTo rows k) (hk : rows[k]? = some r) (h1 : r.place < rows.length) (h2 : plN (rows.take k) r.place = 0) : okTo rows (k + 1) := by
  unfold okTo
  rw [take_snoc' hk]
  refine ⟨fun q hq => ?_, ?_⟩
  · rcases List.mem_append.1 hq with hq | hq
    · exact h.1 q hq
    · rw [List.mem_singleton.1 hq]; exact h1
  · rw [List.map_append, List.nodup_append]
    refine ⟨h.2, by simp, fun a ha b hb e => ?_⟩
    have hb : b = r.place := by simpa using hb
    subst hb; subst e
    have := (plN_pos (rows.take k) r.place).2 ha
    omega
theorem placed_no1 {rows : List Rw} {k : Nat} {r : Rw} (hk : rows[k]? = some r) (h : rows.length ≤ r.place) : placedB rows = false := by
  cases hp : placedB rows with
  | false => rfl
  | true => have := placed_lt hp r (List.mem_of_getElem? hk); omega
theorem placed_no2 {rows : List Rw} {k : Nat} {r : Rw} (hk : rows[k]? = some r) (h : 0 < plN (rows.take k) r.place) : placedB rows = false := by
  cases hp : placedB rows with
  | false => rfl
  | true =>
    obtain ⟨q, hq, e⟩ := List.mem_map.1 ((plN_pos _ _).1 h)
    obtain ⟨i, hi⟩ := List.getElem?_of_mem hq
    obtain ⟨hl, _⟩ := List.getElem?_eq_some_iff.1 hi
    rw [List.length_take] at hl
    rw [List.getElem?_take_of_lt (by omega)] at hi
    exact absurd e (places_apart hp hi hk (by omega))
theorem placed_yes {rows : List Rw} (h : okTo rows rows.length) : placedB rows = true := by
  unfold okTo at h
  rw [List.take_length] at h
  unfold placedB
  rw [Bool.and_eq_true]
  exact ⟨List.all_eq_true.2 fun r hr => decide_eq_true (h.1 r hr), decide_eq_true h.2⟩

/-- Rises so far. -/
theorem rises_snoc : ∀ (l : List Bs) (a b : Bs), risesB (l ++ [a, b]) = (risesB (l ++ [a]) && decide (a < b))
  | [], a, b => by simp [risesB]
  | [x], a, b => by simp [risesB]
  | x :: y :: l, a, b => by
    have := rises_snoc (y :: l) a b
    rw [List.cons_append, List.cons_append, risesB, List.cons_append, List.cons_append, risesB]
    rw [List.cons_append] at this
    rw [this, Bool.and_assoc]
    simp
theorem rises_pre {l : List Bs} (k : Nat) (h : risesB l = true) : risesB (l.take k) = true := by
  rw [rises_pair] at h ⊢
  exact h.sublist (List.take_sublist k l)
theorem rises_next {rows : List Rw} {k : Nat} {q r : Rw} (hq : rows[k]? = some q) (hr : rows[k + 1]? = some r) : risesB (sumsOf (rows.take (k + 2))) = (risesB (sumsOf (rows.take (k + 1))) && decide (q.sum < r.sum)) := by
  rw [take_snoc' hr, take_snoc' hq]
  unfold sumsOf
  rw [List.map_append, List.map_append, List.append_assoc]
  exact rises_snoc _ _ _
end Go.Proofs.YtdjmcehoaneekaaDoor.Ix
