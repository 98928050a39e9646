/-
  strings.SplitN at a blank: seven pieces at most.
  Steps of a region that draws its order; bytes of one's own in a cell; appends of texts.
  bytes.Cut at one byte.
  The reader: errors, faults, keep.
-/
import Derived.Test.YtnboagmibhllpaaGreatDoorC07
import Derived.Test.YtnboagmibhllpaaGreatDoorC02
import Derived.Test.YtnboagmibhllpaaGreatDoorC09
import Derived.Lib.AppendStr
import Derived.Lib.SmallJoins
import Derived.Test.YtnboagmibhllpaaGreatDoorC05
import Derived.Test.YtnboagmibhllpaaGreatDoorC06
import Derived.Test.YtnboagmibhllpaaGreatDoorLay
import Derived.Test.YtnboagmibhllpaaGreatDoorC03
import Derived.Test.YtnboagmibhllpaaGreatDoorC08
import Derived.LaidEql
import Derived.Stop.Asserts

namespace Go.Proofs.YtnboagmibhllpaaGreatDoor.Ro
open Go.Proofs.YtnboagmibhllpaaGreatDoor
open Go Go.RowKit

theorem index_neW (s : Bs) (c : UInt8) (h : c ≠ 32) : Go.Lib.index (c :: s) [32] = if Go.Lib.index s [32] == -1 then -1 else Go.Lib.index s [32] + 1 := by
  have hf : List.isPrefixOf [(32 : UInt8)] (c :: s) = false := by simp [List.isPrefixOf]; exact fun e => h e.symm
  rw [Go.Lib.index, hf]
  simp
theorem index_eqW (s : Bs) : Go.Lib.index (32 :: s) [32] = 0 := by
  have hf : List.isPrefixOf [(32 : UInt8)] (32 :: s) = true := by simp [List.isPrefixOf]
  rw [Go.Lib.index, hf]
  rfl
theorem index_noneW : ∀ {s : Bs}, s.count 32 = 0 → Go.Lib.index s [32] = -1
  | [], _ => rfl
  | c :: s, h => by
    have hc : c ≠ 32 := fun e => by rw [e] at h; simp at h
    rw [index_neW s c hc, index_noneW (s := s) (by rw [List.count_cons_of_ne hc] at h; exact h)]
    rfl
theorem index_someW : ∀ {s : Bs}, 0 < s.count 32 → ∃ i : Nat, Go.Lib.index s [32] = i ∧ i < s.length ∧ words s = s.take i :: words (s.drop (i + 1)) ∧ s.count 32 = (s.drop (i + 1)).count 32 + 1
  | [], h => by simp at h
  | c :: s, h => by
    by_cases hc : c = 32
    · subst hc
      exact ⟨0, index_eqW s, by simp, by rw [words_blank]; rfl, by simp⟩
    · obtain ⟨i, h1, h2, h3, h4⟩ := index_someW (s := s) (by rw [List.count_cons_of_ne hc] at h; exact h)
      refine ⟨i + 1, ?_, by simp; omega, ?_, ?_⟩
      · rw [index_neW s c hc, h1]
        have : ¬ ((i : Int) == -1) = true := by simp
        rw [if_neg this]; omega
      · rw [words_cons c hc s _ _ h3]; rfl
      · rw [List.count_cons_of_ne hc, h4]; rfl
theorem index_byteW : ∀ s : Bs, Lib.index s [32] = Lib.indexByte s 32
  | [] => rfl
  | c :: s => by
    by_cases h : c = 32
    · subst h
      rw [index_eqW]; unfold Lib.indexByte; simp
    · have hb : ¬ (c == 32) = true := by simpa using h
      rw [index_neW s c h, index_byteW s]
      exact (if_neg hb).symm
set_option maxHeartbeats 400000 in
theorem sIndex_anyW (s : Bs) (w : World) : Calls Tryz.prog 146 #[.string ⟨s.toArray⟩, .string ⟨#[32]⟩] w fun e w' => e = .returned (.int .i64 (Lib.index s [32])) ∧ w' = w := by
  rw [index_byteW]
  have H := Lib.hid (Index_any s 32 w)
  go_enter Tryz.func146, Tryz.ntmps146
  go_wp2_with fail
  refine H.out.mono ?_
  rintro e w' ⟨rfl, rfl⟩
  go_wp2_with fail
  go_ret
  exact ⟨rfl, rfl⟩


theorem splitK_short : ∀ (k : Nat) (s : Bs), s.count 32 ≤ k → Go.Lib.splitK [32] 0 k s = words s
  | 0, s, h => by
    show [s] = words s
    rw [words_one (p := s)]
    exact List.count_eq_zero.1 (by omega)
  | k + 1, s, h => by
    rcases Nat.eq_zero_or_pos (s.count 32) with h0 | h0
    · rw [Go.Lib.splitK, index_noneW h0]
      rw [if_pos (by decide), words_one (List.count_eq_zero.1 h0)]
    · obtain ⟨i, h1, h2, h3, h4⟩ := index_someW h0
      rw [Go.Lib.splitK, h1]
      have : ¬ ((i : Int) == -1) = true := by simp
      rw [if_neg this, h3]
      have ih := splitK_short k (s.drop (i + 1)) (by omega)
      simp
      exact ih
theorem splitK_long : ∀ (k : Nat) (s : Bs), k ≤ s.count 32 → (Go.Lib.splitK [32] 0 k s).length = k + 1
  | 0, s, h => rfl
  | k + 1, s, h => by
    obtain ⟨i, h1, h2, h3, h4⟩ := index_someW (s := s) (by omega)
    rw [Go.Lib.splitK, h1]
    have : ¬ ((i : Int) == -1) = true := by simp
    rw [if_neg this]
    have ih := splitK_long k (s.drop (i + 1)) (by omega)
    simp
    exact ih
theorem cells_of (l : List ByteArray) (N : Nat) (j : Nat) (x : ByteArray) (h : l[j]? = some x) : (Lib.cellsOf l N)[j]? = some (.string x) := by
  unfold Lib.cellsOf
  have hj := (List.getElem?_eq_some_iff.1 h).1
  rw [List.getElem?_toArray, List.getElem?_append_left (by simpa using hj), List.getElem?_map, h]; rfl
def SplitP (s : Bs) (w : World) (e : Ending) (w' : World) : Prop :=
  ∃ (ps : List Bs) (n N : Nat), e = .returned (.slice (some ⟨w.heap.size, 0, none⟩) n N) ∧ n = ps.length ∧ n ≤ 7 ∧ StrsR w' (.slice (some ⟨w.heap.size, 0, none⟩) n N) ps ∧ (n = 6 → ps = words s) ∧ ((words s).length = 6 → n = 6) ∧ Below w.heap.size w w'
set_option maxHeartbeats 1000000 in
theorem splitN_p (s : Bs) (hs : s.length ≤ 1000000) (w : World) : Calls Tryz.prog 101 #[.string ⟨s.toArray⟩, .string ⟨#[32]⟩, .int .i64 7] w (SplitP s w) := by
  have hcB : Lib.countB (⟨s.toArray⟩ : ByteArray) ⟨#[32]⟩ = s.count 32 := Lib.count_one 32 s
  have hC := Any.strings_Count_one { Tryz.splA with } ⟨s.toArray⟩ 32 w
  have hle : s.count 32 ≤ s.length := List.count_le_length
  obtain ⟨N, hN⟩ : ∃ N : Nat, (N : Int) = min 7 ((s.length : Int) + 1) := ⟨min 7 (s.length + 1), by omega⟩
  have h := Any.strings_genSplit_core { Tryz.splA with } (by kernel_rfl) ⟨s.toArray⟩ ⟨#[32]⟩ 0 7 N w (by show s.length < _; omega) (by decide) (by decide)
    (fun x c _ => by
      have hx := sIndex_anyW x.data.toList (w.alloc (.cells c 9))
      exact hx)
    (by rw [hcB]; exact hC) (by decide) (by decide) (by rw [if_neg (by decide)]; exact hN)
  obtain ⟨bs, hbs⟩ : ∃ bs, bs = Lib.splitB ⟨#[32]⟩ 0 (N - 1) ⟨s.toArray⟩ := ⟨_, rfl⟩
  rw [← hbs] at h
  have hd : bs.map (·.data.toList) = Lib.splitK [32] 0 (N - 1) s := by rw [hbs]; exact Lib.splitB_data ⟨#[32]⟩ 0 (N - 1) ⟨s.toArray⟩
  have hlen : bs.length = (Lib.splitK [32] 0 (N - 1) s).length := by rw [← hd, List.length_map]
  have hcase : (N - 1 = 6 ∧ 6 < s.count 32) ∨ s.count 32 ≤ N - 1 := by omega
  have hn7 : bs.length ≤ N := by
    rcases hcase with ⟨h1, h2⟩ | h2
    · rw [hlen, splitK_long _ _ (by omega)]; omega
    · rw [hlen, splitK_short _ _ h2, words_len]; omega
  have h6 : bs.length = 6 → bs.map (·.data.toList) = words s := fun h6 => by
    rcases hcase with ⟨h1, h2⟩ | h2
    · rw [hlen, splitK_long _ _ (by omega)] at h6; omega
    · rw [hd, splitK_short _ _ h2]
  have h6' : (words s).length = 6 → bs.length = 6 := fun h6 => by
    rcases hcase with ⟨h1, h2⟩ | h2
    · rw [words_len] at h6; omega
    · rw [hlen, splitK_short _ _ h2]; exact h6
  have HF : Hid (∀ w', w' = w.alloc (.cells (Lib.cellsOf bs N) 9) → SplitP s w (.returned (.slice (some ⟨w.heap.size, 0, none⟩) bs.length N)) w') := Lib.hid fun w' hw => by
    subst hw
    refine ⟨bs.map (·.data.toList), bs.length, N, rfl, by simp, by omega, .inr ⟨w.heap.size, 0, N, by simp, by simp; exact hn7, by simp, fun j hj x hx i hi => ?_⟩, h6, h6', below_new _ _⟩
    obtain rfl : i = 0 := by omega
    rw [Nat.zero_add, Nat.mul_one, Nat.add_zero, cell_of_row _ _ j _ _ _ (heap_alloc_new w _)]
    rw [List.getElem?_map] at hx
    cases hb : bs[j]? with
    | none => rw [hb] at hx; cases hx
    | some y =>
      rw [hb] at hx
      cases hx
      exact cells_of bs N j y hb
  have H := Lib.hid h
  clear h hC hcB hle hbs hd hlen hcase hn7 h6 h6' hN
  obtain ⟨m, hm⟩ : ∃ m, m = bs.length := ⟨_, rfl⟩
  rw [← hm] at H HF
  clear hm
  go_enter Tryz.func101, Tryz.ntmps101
  go_wp2_with fail
  refine H.out.mono ?_
  rintro e w' ⟨rfl, hw⟩
  have HW := Lib.hid (HF.out w' hw)
  clear hw
  go_wp2_with fail
  go_ret
  exact HW.out
end Go.Proofs.YtnboagmibhllpaaGreatDoor.Ro


namespace Go.Proofs.YtnboagmibhllpaaGreatDoor.Ro
open Go.Proofs.YtnboagmibhllpaaGreatDoor
open Go Go.RowKit

section
variable {P : Program} {ops : Array Oper} {Q : Exit → Go.Act → World → Prop} {S : World → Prop}
theorem held_call {i : Nat} {oi : Oper} {fuel : Nat} {listed : Array Bool} {a : Go.Act} {w : World} (f : FuncId) (vs : Array Value) (hi : ops[i]? = some oi)
    (hw : Region.wanted oi (yielded ops a.tmps) = true) (he : (execOp a.eval oi).run P w = .ok (.enter f vs) w)
    (hc : Calls P f vs w fun e w' => ∃ v, e = .returned v ∧ S w' ∧ wpAnyH P .any ops Q S fuel (listed.setIfInBounds i true) (a.put oi.dst v) w') :
    wpOp P ops Q i (fun a' w' => S w' ∧ wpAnyH P .any ops Q S fuel (listed.setIfInBounds i true) a' w') a w := by
  unfold wpOp
  rw [hi]
  simp only
  rw [if_pos hw]
  left
  unfold Oper.wp
  rw [he, Oper.upon_enter]
  refine hc.mono ?_
  rintro e w' ⟨v, rfl, h⟩
  exact h
theorem held_one_call {i : Nat} {oi : Oper} {fuel : Nat} {listed : Array Bool} {a : Go.Act} {w : World} (f : FuncId) (vs : Array Value) (hr : Region.ready .any ops listed = [i]) (hi : ops[i]? = some oi)
    (hw : Region.wanted oi (yielded ops a.tmps) = true) (he : (execOp a.eval oi).run P w = .ok (.enter f vs) w)
    (hc : Calls P f vs w fun e w' => ∃ v, e = .returned v ∧ S w' ∧ wpAnyH P .any ops Q S fuel (listed.setIfInBounds i true) (a.put oi.dst v) w') :
    wpAnyH P .any ops Q S (fuel + 1) listed a w := held_one hr (held_call f vs hi hw he hc)
end
section
variable {P : Program} {a : Go.Act} {o : Oper} {W W' : World}
theorem y_build {t : TypeId} {n : Nat} {es : Array (Nat × Operand)} {vs : Array (Nat × Value)} {r : Value} (ho : o.op = .buildSlice t n es) (hv : es.map (fun e => (e.1, a.eval e.2)) = vs) (h : (Instr.buildSlice t n vs).run P W = .ok r W') : (execOp a.eval o).run P W = .ok (.value r) W' := by
  subst hv
  simp only [execOp, ho]
  simp [h, Result.andThen]
theorem y_appendS {st xt : TypeId} {s y : Operand} {sv yv r : Value} (ho : o.op = .call { callee := .builtin .append, args := #[s, y], argTypes := #[st, xt] }) (hs : a.eval s = sv) (hy : a.eval y = yv)
    (h : (Builtin.append_ #[st, xt] o.type #[sv, yv]).run P W = .ok r W') : (execOp a.eval o).run P W = .ok (.value r) W' := by
  subst hs hy
  simp [execOp, ho, resolve, invoke, builtin, h, Result.andThen]
end

/-! ### Bytes in a cell -/
theorem strCells_S (m : List UInt8) : Lib.strCells (⟨m.toArray⟩ : ByteArray) = m.map bv := by
  unfold Lib.strCells; rfl
/-- A text's bytes behind one's own. -/
theorem run_appS {w : World} {base : Nat} {v : Value} {l : List UInt8} (h : Ow w base v l) (m : List UInt8) (hl : l.length + m.length ≤ 140737488355328) (hb : base ≤ w.heap.size) (ty : TypeId) :
    ∃ v' w', (Builtin.append_ #[26, 9] ty #[v, .string ⟨m.toArray⟩]).run Tryz.prog w = .ok v' w' ∧ Ow w' base v' (l ++ m) ∧ w.grownBy w' v.ownBlock := by
  obtain ⟨i, hi⟩ : ∃ i, Tryz.prog.info? 5 = some i := Option.isSome_iff_exists.1 (by kernel_rfl)
  have hi0 : (Tryz.prog.info? 5).map (fun i => (i.zero, i.size, i.bytes)) = some (some (.int .u8 0), 1, 1) := by kernel_rfl
  rw [hi] at hi0
  simp only [Option.map_some, Option.some.injEq, Prod.mk.injEq] at hi0
  have hsz : (⟨m.toArray⟩ : ByteArray).size = m.length := rfl
  obtain ⟨v', w', h1, h2, h3, _⟩ := Lib.run_append_own_string (P := Tryz.prog) w base 26 9 ty 5 i Tryz.underlying26 Tryz.underlying9 hi hi0.1 hi0.2.1 hi0.2.2 v l.length (l.map bv) h ⟨m.toArray⟩ (by rw [hsz]; unfold maxLen; omega) (by rw [hsz]; omega) hb
  rw [hsz, strCells_S] at h2
  exact ⟨v', w', h1, by unfold Ow; rw [List.length_append, List.map_append]; exact h2, h3⟩
/-- Block b holds a slice of one's own bytes, above base. -/
def Bf (w : World) (b base : Nat) (l : Bs) : Prop := ∃ A n c, w.heap[b]? = some (.cells #[.slice A n c] 26 (0, 0)) ∧ Ow w base (.slice A n c) l ∧ n = l.length ∧ b < base
theorem Bf.lt {w : World} {b base : Nat} {l : Bs} (h : Bf w b base l) : b < w.heap.size := by
  obtain ⟨A, n, c, h1, _⟩ := h; exact lt_heap h1
/-- A block of bytes. -/
def IsBy (w : World) (k : Nat) : Prop := ∃ cs fr, w.heap[k]? = some (.cells cs 5 fr)
/-- What was turned: the cell, and bytes above the base. -/
def Wt (b base : Nat) (w w' : World) : Prop := But (fun k => k = b ∨ base ≤ k ∧ IsBy w k) w w'
theorem Wt.refl (b base : Nat) (w : World) : Wt b base w w := But.refl _ _
theorem Wt.size {b base : Nat} {w w' : World} (h : Wt b base w w') : w.heap.size ≤ w'.heap.size := But.size h
theorem Wt.trans {b base : Nat} {x y z : World} (h : Wt b base x y) (k : Wt b base y z) : Wt b base x z :=
  ⟨k.os.trans h.os, k.tape.trans h.tape, k.output.trans h.output, Nat.le_trans (But.size h) (But.size k), fun i hi hn => by
    have e := h.block i hi hn
    refine (k.block i (Nat.lt_of_lt_of_le hi (But.size h)) fun hs => hn ?_).trans e
    rcases hs with hs | ⟨hs, cs, fr, hc⟩
    · exact .inl hs
    · exact .inr ⟨hs, cs, fr, by rw [← e]; exact hc⟩⟩
theorem Wt.new {b base : Nat} {w w' : World} (h : Below w.heap.size w w') : Wt b base w w' := But.of_new h
theorem Wt.keep {b base : Nat} {w w' : World} (h : Wt b base w w') {k : Nat} {cs : Array Value} {t : TypeId} {fr : Nat × Nat} (hk : w.heap[k]? = some (.cells cs t fr)) (hb : k ≠ b) (ht : k < base ∨ t ≠ 5) : w'.heap[k]? = some (.cells cs t fr) :=
  (h.block k (lt_heap hk) fun hs => by
    rcases hs with hs | ⟨hs, cs', fr', hc⟩
    · exact hb hs
    · rcases ht with ht | ht
      · omega
      · rw [hk] at hc; cases hc; exact ht rfl).trans hk
theorem Wt.below {b base B : Nat} {w w' : World} (h : Wt b base w w') (hb : B ≤ b) (hB : B ≤ base) (hs : B ≤ w.heap.size) : Below B w w' :=
  But.below h (fun k _ hk => by rcases hk with hk | hk <;> omega) hs
theorem Bf.below {w w' : World} {b base B : Nat} {l : Bs} (h : Bf w b base l) (hb : Below B w w') (hlt : w.heap.size ≤ B) : Bf w' b base l := by
  obtain ⟨A, n, c, h1, h2, h3⟩ := h
  exact ⟨A, n, c, (hb.block b (Nat.lt_of_lt_of_le (lt_heap h1) hlt)).trans h1, h2.below hb hlt, h3⟩
theorem Ow.slice {w : World} {base : Nat} {v : Value} {l : Bs} (h : Ow w base v l) : ∃ A n c, v = .slice A n c ∧ n = l.length := by
  obtain ⟨A, c, e⟩ := own_slice h
  exact ⟨A, _, c, e, rfl⟩
theorem Ow.notb {w : World} {base : Nat} {v : Value} {l : Bs} (h : Ow w base v l) {g : Nat} (hg : v.ownBlock = some g) : base ≤ g := (own_block h hg).1
theorem but_set (W : World) (A i : Nat) (v : Value) : But (fun k => k = A) W (W.setCell ⟨A, i, none⟩ v) := (But.refl (fun k => k = A) W).setCell (p := ⟨A, i, none⟩) rfl v
theorem blk_set {W : World} {b i : Nat} {cs : Array Value} {t : TypeId} {fr : Nat × Nat} (h : W.heap[b]? = some (.cells cs t fr)) (v : Value) : (W.setCell ⟨b, i, none⟩ v).heap[b]? = some (.cells (cs.setIfInBounds i v) t fr) := Joins.block_setCell h v
/-- An append, and the store behind it. -/
theorem Bf.app {w w' : World} {b base : Nat} {l m : Bs} {A : Option Addr} {n c : Nat} {v' : Value} (hk : w.heap[b]? = some (.cells #[.slice A n c] 26 (0, 0))) (hw : Ow w base (.slice A n c) l) (hbb : b < base) (h' : Ow w' base v' (l ++ m)) (hg : w.grownBy w' (Value.slice A n c).ownBlock) :
    Bf (w'.setCell ⟨b, 0, none⟩ v') b base (l ++ m) ∧ Wt b base w (w'.setCell ⟨b, 0, none⟩ v') ∧ w'.cell? ⟨b, 0, none⟩ = some (.slice A n c) ∧ w'.frozen? ⟨b, 0, none⟩ = false := by
  have hne : (Value.slice A n c).ownBlock ≠ some b := fun e => by have := Ow.notb hw e; omega
  have hb' : w'.heap[b]? = some (.cells #[.slice A n c] 26 (0, 0)) := (hg.block b (lt_heap hk) fun e => hne e.symm).trans hk
  obtain ⟨A', n', c', rfl, hn'⟩ := Ow.slice h'
  refine ⟨⟨A', n', c', (blk_set hb' _).trans rfl, ?_, hn', hbb⟩, Wt.trans ((But.of_grown hg).mono fun k _ h => .inr ⟨Ow.notb hw h, (own_block hw h).2.2.elim fun cur hc => ⟨cur, _, hc⟩⟩) ((but_set w' b 0 _).mono fun k _ h => .inl h), ?_, ?_⟩
  · exact row_but h' (but_set w' b 0 _) fun g hg e => by have := Ow.notb h' hg; omega
  · exact (cell_of_row w' b 0 _ _ _ hb').trans rfl
  · simp [World.frozen?, hb']
end Go.Proofs.YtnboagmibhllpaaGreatDoor.Ro


namespace Go.Proofs.YtnboagmibhllpaaGreatDoor.Ro
open Go.Proofs.YtnboagmibhllpaaGreatDoor
open Go Go.RowKit

theorem size_u8 (W : World) : (sizeOf 5).run Tryz.prog W = .ok 1 W := by kernel_rfl
theorem run_cut1 (W : World) (a : Option Addr) (n c lo : Nat) (h1 : lo ≤ n) : (Instr.sliceAt 26 (.slice a n c) (some (.int .i64 (lo : Int))) none none).run Tryz.prog W = .ok (.slice (if c = lo then a else a.map (·.add (lo * 1))) (n - lo) (c - lo)) W := by
  have he : Tryz.prog.elem 26 = 5 := by kernel_rfl
  have hu : Tryz.prog.underlying 26 = some (.slice (Tryz.prog.elem 26)) := by rw [he]; exact Tryz.underlying26
  rw [run_sliceAt_slice W _ _ _ _ _ hu]
  refine (run_slice_l W _ _ _ _ hu .i64 (lo : Int) (by omega) (by omega)).trans ?_
  rw [he, size_u8]
  simp only [Result.andThen, sliced, Int.toNat_natCast]
theorem Rb.cut {w : World} {b : Bs} {a : Option Addr} {c : Nat} (h : Rb w (.slice a b.length c) b) (lo hi : Nat) (h1 : lo ≤ hi) (h2 : hi ≤ b.length) : Rb w (.slice (if c = lo then a else a.map (·.add (lo * 1))) (hi - lo) (c - lo)) ((b.take hi).drop lo) := by
  have hlen : ((b.take hi).drop lo).length = hi - lo := by simp [Nat.min_eq_left h2]
  rcases h with ⟨⟨A, e⟩, rfl⟩ | ⟨g, o, c', e, hc, hg, hcell⟩
  · cases e
    have hz : hi = 0 := by simpa using h2
    exact .inl ⟨⟨_, by rw [hz, Nat.zero_sub]⟩, by simp⟩
  · cases e
    by_cases hcl : c = lo
    · have hz : hi = lo := by omega
      exact .inl ⟨⟨_, by rw [hz, hcl, Nat.sub_self]⟩, List.length_eq_zero_iff.1 (by omega)⟩
    · rw [if_neg hcl]
      refine .inr ⟨g, o + lo, c - lo, ?_, by omega, hg, fun j hj => ?_⟩
      · rw [hlen, Nat.mul_one]; simp [Addr.add]
      · rw [hlen] at hj
        rw [Nat.add_assoc, hcell (lo + j) (by omega)]
        congr 4
        rw [List.getD_eq_getElem?_getD, List.getD_eq_getElem?_getD, List.getElem?_drop, List.getElem?_take, if_pos (by omega)]
theorem Rb.from' {w : World} {b : Bs} {a : Option Addr} {c : Nat} (h : Rb w (.slice a b.length c) b) (lo : Nat) (h1 : lo ≤ b.length) : Rb w (.slice (if c = lo then a else a.map (·.add (lo * 1))) (b.length - lo) (c - lo)) (b.drop lo) := by
  have := Rb.cut h lo b.length h1 (Nat.le_refl _)
  rwa [List.take_length] at this

theorem bytesOf_map (s : Bs) : Lib.bytesOf (s.map fun c => (c.toNat : Int)) = s := by
  unfold Lib.bytesOf
  rw [List.map_map]
  refine (List.map_congr_left fun c _ => ?_).trans (List.map_id _)
  show UInt8.ofNat ((c.toNat : Int)).toNat = c
  rw [Int.toNat_natCast]
  simp
theorem ixb_lt {s : Bs} {l r : Bs} (h : cutAt 10 s = some (l, r)) : Lib.indexByte s 10 = (l.length : Int) := ixb_some 10 s l r h
theorem rb_at {w : World} {g o n c : Nat} {s : Bs} (h : Rb w (.slice (some ⟨g, o, none⟩) n c) s) (h0 : 0 < s.length) : n = s.length ∧ n ≤ c ∧ g < w.heap.size ∧ ∀ j, j < s.length → w.cell? ⟨g, o + j, none⟩ = some (.int .u8 ((s.getD j 0).toNat : Int)) := by
  rcases h with ⟨⟨A, e⟩, rfl⟩ | ⟨g', o', c', e, hc, hg, hcell⟩
  · simp at h0
  · cases e; exact ⟨rfl, hc, hg, hcell⟩
set_option maxRecDepth 100000 in
set_option maxHeartbeats 1000000 in
theorem bIdx_p {w : World} {g o n c : Nat} {s : Bs} (h : Rb w (.slice (some ⟨g, o, none⟩) n c) s) (h0 : 0 < s.length) {b : Nat} (hb : w.cell? ⟨b, 0, none⟩ = some (.int .u8 10)) :
    Calls Tryz.prog 141 #[.slice (some ⟨g, o, none⟩) n c, .slice (some ⟨b, 0, none⟩) 1 1] w fun e w' => e = .returned (.int .i64 (Lib.indexByte s 10)) ∧ w' = w := by
  obtain ⟨hn, hc, hg, hcell⟩ := rb_at h h0
  have hx := Any.bytes_IndexByte Tryz.bixA g o n c (s.map fun c => (c.toNat : Int)) 10 w (by simp [hn]) (fun i hi => by
    rw [hcell i (by omega)]
    congr 2
    rw [List.getD_eq_getElem?_getD, List.getD_eq_getElem?_getD, List.getElem?_map, List.getElem?_eq_getElem (by omega)]; rfl)
  rw [bytesOf_map] at hx
  have HX := Lib.hid hx
  obtain ⟨z, hz⟩ : ∃ z, z = Lib.indexByte s 10 := ⟨_, rfl⟩
  have e10 : (10 : Int).toNat.toUInt8 = 10 := rfl
  rw [e10, ← hz] at HX
  rw [← hz]
  clear hx hz e10 hcell h hn hc hg h0
  go_enter Tryz.func141, Tryz.ntmps141
  go_wp2_with fail
  refine HX.out.mono ?_
  rintro e w' ⟨rfl, rfl⟩
  go_wp2_with fail
  go_ret
  exact ⟨rfl, rfl⟩
theorem run_lo (W : World) (A : Option Addr) (n c k : Nat) (hk : k ≤ c) : (Instr.sliceAt 26 (.slice A n c) none (some (.int .i64 (k : Int))) none).run Tryz.prog W = .ok (.slice A k c) W := by
  have h1 : (k : Int) ≤ (c : Int) := by omega
  cases A <;> simp [go_sem, h1]
/-- What Cut answers, of bytes that lie in w0. -/
def BCutP (w0 : World) (s : Bs) (w : World) (e : Ending) (w' : World) : Prop :=
  ((cutAt 10 s = none ∧ ∃ A1 n1 c1 A2 n2 c2, e = .returned (.tuple #[.slice A1 n1 c1, .slice A2 n2 c2, .bool false])) ∨ ∃ l r A c n A1 n1 c1, cutAt 10 s = some (l, r) ∧ e = .returned (.tuple #[.slice A n c, .slice A1 n1 c1, .bool true]) ∧ n = l.length ∧ n1 = r.length ∧ Rb w0 (.slice A n c) l ∧ Rb w0 (.slice A1 n1 c1) r) ∧ Below w.heap.size w w'
set_option maxRecDepth 100000 in
set_option maxHeartbeats 4000000 in
theorem bCut_p {w0 w : World} {g o n c : Nat} {s : Bs} (h : Rb w0 (.slice (some ⟨g, o, none⟩) n c) s) (hw : Below w0.heap.size w0 w) (h0 : 0 < s.length) (hl : s.length ≤ 1000000) {b : Nat} (hb : w.cell? ⟨b, 0, none⟩ = some (.int .u8 10)) :
    Calls Tryz.prog 124 #[.slice (some ⟨g, o, none⟩) n c, .slice (some ⟨b, 0, none⟩) 1 1] w (BCutP w0 s w) := by
  have HI := Lib.hid (bIdx_p (h.below hw (Nat.le_refl _)) h0 hb)
  obtain ⟨hn, hc, hg, hcell⟩ := rb_at h h0
  cases hcut : cutAt 10 s with
  | none =>
    have e := ixb_none 10 s hcut
    rw [e] at HI
    have HC := Lib.hid hcut
    clear e hcut hcell hn hc hg h hl h0
    go_enter Tryz.func124, Tryz.ntmps124
    go_wp2_with fail
    refine HI.out.mono ?_
    rintro e w' ⟨rfl, rfl⟩
    go_wp2_with fail
    go_ret3
    exact ⟨.inl ⟨HC.out, _, _, _, _, _, _, rfl⟩, Below.refl _ _⟩
  | some p =>
    obtain ⟨l, r⟩ := p
    rw [ixb_lt hcut] at HI
    obtain ⟨es, _⟩ := cutAt_some hcut
    have hsl : s.length = l.length + 1 + r.length := by rw [es]; simp; omega
    obtain ⟨k, hk⟩ : ∃ k, k = l.length := ⟨_, rfl⟩
    rw [← hk] at HI
    have hs0 := fun W => run_lo W (some ⟨g, o, none⟩) n c k (by omega)
    have hs1 := fun W => run_cut1 W (some ⟨g, o, none⟩) n c (k + 1) (by omega)
    have hr1 := Rb.from' (b := s) (a := some ⟨g, o, none⟩) (c := c) (by rw [← hn]; exact h) (k + 1) (by omega)
    have hr0 := Rb.cut (b := s) (a := some ⟨g, o, none⟩) (c := c) (by rw [← hn]; exact h) 0 k (by omega) (by omega)
    have ed : s.drop (k + 1) = r := by rw [es, hk, List.drop_append]; simp
    have et : (s.take k).drop 0 = l := by rw [es, hk]; simp
    have ez : (if c = 0 then (some ⟨g, o, none⟩ : Option Addr) else (some ⟨g, o, none⟩ : Option Addr).map (·.add (0 * 1))) = some ⟨g, o, none⟩ := by split <;> simp [Addr.add]
    rw [ed, ← hn] at hr1
    rw [et, ez, Nat.sub_zero, Nat.sub_zero] at hr0
    obtain ⟨A1, hA1⟩ : ∃ A, A = (if c = k + 1 then (some ⟨g, o, none⟩ : Option Addr) else (some ⟨g, o, none⟩ : Option Addr).map (·.add ((k + 1) * 1))) := ⟨_, rfl⟩
    obtain ⟨n1, hn1⟩ : ∃ m, m = n - (k + 1) := ⟨_, rfl⟩
    obtain ⟨c1, hc1⟩ : ∃ m, m = c - (k + 1) := ⟨_, rfl⟩
    rw [← hA1, ← hn1, ← hc1] at hr1
    rw [← hA1, ← hn1, ← hc1] at hs1
    have hkI : (0 : Int) ≤ (k : Int) := by omega
    have hadd : ∀ W, (binOp .add 3 (.int .i64 (k : Int)) (.int .i64 1)).run Tryz.prog W = .ok (.int .i64 ((k + 1 : Nat) : Int)) W := fun W => by
      have h : IntKind.i64.wrap ((k : Int) + 1) = ((k + 1 : Nat) : Int) := by rw [IntWalk.i64_in _ (by omega)]; rfl
      simp [go_sem, h]
    have HF : Hid (∀ w' : World, Below w.heap.size w w' → BCutP w0 s w (.returned (.tuple #[.slice (some ⟨g, o, none⟩) k c, .slice A1 n1 c1, .bool true])) w') := Lib.hid fun w' hq => ⟨.inr ⟨l, r, _, c, k, A1, n1, c1, hcut, rfl, hk, by omega, hr0, hr1⟩, hq⟩
    clear hcell hn hc hg h hl h0 hA1 hcut es hsl hk hn1 hc1 hr0 hr1 ed et ez
    go_enter Tryz.func124, Tryz.ntmps124
    go_wp2_with fail
    refine HI.out.mono ?_
    rintro e w' ⟨rfl, rfl⟩
    clear HI
    go_upto_region 3 with fail
    refine AnyB.start (by kernel_rfl) ?_
    refine AnyB.take 0 (.slice (some ⟨g, o, none⟩) n c) rfl (by kernel_rfl) (by kernel_rfl) (by kernel_rfl) (fun _ _ _ h => h) (by kernel_rfl) (fun W hW => by kernel_rfl) ?_
    refine AnyB.take 1 (.int .i64 (k : Int)) rfl (by kernel_rfl) (by kernel_rfl) (by kernel_rfl) (fun _ _ _ h => h) (by kernel_rfl) (fun W hW => by kernel_rfl) ?_
    refine AnyB.take 2 (.slice (some ⟨g, o, none⟩) k c) rfl (by kernel_rfl) (by kernel_rfl) (by kernel_rfl) (fun _ _ _ h => h) (by kernel_rfl) (fun W hW => y_slice (xv := .slice (some ⟨g, o, none⟩) n c) (lv := none) (hv := some (.int .i64 (k : Int))) (mv := none) rfl (by kernel_rfl) rfl (by kernel_rfl) rfl (hs0 W)) ?_
    refine AnyB.take 3 (.slice (some ⟨g, o, none⟩) n c) rfl (by kernel_rfl) (by kernel_rfl) (by kernel_rfl) (fun _ _ _ h => h) (by kernel_rfl) (fun W hW => by kernel_rfl) ?_
    refine AnyB.take 4 (.int .i64 (k : Int)) rfl (by kernel_rfl) (by kernel_rfl) (by kernel_rfl) (fun _ _ _ h => h) (by kernel_rfl) (fun W hW => by kernel_rfl) ?_
    refine AnyB.take 5 (.slice (some ⟨b, 0, none⟩) 1 1) rfl (by kernel_rfl) (by kernel_rfl) (by kernel_rfl) (fun _ _ _ h => h) (by kernel_rfl) (fun W hW => by kernel_rfl) ?_
    refine AnyB.take 6 (.int .i64 1) rfl (by kernel_rfl) (by kernel_rfl) (by kernel_rfl) (fun _ _ _ h => h) (by kernel_rfl) (fun W hW => by kernel_rfl) ?_
    refine AnyB.take 7 (.int .i64 ((k + 1 : Nat) : Int)) rfl (by kernel_rfl) (by kernel_rfl) (by kernel_rfl) (fun _ _ _ h => h) (by kernel_rfl) (fun W hW => y_bin (x := .int .i64 (k : Int)) (y := .int .i64 1) rfl (by kernel_rfl) (by kernel_rfl) rfl (hadd W)) ?_
    refine AnyB.take 8 (.slice A1 n1 c1) rfl (by kernel_rfl) (by kernel_rfl) (by kernel_rfl) (fun _ _ _ h => h) (by kernel_rfl) (fun W hW => y_slice (xv := .slice (some ⟨g, o, none⟩) n c) (lv := some (.int .i64 ((k + 1 : Nat) : Int))) (hv := none) (mv := none) rfl (by kernel_rfl) (by kernel_rfl) rfl rfl (hs1 W)) ?_
    refine AnyB.take 9 (.slice (some ⟨g, o, none⟩) k c) rfl (by kernel_rfl) (by kernel_rfl) (by kernel_rfl) (fun _ _ _ h => h) (by kernel_rfl) (fun W hW => by kernel_rfl) ?_
    refine AnyB.take 10 (.slice A1 n1 c1) rfl (by kernel_rfl) (by kernel_rfl) (by kernel_rfl) (fun _ _ _ h => h) (by kernel_rfl) (fun W hW => by kernel_rfl) ?_
    refine AnyB.take 11 (.bool true) rfl (by kernel_rfl) (by kernel_rfl) (by kernel_rfl) (fun _ _ _ h => h) (by kernel_rfl) (fun W hW => by kernel_rfl) ?_
    refine AnyB.done _ (by kernel_rfl) ?_
    go_simp
    clear hs0 hs1 hadd
    go_wp2_with fail
    go_ret3
    exact HF.out _ (bdr (Below.refl _ _) 1)
end Go.Proofs.YtnboagmibhllpaaGreatDoor.Ro


namespace Go.Proofs.YtnboagmibhllpaaGreatDoor.Ro
open Go.Proofs.YtnboagmibhllpaaGreatDoor
open Go Go.RowKit Go.Extern.Stop Go.Stop Go.Extern

/-! ### The four errors -/
structure ErA where
  form : Addr
  wrong : Addr
  more : Addr
  fin : Addr
def ev (a : Addr) : Value := .iface 206 (.pointer (some a))
def OkB (w : World) (a : Addr) : Prop := ∃ cs t, w.heap[a.block]? = some (.cells cs t (0, 0))
structure Er (E : ErA) (w : World) : Prop where
  form : w.cell? ⟨0, 0, none⟩ = some (ev E.form)
  wrong : w.cell? ⟨1, 0, none⟩ = some (ev E.wrong)
  more : w.cell? ⟨2, 0, none⟩ = some (ev E.more)
  fin : w.cell? ⟨3, 0, none⟩ = some (ev E.fin)
  bf : OkB w E.form
  bw : OkB w E.wrong
  bm : OkB w E.more
  be : OkB w E.fin
  nf : E.form ≠ E.fin
  nw : E.wrong ≠ E.fin
  nm : E.more ≠ E.fin
theorem OkB.below {w w' : World} {a : Addr} (h : OkB w a) (hb : Below w.heap.size w w') : OkB w' a := by
  obtain ⟨cs, t, h⟩ := h
  exact ⟨cs, t, (hb.block _ (lt_heap h)).trans h⟩
theorem cellL {w w' : World} {p : Addr} {u : Value} (h : w.cell? p = some u) (hb : Below w.heap.size w w') : w'.cell? p = some u := (hb.cell (World.block_lt_of_cell? _ _ h)).trans h
theorem Er.below {E : ErA} {w w' : World} (h : Er E w) (hb : Below w.heap.size w w') : Er E w' :=
  ⟨cellL h.form hb, cellL h.wrong hb, cellL h.more hb, cellL h.fin hb, h.bf.below hb, h.bw.below hb, h.bm.below hb, h.be.below hb, h.nf, h.nw, h.nm⟩

/-! ### errors.Is at a fault -/
theorem mUnwrapO (a : Addr) (w : World) : (Go.method 342 146 (.pointer (some a)) "Unwrap").run Tryz.prog w = .ok (199, .pointer (some a)) w := by kernel_rfl
theorem unwrapFO (v : Value) (xT : TypeId) (w : World) : (Instr.typeAssert (.iface 146 v) xT 161 true).run Tryz.prog w = .ok (.tuple #[.iface 146 v, .bool true]) w := run_typeAssert_hasB Tryz.underlying161 (by kernel_rfl) v xT w
theorem noIsFO (v : Value) (xT : TypeId) (w : World) : (Instr.typeAssert (.iface 146 v) xT 158 true).run Tryz.prog w = .ok (.tuple #[.nilIface, .bool false]) w := run_typeAssert_lacksB Tryz.underlying158 (by kernel_rfl) (by kernel_rfl) v xT w
theorem eqlFEO (vx vy : Value) (w : World) : (binOp .eql 55 (.iface 146 vx) (.iface 206 vy)).run Tryz.prog w = .ok (.bool false) w := run_eql_iface_types _ _ vx vy Tryz.underlying55 (by decide) w
theorem unwrap_any (a : Nat) (k : Int) (p : Value) (w : World) (h : w.heap[a]? = some (.cells #[.int .i64 k, .iface 206 p] 148 (0, 0))) :
    Calls Tryz.prog 199 #[.pointer (some ⟨a, 0, none⟩)] w fun e w' => e = .returned (.iface 206 p) ∧ w = w' := by
  have c1 : w.cell? ⟨a, 1, none⟩ = some (.iface 206 p) := by simp [World.cell?, h]
  go_enter Tryz.func199, Tryz.ntmps199
  go_wp2
  go_ret
  exact ⟨rfl, rfl⟩
set_option maxHeartbeats 4000000 in
set_option maxRecDepth 100000 in
theorem is_sameO (a : Nat) (b : Addr) (k : Int) (w : World) (h : w.heap[a]? = some (.cells #[.int .i64 k, .iface 206 (.pointer (some b))] 148 (0, 0))) :
    Calls Tryz.prog 105 #[.iface 146 (.pointer (some ⟨a, 0, none⟩)), .iface 206 (.pointer (some b)), .bool true] w (BoolPost true w) := by
  have q1 := noIsFO; have q2 := noIsE; have q3 := noUnwrapE; have q4 := noUnwrapsE; have q5 := eqlFEO; have q6 := mUnwrapO; have q7 := unwrapFO; have q8 := eqlSame b
  go_enter Tryz.func105, Tryz.ntmps105
  go_wp2
  refine wp_loop_rounds 2 ?_
  rw [rounds_succ]
  go_wp2_with fail
  refine (unwrap_any a k _ _ h).mono ?_
  rintro e w' ⟨rfl, rfl⟩
  go_wp2_with fail
  rw [rounds_succ]
  go_wp2_with fail
  go_ret
  exact ⟨rfl, rfl⟩
set_option maxHeartbeats 4000000 in
set_option maxRecDepth 100000 in
theorem is_otherO (a : Nat) (b c : Addr) (k : Int) (w : World) (h : w.heap[a]? = some (.cells #[.int .i64 k, .iface 206 (.pointer (some c))] 148 (0, 0)))
    {cc cb : Array Value} {tc tb : TypeId} (hne : c ≠ b) (hc : w.heap[c.block]? = some (.cells cc tc (0, 0))) (hb : w.heap[b.block]? = some (.cells cb tb (0, 0))) :
    Calls Tryz.prog 105 #[.iface 146 (.pointer (some ⟨a, 0, none⟩)), .iface 206 (.pointer (some b)), .bool true] w (BoolPost false w) := by
  have q1 := noIsFO; have q2 := noIsE; have q3 := noUnwrapE; have q4 := noUnwrapsE; have q5 := eqlFEO; have q6 := mUnwrapO; have q7 := unwrapFO; have q8 := eqlOther w hne hc hb
  clear hne hc hb
  go_enter Tryz.func105, Tryz.ntmps105
  go_wp2
  refine wp_loop_rounds 2 ?_
  rw [rounds_succ]
  go_wp2_with fail
  refine (unwrap_any a k _ _ h).mono ?_
  rintro e w' ⟨rfl, rfl⟩
  go_wp2_with fail
  rw [rounds_succ]
  go_wp2_with fail
  go_ret
  exact ⟨rfl, rfl⟩
set_option maxHeartbeats 1000000 in
set_option maxRecDepth 100000 in
theorem errIs_ofO (a : Nat) (b : Addr) (r : Bool) (w : World) (h : Calls Tryz.prog 105 #[.iface 146 (.pointer (some ⟨a, 0, none⟩)), .iface 206 (.pointer (some b)), .bool true] w (BoolPost r w)) :
    Calls Tryz.prog 82 #[.iface 146 (.pointer (some ⟨a, 0, none⟩)), .iface 206 (.pointer (some b))] w (BoolPost r w) := by
  have hTO := @run_callFunc_extern Tryz.prog 104 _ ReflectliteType.typeOf Tryz.func104 (by kernel_rfl) (by kernel_rfl) (by kernel_rfl) (by kernel_rfl)
  have hCo := @run_callFunc_extern Tryz.prog 203 _ (ReflectliteType.method (fun t => do Rtype.noPackHeld "Comparable" t; pure (.bool (← typeInfo t).comparable))) Tryz.func203 (by kernel_rfl) (by kernel_rfl) (by kernel_rfl) (by kernel_rfl)
  have q1 := typeOfE; have q2 := mComparable; have q3 := comparableE
  have Hin := Lib.hid h; clear h
  go_enter Tryz.func82, Tryz.ntmps82
  go_wp2_with fail
  refine Hin.out.mono ?_
  rintro e w' ⟨rfl, rfl⟩
  go_wp2
  go_ret
  exact ⟨rfl, rfl⟩

/-! ### The reader -/
/-- A reader at block a, over the world w0 that it reads. -/
structure Rd (w0 w : World) (a : Nat) (s : Bs) : Prop where
  blk : ∃ A n c k, w.heap[a]? = some (.cells #[.slice A n c, .int .i64 ((k : Nat) : Int), .nilIface] 82 (0, 0)) ∧ n = s.length ∧ Rb w0 (.slice A n c) s ∧ k + s.length ≤ 1000000
  low : Below w0.heap.size w0 w
  lo : w0.heap.size ≤ a
/-- A reader that has met an error. -/
structure RdE (w0 w : World) (a : Nat) (e : Value) : Prop where
  blk : ∃ A n c k p j, w.heap[a]? = some (.cells #[.slice A n c, .int .i64 k, .iface 146 (.pointer (some ⟨p, 0, none⟩))] 82 (0, 0)) ∧ w.heap[p]? = some (.cells #[.int .i64 j, e] 148 (0, 0))
  low : Below w0.heap.size w0 w
  lo : w0.heap.size ≤ a
theorem Rd.lt {w0 w : World} {a : Nat} {s : Bs} (h : Rd w0 w a s) : a < w.heap.size := by obtain ⟨A, n, c, k, h, _⟩ := h.blk; exact lt_heap h
theorem RdE.lt {w0 w : World} {a : Nat} {e : Value} (h : RdE w0 w a e) : a < w.heap.size := by obtain ⟨A, n, c, k, p, j, h, _⟩ := h.blk; exact lt_heap h
/-- But what is neither the reader nor a fault. -/
def Ch (w0 : World) (a : Nat) (w w' : World) : Prop := But (fun k => w0.heap.size ≤ k ∧ k ≠ a ∧ ¬ ∃ cs fr, w.heap[k]? = some (.cells cs 148 fr)) w w'
theorem Rd.ch {w0 w w' : World} {a : Nat} {s : Bs} (h : Rd w0 w a s) (hc : Ch w0 a w w') : Rd w0 w' a s := by
  obtain ⟨A, n, c, k, h1, h2⟩ := h.blk
  refine ⟨⟨A, n, c, k, (hc.block a (lt_heap h1) (fun hs => hs.2.1 rfl)).trans h1, h2⟩, h.low.trans (But.below hc (fun k _ hk => hk.1) h.low.size), h.lo⟩
theorem RdE.ch {w0 w w' : World} {a : Nat} {e : Value} (h : RdE w0 w a e) (hc : Ch w0 a w w') : RdE w0 w' a e := by
  obtain ⟨A, n, c, k, p, j, h1, h2⟩ := h.blk
  refine ⟨⟨A, n, c, k, p, j, (hc.block a (lt_heap h1) (fun hs => hs.2.1 rfl)).trans h1, (hc.block p (lt_heap h2) (fun hs => hs.2.2 ⟨_, _, h2⟩)).trans h2⟩, h.low.trans (But.below hc (fun k _ hk => hk.1) h.low.size), h.lo⟩
theorem Ch.new {w0 w w' : World} {a : Nat} (h : Below w.heap.size w w') : Ch w0 a w w' := But.of_new h
set_option maxHeartbeats 1000000 in
theorem keep_nil {w : World} {a : Nat} {A : Option Addr} {n c : Nat} {k : Int} (h : w.heap[a]? = some (.cells #[.slice A n c, .int .i64 k, .nilIface] 82 (0, 0))) : Calls Tryz.prog 97 #[.pointer (some ⟨a, 0, none⟩), .nilIface] w fun e w' => e = .returned (.tuple #[]) ∧ w = w' := by
  have c2 : w.cell? ⟨a, 2, none⟩ = some .nilIface := (cell_of_row w a 2 _ _ _ h).trans rfl
  clear h
  go_enter Tryz.func97, Tryz.ntmps97
  go_wp2
  go_end0
  exact ⟨rfl, rfl⟩
set_option maxHeartbeats 1000000 in
theorem keep_has {w : World} {a : Nat} {A : Option Addr} {n c : Nat} {k : Int} {t : TypeId} {q v : Value} (h : w.heap[a]? = some (.cells #[.slice A n c, .int .i64 k, .iface t q] 82 (0, 0))) : Calls Tryz.prog 97 #[.pointer (some ⟨a, 0, none⟩), v] w fun e w' => e = .returned (.tuple #[]) ∧ w = w' := by
  have c2 : w.cell? ⟨a, 2, none⟩ = some (.iface t q) := (cell_of_row w a 2 _ _ _ h).trans rfl
  clear h
  go_enter Tryz.func97, Tryz.ntmps97
  go_wp2
  go_end0
  exact ⟨rfl, rfl⟩
set_option maxHeartbeats 1000000 in
theorem keep_err {w : World} {a : Nat} {A : Option Addr} {n c : Nat} {k : Int} {t : TypeId} {q : Value} (h : w.heap[a]? = some (.cells #[.slice A n c, .int .i64 k, .nilIface] 82 (0, 0))) : Calls Tryz.prog 97 #[.pointer (some ⟨a, 0, none⟩), .iface t q] w fun e w' => e = .returned (.tuple #[]) ∧ w' = (w.alloc (.cells #[.int .i64 k, .iface t q] 148)).setCell ⟨a, 2, none⟩ (.iface 146 (.pointer (some ⟨w.heap.size, 0, none⟩))) := by
  have c2 : w.cell? ⟨a, 2, none⟩ = some .nilIface := (cell_of_row w a 2 _ _ _ h).trans rfl
  have c1 : w.cell? ⟨a, 1, none⟩ = some (.int .i64 k) := (cell_of_row w a 1 _ _ _ h).trans rfl
  have hlt := lt_heap h
  have h2 := (below_new w (.cells #[.int .i64 k, .iface t q] 148)).block a hlt |>.trans h
  have c3 : (w.alloc (.cells #[.int .i64 k, .iface t q] 148)).cell? ⟨a, 2, none⟩ = some .nilIface := (cell_of_row _ a 2 _ _ _ h2).trans rfl
  have f3 : (w.alloc (.cells #[.int .i64 k, .iface t q] 148)).frozen? ⟨a, 2, none⟩ = false := by unfold World.frozen?; simp only [h2]; rfl
  clear h h2 hlt
  go_enter Tryz.func97, Tryz.ntmps97
  go_wp2
  go_end0
  exact ⟨rfl, rfl⟩
/-- Behind keep at an error: the reader has met it. -/
theorem RdE.mk' {w0 w w' : World} {a : Nat} {A : Option Addr} {n c : Nat} {k : Int} {t : TypeId} {q : Value} (h : w.heap[a]? = some (.cells #[.slice A n c, .int .i64 k, .nilIface] 82 (0, 0))) (low : Below w0.heap.size w0 w) (lo : w0.heap.size ≤ a)
    (hw : w' = (w.alloc (.cells #[.int .i64 k, .iface t q] 148)).setCell ⟨a, 2, none⟩ (.iface 146 (.pointer (some ⟨w.heap.size, 0, none⟩)))) : RdE w0 w' a (.iface t q) ∧ But (fun k => k = a) w w' := by
  subst hw
  have hlt := lt_heap h
  have h2 := (below_new w (.cells #[.int .i64 k, .iface t q] 148)).block a hlt |>.trans h
  have h3 := heap_alloc_new w (.cells #[.int .i64 k, .iface t q] 148)
  have hb : But (fun k => k = a) w ((w.alloc (.cells #[.int .i64 k, .iface t q] 148)).setCell ⟨a, 2, none⟩ (.iface 146 (.pointer (some ⟨w.heap.size, 0, none⟩)))) := (But.of_new (below_new w _)).trans (but_set _ a 2 _)
  exact ⟨⟨⟨A, n, c, k, w.heap.size, k, (blk_set h2 _).trans rfl, ((but_set _ a 2 _).block w.heap.size (by simp) (by omega)).trans h3⟩, low.trans (hb.below (fun k _ hk => by omega) low.size), lo⟩, hb⟩
end Go.Proofs.YtnboagmibhllpaaGreatDoor.Ro
