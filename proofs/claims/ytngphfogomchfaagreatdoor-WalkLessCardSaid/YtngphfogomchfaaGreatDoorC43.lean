/-
  What the laws' walks share.
  What comes in: objects with their names, objects, texts, as they read.
  What the rows' condition gives; a world that meets it; arguments that read as they did, and what they may be.
-/
import Derived.Test.YtngphfogomchfaaGreatDoorC41
import Derived.Deep.Slices
import Derived.ChangeArms
import Derived.DataShut
import Derived.SizedLaws
import Derived.Carry
import Derived.Test.YtngphfogomchfaaGreatDoorCards
import Derived.Test.YtngphfogomchfaaGreatDoorTie
import Derived.WalkKit
import Derived.ProofKit
import Derived.OpenShut
import Derived.Deep.DeepHandedRow
import Derived.LaidLaws
import Derived.LaidHandle
import Derived.Stop.LaidErr
import Derived.Stop.LaidTwo
import Derived.Lib.LaidU8
import Derived.Test.YtngphfogomchfaaGreatDoorC23

namespace Go.Proofs.YtngphfogomchfaaGreatDoor
open Go Go.RowKit Go.Maps

theorem has_yes {w : World} {v : Value} {l : List Bs} (h : StrsR w v l) (hl : l.length ≤ 1000000) {s : Bs} (hm : s ∈ l) : Calls Tryz.prog 28 #[v, .string ⟨s.toArray⟩] w fun e w' => e = .returned (.bool true) ∧ w = w' := by
  have := Has_any h hl s
  rw [hasB_iff.2 hm] at this; exact this
theorem has_no {w : World} {v : Value} {l : List Bs} (h : StrsR w v l) (hl : l.length ≤ 1000000) {s : Bs} (hm : s ∉ l) : Calls Tryz.prog 28 #[v, .string ⟨s.toArray⟩] w fun e w' => e = .returned (.bool false) ∧ w = w' := by
  have := Has_any h hl s
  rw [hasB_no.2 hm] at this; exact this
/-- What Closure gives at what is small. -/
theorem clo_small {w : World} {v tv : Value} {L : List Hld} {tips : List Bs} (h : HldsR w v L) (ht : StrsR w tv tips) (ho : Ob w) (hL : SmallH L) (hT : tips.length ≤ 1000) (hs : ∀ x ∈ tips, x.length ≤ 10000) :
    Calls Tryz.prog 14 #[v, tv] w (CloPost L tips w) :=
  Closure_any h ht ho.eb ho.tb (by have := hL.1; omega) hT (fun x hx => ⟨by have := (hL.2 x hx).1; omega, by have := (hL.2 x hx).2; omega⟩) hs
theorem sou_small {w : World} {v tv : Value} {L : List Hld} {tips : List Bs} (h : HldsR w v L) (ht : StrsR w tv tips) (ho : Ob w) (hL : SmallH L) (hT : tips.length ≤ 1000) (hs : ∀ x ∈ tips, x.length ≤ 10000) :
    Calls Tryz.prog 19 #[v, tv] w (SouPost L tips w) :=
  Sound_any h ht ho.eb ho.tb (by have := hL.1; omega) hT (fun x hx => ⟨by have := (hL.2 x hx).1; omega, by have := (hL.2 x hx).2; omega⟩) hs
theorem ge_strH (W : World) (x y : Bs) (h : Op.bytesLess x y = true) : (binOp .geq 9 (.string ⟨x.toArray⟩) (.string ⟨y.toArray⟩)).run Tryz.prog W = .ok (.bool false) W := by
  simp [go_sem, h]
theorem gtrH (W : World) (k : Nat) (h : 0 < k) : (binOp .gtr 3 (.int .i64 (k : Int)) (.int .i64 0)).run Tryz.prog W = .ok (.bool true) W := by
  simp [go_sem, h]
theorem wpList_wanted {P : Program} {ops : Array Oper} {rest : List Oper} {o : Oper} {a : Act} {w : World} {Q : Exit → Act → World → Prop} (hw : Region.wanted o (yielded ops a.tmps) = true)
    (h : ∀ K : Act → World → Prop, (∀ a w, wpList P ops Q rest a w → K a w) → o.wp P a w K Q) : wpList P ops Q (o :: rest) a w :=
  wpList_step fun K hK => by rw [if_pos hw]; exact h K hK
/-- 'wpList_all' at an operation that is guarded, and wanted. -/
theorem wpList_allG {α : Type} {st t : TypeId} {k bt : Nat} {f : α → List Value} (E : ElK st t k bt f) {ops : Array Oper} {rest : List Oper} {o : Oper} {a : Act} {w : World} {Q : Exit → Act → World → Prop} (hgd : Region.wanted o (yielded ops a.tmps) = true) (s y : Operand)
    (ho : o.op = .call { callee := .builtin .append, args := #[s, y], argTypes := #[st, st] }) (base : Nat) (v sv : Value) (l m : List α) (hs : a.eval s = v) (hy : a.eval y = sv)
    (h : OwK t k f w base v l) (hm : RdK k f w sv m) (hl : l.length + m.length ≤ 1000000) (hbt : bt ≤ 1000) (hb : base ≤ w.heap.size)
    (kk : ∀ v' w', OwK t k f w' base v' (l ++ m) → Below base w w' → wpList Tryz.prog ops Q rest (a.put o.dst v') w') : wpList Tryz.prog ops Q (o :: rest) a w := by
  refine wpList_wanted hgd fun K hK => ?_
  obtain ⟨v', w', h1, h2, h3, _⟩ := run_all E h hm hl hbt hb o.type
  unfold Oper.wp
  simp [execOp, ho, resolve, invoke, builtin, hs, hy, h1, Result.andThen]
  exact hK _ _ (kk v' w' h2 h3)
theorem smallT_len {l : List Bs} (h : SmallT l) : l.length ≤ 1000 ∧ ∀ x ∈ l, x.length ≤ 10000 := ⟨by have := h.1; omega, fun x hx => by have := h.2 x hx; omega⟩
end Go.Proofs.YtngphfogomchfaaGreatDoor


namespace Go.Proofs.YtngphfogomchfaaGreatDoor
open Go Go.RowKit Go.Deep

theorem add_at (b off k : Nat) : (⟨b, off, none⟩ : Addr).add k = ⟨b, off + k, none⟩ := by
  unfold Addr.add; split <;> simp_all

section
variable {H : Type} {enc : TypeId × Value → H} {W : World} {base : Nat} {held : Bool}

/-- What came in is no greater than a reach. -/
def Fits (t : TypeId) (d : DataW H) : Prop := ∀ n ∈ d.weights Tryz.prog t, n ≤ reachBytes
theorem Fits.slice {t e : TypeId} {el sp : List (DataW H)} (h : Fits t (.slice el sp)) (hu : Tryz.prog.underlying t = some (.slice e)) : (el.length + sp.length) * Tryz.prog.bytesOf e ≤ reachBytes := h _ (by simp [DataW.weights, hu])
theorem mem_all {P : Program} {e : TypeId} {n : Nat} {d : DataW H} : ∀ {l : List (DataW H)}, d ∈ l → n ∈ d.weights P e → n ∈ DataW.weightsAll P e l
  | x :: l, hd, hn => by
    rw [DataW.weightsAll, List.mem_append]
    rcases List.mem_cons.1 hd with rfl | hd
    · exact .inl hn
    · exact .inr (mem_all hd hn)
theorem Fits.elem {t e : TypeId} {el sp : List (DataW H)} {d : DataW H} (h : Fits t (.slice el sp)) (hu : Tryz.prog.underlying t = some (.slice e)) (hd : d ∈ el) : Fits e d := fun n hn =>
  h _ (by simp only [DataW.weights, hu]; exact List.mem_cons_of_mem _ (List.mem_append_left _ (mem_all hd hn)))
theorem Fits.field {t : TypeId} {fs : Array Field} {xs : List (DataW H × List MemPlace)} {y : DataW H × List MemPlace} {i : Nat} {f : Field} (h : Fits t (.agg (xs.map (·.1)))) (hu : Tryz.prog.underlying t = some (.struct fs)) (hf : fs[i]? = some f) (hy : xs[i]? = some y) : Fits f.type y.1 := fun n hn =>
  h _ (by simp only [DataW.weights, hu]; exact DataW.weights_mem_each (j := i) (t := f.type) (d := y.1) (by simp [hf]) (by simp [hy]) n hn)

/-- A slice, opened. -/
theorem open_rd {α : Type} [Inhabited α] {t e : TypeId} {k fuel : Nat} {v : Value} {x : DataW H × List MemPlace} (f : α → List Value) (Q : α → Prop) (ht : Tryz.prog.underlying t = some (.slice e)) (hs : Tryz.prog.cellsOf e = k)
    (h : DataW.trod enc Tryz.prog W base (fun _ => true) held fuel t [v] = some x) (h0 : 0 < k) (hF : Fits t x.1) (hby : 0 < Tryz.prog.bytesOf e)
    (hel : ∀ b off n cs y, W.cells? base ⟨b, off, none⟩ k = some cs → DataW.trod enc Tryz.prog W base (fun _ => true) held n e cs = some y → Fits e y.1 → ∃ o, Q o ∧ ∀ i, i < k → W.cell? ⟨b, off + i, none⟩ = (f o)[i]?) :
    ∃ l : List α, l.length ≤ limW ∧ (∀ o ∈ l, Q o) ∧ RdK k f W v l := by
  rcases open_slice ht h with ⟨h0, _⟩ | ⟨a, len, cap, m, n, D, Pl, h0', hb, hl, hm, hmm, rfl, hx⟩
  · cases h0
    exact ⟨[], by simp, fun o ho => by simp at ho, .inl ⟨⟨_, _, rfl⟩, rfl⟩⟩
  · cases h0'
    have hlm : len ≤ m := by rw [hmm]; split <;> omega
    rw [hs] at hx
    by_cases hl0 : len = 0
    · subst hl0
      exact ⟨[], by simp, fun o ho => by simp at ho, .inl ⟨⟨_, _, rfl⟩, rfl⟩⟩
    have hsp : a.spot = none := by
      obtain ⟨cs, h1, _⟩ := hx 0 (by omega)
      obtain ⟨_, h3, h4⟩ := World.cells?_some h1
      have hc0 := h4 0 h0
      rw [List.getElem?_eq_getElem (by omega)] at hc0
      have hsp := World.cell?_spot hc0
      simpa [Addr.add] using hsp
    obtain ⟨b, off, sp⟩ := a
    cases hsp
    have each : ∀ i, i < len → ∃ o, Q o ∧ ∀ j, j < k → W.cell? ⟨b, off + i * k + j, none⟩ = (f o)[j]? := fun i hi => by
      obtain ⟨cs, h1, h2⟩ := hx i (by omega)
      rw [add_at] at h1
      exact hel _ _ _ _ _ h1 h2 (hF.elem ht (List.mem_map.2 ⟨i, List.mem_range.2 hi, rfl⟩))
    obtain ⟨g, hg⟩ := choose_lt each
    have hlen : ((List.range len).map g).length = len := by simp
    have hw := hF.slice ht
    have hw2 : len ≤ reachBytes := by
      refine Nat.le_trans ?_ hw
      simp only [List.length_map, List.length_range]
      exact Nat.le_trans (Nat.le_add_right _ _) (Nat.le_mul_of_pos_right _ hby)
    have hlt : b < W.heap.size := by
      obtain ⟨cs, h1, _⟩ := hx 0 (by omega)
      obtain ⟨_, h3, h4⟩ := World.cells?_some h1
      have hc0 := h4 0 h0
      rw [List.getElem?_eq_getElem (by omega), add_at, add_at] at hc0
      exact World.block_lt_of_cell? W _ hc0
    refine ⟨(List.range len).map g, by rw [hlen]; simp [reachBytes] at hw2; unfold limW; omega, fun o ho => ?_, .inr ⟨b, off, cap, by rw [hlen], by rw [hlen]; exact hl, hlt, fun j hj x hx i hi => ?_⟩⟩
    · obtain ⟨i, hi, rfl⟩ := List.mem_map.1 ho
      exact (hg i (List.mem_range.1 hi)).1
    · rw [hlen] at hj
      have eo : g j = x := by simpa [hj] using hx
      subst eo
      exact (hg j hj).2 i hi

theorem cell1S : Tryz.prog.cellsOf 9 = 1 := by kernel_rfl
theorem cell1I : Tryz.prog.cellsOf 3 = 1 := by kernel_rfl
theorem cell1L : Tryz.prog.cellsOf 23 = 1 := by kernel_rfl
theorem fld {n off k : Nat} {t : TypeId} {cs : List Value} {y : Option (DataW H × List MemPlace)} (hc : Tryz.prog.cellsOf t = k) (h : DataW.trod enc Tryz.prog W base (fun _ => true) held n t ((cs.drop off).take (Tryz.prog.cellsOf t)) = y) : DataW.trod enc Tryz.prog W base (fun _ => true) held n t ((cs.drop off).take k) = y := hc ▸ h

set_option maxRecDepth 100000 in
theorem open_S {fuel : Nat} {v : Value} {x : DataW H × List MemPlace} (h : DataW.trod enc Tryz.prog W base (fun _ => true) held fuel 9 [v] = some x) (hF : Fits 9 x.1) : ∃ p : List UInt8, p.length ≤ limW ∧ v = SV p := by
  obtain ⟨s, h1, rfl, h3⟩ := DataW.trod_string Tryz.underlying9 h
  cases h1
  have hw := hF s.data.toList.length (by simp [DataW.weights])
  exact ⟨s.data.toList, by simp [reachBytes] at hw; rw [Array.length_toList]; unfold limW; show s.size ≤ _; omega, rfl⟩
set_option maxRecDepth 100000 in
theorem open_I {fuel : Nat} {v : Value} {x : DataW H × List MemPlace} (h : DataW.trod enc Tryz.prog W base (fun _ => true) held fuel 3 [v] = some x) : ∃ n : Int, v = .int .i64 n := by
  obtain ⟨n, h1, _⟩ := DataW.trod_int Tryz.underlying3 h
  exact ⟨n, by simpa using h1⟩

set_option maxRecDepth 100000 in
theorem open_str (b off n : Nat) (cs : List Value) (y : DataW H × List MemPlace) (h1 : W.cells? base ⟨b, off, none⟩ 1 = some cs) (h2 : DataW.trod enc Tryz.prog W base (fun _ => true) held n 9 cs = some y) (hF : Fits 9 y.1) :
    ∃ o : List UInt8, o.length ≤ limW ∧ ∀ i, i < 1 → W.cell? ⟨b, off + i, none⟩ = (strC o)[i]? := by
  obtain ⟨_, h3, h4⟩ := World.cells?_some h1
  match cs, h3 with
  | [v0], _ =>
    obtain ⟨p, hp, rfl⟩ := open_S (v := v0) h2 hF
    refine ⟨p, hp, fun i hi => ?_⟩
    have c := h4 i hi
    rw [add_at] at c
    rw [c]
    match i, hi with
    | 0, _ => rfl
theorem open_strs {fuel : Nat} {v : Value} {x : DataW H × List MemPlace} (h : DataW.trod enc Tryz.prog W base (fun _ => true) held fuel 23 [v] = some x) (hF : Fits 23 x.1) : ∃ l : List (List UInt8), l.length ≤ limW ∧ (∀ o ∈ l, o.length ≤ limW) ∧ StrsR W v l :=
  open_rd strC (fun o => o.length ≤ limW) Tryz.underlying23 (by kernel_rfl) h (by omega) hF (of_decide_eq_true (by kernel_rfl)) open_str

set_option maxRecDepth 100000 in
theorem open_obj {fuel : Nat} {cs : List Value} {y : DataW H × List MemPlace} (h3 : cs.length = 2) (h2 : DataW.trod enc Tryz.prog W base (fun _ => true) held fuel 30 cs = some y) (hF : Fits 30 y.1) :
    ∃ k d, d.length ≤ limW ∧ cs = [.int .i64 k, SV d] := by
  obtain ⟨xs, n', _, rfl, _, hlen, hf⟩ := DataW.trod_struct Tryz.underlying30 h2
  match cs, h3 with
  | [v0, v1], _ =>
    match xs, hlen with
    | [y0, y1], _ =>
      have f0 := fld (cs := [v0, v1]) (off := 0) cell1I (hf 0 _ rfl)
      have f1 := fld (cs := [v0, v1]) (off := 1) cell1S (hf 1 _ rfl)
      obtain ⟨k, rfl⟩ := open_I (v := v0) f0
      obtain ⟨p, hp, rfl⟩ := open_S (v := v1) f1 (hF.field Tryz.underlying30 (i := 1) rfl rfl)
      exact ⟨k, p, hp, rfl⟩

theorem cell2O : Tryz.prog.cellsOf 30 = 2 := by kernel_rfl
set_option maxRecDepth 100000 in
theorem open_held (b off n : Nat) (cs : List Value) (y : DataW H × List MemPlace) (h1 : W.cells? base ⟨b, off, none⟩ 3 = some cs) (h2 : DataW.trod enc Tryz.prog W base (fun _ => true) held n 51 cs = some y) (hF : Fits 51 y.1) :
    ∃ o : Hld, True ∧ ∀ i, i < 3 → W.cell? ⟨b, off + i, none⟩ = (heldC o)[i]? := by
  obtain ⟨_, h3, h4⟩ := World.cells?_some h1
  obtain ⟨xs, n', _, rfl, _, hlen, hf⟩ := DataW.trod_struct Tryz.underlying51 h2
  match cs, h3 with
  | [v0, v1, v2], _ =>
    match xs, hlen with
    | [y0, y1], _ =>
      have f0 := fld (cs := [v0, v1, v2]) (off := 0) cell1S (hf 0 _ rfl)
      have f1 := fld (cs := [v0, v1, v2]) (off := 1) cell2O (hf 1 _ rfl)
      obtain ⟨p, hp, rfl⟩ := open_S (v := v0) f0 (hF.field Tryz.underlying51 (i := 0) rfl rfl)
      obtain ⟨k, d, hd, e⟩ := open_obj (cs := [v1, v2]) rfl f1 (hF.field Tryz.underlying51 (i := 1) rfl rfl)
      cases e
      refine ⟨⟨p, k, d⟩, trivial, fun i hi => ?_⟩
      have c := h4 i hi
      rw [add_at] at c
      rw [c]
      match i, hi with
      | 0, _ => rfl
      | 1, _ => rfl
      | 2, _ => rfl
theorem open_helds {fuel : Nat} {v : Value} {x : DataW H × List MemPlace} (h : DataW.trod enc Tryz.prog W base (fun _ => true) held fuel 22 [v] = some x) (hF : Fits 22 x.1) : ∃ l : List Hld, l.length ≤ limW ∧ HldsR W v l := by
  obtain ⟨l, h1, _, h2⟩ := open_rd heldC (fun _ => True) Tryz.underlying22 (by kernel_rfl) h (by omega) hF (of_decide_eq_true (by kernel_rfl)) open_held
  exact ⟨l, h1, h2⟩
set_option maxRecDepth 100000 in
theorem open_ob (b off n : Nat) (cs : List Value) (y : DataW H × List MemPlace) (h1 : W.cells? base ⟨b, off, none⟩ 2 = some cs) (h2 : DataW.trod enc Tryz.prog W base (fun _ => true) held n 30 cs = some y) (hF : Fits 30 y.1) :
    ∃ o : Int × Bs, True ∧ ∀ i, i < 2 → W.cell? ⟨b, off + i, none⟩ = (obC o)[i]? := by
  obtain ⟨_, h3, h4⟩ := World.cells?_some h1
  obtain ⟨k, d, hd, rfl⟩ := open_obj h3 h2 hF
  refine ⟨(k, d), trivial, fun i hi => ?_⟩
  have c := h4 i hi
  rw [add_at] at c
  rw [c]
  match i, hi with
  | 0, _ => rfl
  | 1, _ => rfl
theorem open_objs {fuel : Nat} {v : Value} {x : DataW H × List MemPlace} (h : DataW.trod enc Tryz.prog W base (fun _ => true) held fuel 39 [v] = some x) (hF : Fits 39 x.1) : ∃ l : List (Int × Bs), l.length ≤ limW ∧ ObjsR W v l := by
  obtain ⟨l, h1, _, h2⟩ := open_rd obC (fun _ => True) Tryz.underlying39 (by kernel_rfl) h (by omega) hF (of_decide_eq_true (by kernel_rfl)) open_ob
  exact ⟨l, h1, h2⟩
end
end Go.Proofs.YtngphfogomchfaaGreatDoor


namespace Go.Proofs.YtngphfogomchfaaGreatDoor
open Go Go.ChangeShapes Go.WideShapes Go.ChangeAt Go.RowKit

theorem own : ownKnob Tryz.prog.godebug = none := by kernel_rfl
theorem gTab : Tryz.prog.globalNamed "internal/strconv.uint64pow10" = some 6 := by kernel_rfl
theorem gPr : Tryz.prog.globalNamed "sacristy/digest.primes" = some 4 := by kernel_rfl
theorem gPrT : (Tryz.prog.globals[4]?).map (·.type) = some 226 := by kernel_rfl
theorem gOther : Tryz.prog.globalNamed "sacristy/object.errOther" = some 5 := by kernel_rfl
theorem gWrong : Tryz.prog.globalNamed "sacristy/object.errWrong" = some 1 := by kernel_rfl
theorem gOver : Tryz.prog.globalNamed "sacristy/object.errOver" = some 0 := by kernel_rfl
theorem etG : Tryz.prog.globalNamed "errors.errorType" = some 2 := by kernel_rfl
theorem etR : (Tryz.prog.cutTypes.find? (·.1 == "internal/reflectlite.rtype")).map (·.2) = some 178 := by kernel_rfl
theorem etT : Tryz.prog.types.size = 297 := by kernel_rfl
theorem etOne : ((List.range 297).filter fun t => Tryz.prog.rowNamed t [101, 114, 114, 111, 114]) = [99] := by kernel_rfl
theorem star : "*" ++ "errors.errorString" = "*errors.errorString" := by decide
theorem rowErr (u : TypeId) (h : Tryz.prog.typeName? 3 u = some "*errors.errorString") : u = 266 :=
  typeName_ptr_named (nm := "errors.errorString") (by rw [star]; kernel_rfl) (by kernel_rfl) (by decide) u (by rw [star]; exact h)
theorem tab_data : (Rows.laid_internal_strconv_uint64pow10 : DataW Unit) = Lib.tabData .u64 Lib.pow10Tab := by rfl
def primesD : List (DataW Unit) := match (Rows.laid_sacristy_digest_primes : DataW Unit) with | .agg ds => ds | _ => []
theorem primesD_eq : (Rows.laid_sacristy_digest_primes : DataW Unit) = .agg primesD := rfl
theorem primes_data : primesD.map (fun d => match d with | .lit (.int .u16 n) => n | _ => 0) = (List.range 64).map fun i => (primeN i : Int) := by decide +kernel
theorem prime_of {i : Nat} {n : Int} (hi : i < 64) (h : primesD[i]? = some (.lit (.int .u16 n))) : n = (primeN i : Int) := by
  have h1 := congrArg (·[i]?) primes_data
  simpa [List.getElem?_map, h, List.getElem?_range hi] using h1

def laidD : List (String × DataW Unit) := [("math/bits.deBruijn32tab", Rows.laid_math_bits_deBruijn32tab), ("math/bits.deBruijn64tab", Rows.laid_math_bits_deBruijn64tab), ("internal/strconv.uint64pow10", Rows.laid_internal_strconv_uint64pow10), ("sacristy/digest.primes", Rows.laid_sacristy_digest_primes), ("sacristy/object.errOther", Rows.laid_sacristy_object_errOther), ("sacristy/object.errWrong", Rows.laid_sacristy_object_errWrong), ("sacristy/object.errOver", Rows.laid_sacristy_object_errOver)]
def laidL : List (String × DataW Unit) := [("math/bits.deBruijn32tab", Rows.laid_math_bits_deBruijn32tab), ("math/bits.deBruijn64tab", Rows.laid_math_bits_deBruijn64tab), ("internal/strconv.uint64pow10", Rows.laid_internal_strconv_uint64pow10), ("sacristy/digest.primes", Rows.laid_sacristy_digest_primes), ("errors.errorType", Rows.laid_errors_errorType), ("sacristy/object.errOther", Rows.laid_sacristy_object_errOther), ("sacristy/object.errWrong", Rows.laid_sacristy_object_errWrong), ("sacristy/object.errOver", Rows.laid_sacristy_object_errOver)]

theorem cell_of_var {W : World} {n : String} {g : Nat} {v : Value} (hg : Tryz.prog.globalNamed n = some g) (h : W.var? Tryz.prog n = some #[v]) : W.cell? ⟨g, 0, none⟩ = some v := by
  simpa using World.var?_cell hg h 0

theorem et_of {W : World} (h : handlesMet Tryz.prog [("errors.errorType", Rows.laid_errors_errorType)] W) : Et W := by
  obtain ⟨name, u, ty, e1, e2, e3, e4, e5⟩ := h _ (List.mem_singleton.2 rfl)
  have en : name = [101, 114, 114, 111, 114] := (Option.some.inj e1).symm
  subst en
  obtain rfl := Option.some.inj (etR.symm.trans e2)
  have hm : ty ∈ (List.range 297).filter fun t => Tryz.prog.rowNamed t [101, 114, 114, 111, 114] := List.mem_filter.2 ⟨List.mem_range.2 (by rw [← etT]; exact e3), e4⟩
  rw [etOne] at hm
  obtain rfl := List.mem_singleton.1 hm
  have hh : typeHandle Tryz.prog 99 = .pointer (some ⟨11, 99, none⟩) := by kernel_rfl
  rw [hh] at e5
  unfold Et
  simpa using World.var?_cell etG e5 0

theorem pr_of {W : World} (h' : laidMet Tryz.prog laidD W) : Pr W := by
  obtain ⟨g, t, cs, fuel, p, h1, h2, h3, h4⟩ := Lib.laidMet.reads h' (n := "sacristy/digest.primes") (d := Rows.laid_sacristy_digest_primes) (.tail _ (.tail _ (.tail _ (.head _))))
  obtain rfl := Option.some.inj (gPr.symm.trans h1)
  obtain rfl := Option.some.inj (gPrT.symm.trans h2)
  rw [primesD_eq] at h4
  intro i hi
  obtain ⟨fuel', d, q, hd, ht⟩ := Lib.array_elem Tryz.underlying226 h4 i hi
  have c1 : Tryz.prog.cellsOf 225 = 1 := by kernel_rfl
  rw [c1, Nat.mul_one] at ht
  obtain ⟨n, hcs, hx, _⟩ := DataW.trod_int Tryz.underlying225 ht
  have hn : d = .lit (.int .u16 n) := congrArg Prod.fst hx
  subst hn
  rw [prime_of hi hd] at hcs
  have hc : cs[i]? = some (.int .u16 (primeN i : Int)) := by
    have h5 := congrArg (·[0]?) hcs
    simpa [List.getElem?_take, List.getElem?_drop] using h5
  have := World.var?_cell gPr h3 i
  rw [this]
  simpa using hc

set_option maxRecDepth 100000 in
theorem ob_of_laid {W : World} (h : laidMetH Tryz.prog laidL W) : Ob W := by
  have h' : laidMet Tryz.prog laidD W ∧ handlesMet Tryz.prog [("errors.errorType", Rows.laid_errors_errorType)] W := h
  have t2 := h'.1.tail.tail
  have t4 := t2.tail.tail
  obtain ⟨ao, aw, so, sw, co, cw, ty0, ty1, ho, hw, _, _, _, _, _, _, hne, hbo, hbw⟩ := laid_sentinels2 (g0 := 5) (g1 := 1) t4 gOther (by kernel_rfl) gWrong (by kernel_rfl) Tryz.underlying99 rowErr Tryz.underlying266 Tryz.underlying287 rfl rfl Tryz.underlying9 (by kernel_rfl) (by kernel_rfl)
  obtain ⟨av, sv, hv, _⟩ := laid_sentinel (g := 0) t4.tail.tail gOver (by kernel_rfl) Tryz.underlying99 rowErr Tryz.underlying266 Tryz.underlying287 rfl rfl Tryz.underlying9 (by kernel_rfl) (by kernel_rfl)
  refine ⟨⟨⟨⟨_, cell_of_var gOver hv⟩, ⟨aw, ao, fun e => hne e.symm, cell_of_var gWrong hw, cell_of_var gOther ho⟩, et_of h'.2⟩, ⟨aw, ao, cw, co, ty1, ty0, fun e => hne e.symm, cell_of_var gWrong hw, cell_of_var gOther ho, hbw, hbo⟩⟩, ?_, pr_of h'.1⟩
  rw [tab_data] at t2
  exact Lib.tabIs_of_head gTab (by kernel_rfl) Tryz.underlying240 Tryz.underlying133 (by kernel_rfl) (by kernel_rfl) t2

/-- A world that meets the condition. -/
noncomputable def low : Nat := (World.holding Tryz.prog default ⟨#[], #[], []⟩).heap.size
def litsOf : DataW Unit → List Value
  | .agg ds => ds.map fun d => match d with | .lit (.int k n) => .int k n | _ => .nilIface
  | _ => []
def textOf : DataW Unit → ByteArray
  | .iface _ (.ptr (.agg [.lit (.string s)])) => ⟨s.toArray⟩
  | _ => ⟨#[]⟩
def setCells (cs : List Value) : Obj → Obj
  | .cells _ t frozen => .cells cs.toArray t frozen
  | o => o
noncomputable def laidWorld (os : Os) : World :=
  let w0 := World.holding Tryz.prog os ⟨#[.cells #[.string (textOf Rows.laid_sacristy_object_errOther)] 287, .cells #[.string (textOf Rows.laid_sacristy_object_errWrong)] 287, .cells #[.string (textOf Rows.laid_sacristy_object_errOver)] 287], #[], []⟩
  { w0 with heap := ((((((((w0.heap.modify 5 (setCells [.iface 266 (.pointer (some ⟨low, 0, none⟩))])).modify 1 (setCells [.iface 266 (.pointer (some ⟨low + 1, 0, none⟩))])).modify 0 (setCells [.iface 266 (.pointer (some ⟨low + 2, 0, none⟩))])).modify
      6 (setCells (litsOf Rows.laid_internal_strconv_uint64pow10))).modify 9 (setCells (litsOf Rows.laid_math_bits_deBruijn32tab))).modify 10 (setCells (litsOf Rows.laid_math_bits_deBruijn64tab))).modify 4 (setCells (litsOf Rows.laid_sacristy_digest_primes))).modify 2 (setCells [.iface 178 (.agg #[.pointer (some ⟨11, 99, none⟩)])])) }
theorem laid_met (os : Os) (args : Array Value) : laidMetH Tryz.prog laidL ((laidWorld os).forCall (fun _ _ => 0) ⟨#[], args, []⟩).memory :=
  laidMetH_of_parts (laidMet_of_run' 8 (by kernel_rfl) (by kernel_rfl)) (by kernel_rfl)

theorem laid_out : laidOutB Tryz.prog = true := by kernel_rfl

/-- The arguments read as they did, where nothing below has turned. -/
theorem below_trodAll {H : Type} {enc : TypeId × Value → H} {W W' : World} (hb : Below W.heap.size W W') : ∀ {ts : List TypeId} {vs : List Value} {ds : List (DataW H)} {ps : List MemPlace},
    (∀ t ∈ ts, Tryz.prog.readableRec t = true ∧ t < Tryz.prog.types.size) → DataW.TrodAll enc Tryz.prog W 0 (fun _ => true) true ts vs ds ps → (∀ x ∈ ps, x.block < W.heap.size) → DataW.TrodAll enc Tryz.prog W' 0 (fun b => decide (b < W.heap.size)) true ts vs ds ps
  | [], [], [], _, _, h, _ => h
  | _ :: _, _ :: _, _ :: _, _, hT, ⟨p, q, h1, h2, e⟩, hs =>
    ⟨p, q, Below.trod laid_out (hT _ (List.mem_cons.2 (Or.inl rfl))).1 (hT _ (List.mem_cons.2 (Or.inl rfl))).2 h1 hb (fun x hx => hs x (by rw [e]; exact List.mem_append_left _ hx)),
      below_trodAll hb (fun t ht => hT t (List.mem_cons.2 (Or.inr ht))) h2 (fun x hx => hs x (by rw [e]; exact List.mem_append_right _ hx)), e⟩

theorem fits_of {H : Type} {ts : List TypeId} {ds : List (DataW H)} (h : (DataW.weightsEach Tryz.prog ts ds).all (· ≤ reachBytes) = true) {j : Nat} {t : TypeId} {d : DataW H} (ht : ts[j]? = some t) (hd : ds[j]? = some d) : Fits t d := fun n hn => by
  simpa using List.all_eq_true.1 h _ (DataW.weights_mem_each ht hd n hn)

section
variable {H : Type} {enc : TypeId × Value → H} {W : World} {r : Go.Reach} {b0 : Nat} {v : Value} {d : DataW H} {ps : List MemPlace}
set_option maxRecDepth 100000

theorem helds_of (hval : Value.okWide Tryz.prog W r b0 22 v) (hd : DataW.Trod enc Tryz.prog W 0 (fun _ => true) true 22 v d ps) (hF : Fits 22 d) : ∃ l : List Hld, l.length ≤ limW ∧ HldsR W v l := by
  obtain ⟨a, len, cap, rfl⟩ := okWide_slice Tryz.underlying22 hval
  obtain ⟨fuel, h⟩ := hd
  exact open_helds (v := .slice a len cap) h hF
theorem objs_of (hval : Value.okWide Tryz.prog W r b0 39 v) (hd : DataW.Trod enc Tryz.prog W 0 (fun _ => true) true 39 v d ps) (hF : Fits 39 d) : ∃ l : List (Int × Bs), l.length ≤ limW ∧ ObjsR W v l := by
  obtain ⟨a, len, cap, rfl⟩ := okWide_slice Tryz.underlying39 hval
  obtain ⟨fuel, h⟩ := hd
  exact open_objs (v := .slice a len cap) h hF
theorem strs_of (hval : Value.okWide Tryz.prog W r b0 23 v) (hd : DataW.Trod enc Tryz.prog W 0 (fun _ => true) true 23 v d ps) (hF : Fits 23 d) : ∃ l : List Bs, l.length ≤ limW ∧ StrsR W v l := by
  obtain ⟨a, len, cap, rfl⟩ := okWide_slice Tryz.underlying23 hval
  obtain ⟨fuel, h⟩ := hd
  obtain ⟨l, h1, _, h2⟩ := open_strs (v := .slice a len cap) h hF
  exact ⟨l, h1, h2⟩
theorem u8_of (hval : Value.okWide Tryz.prog W r b0 5 v) (hd : DataW.Trod enc Tryz.prog W 0 (fun _ => true) true 5 v d ps) : ∃ n : Nat, n < 256 ∧ v = .int .u8 (n : Int) := by
  obtain ⟨n, rfl, _, _, hw⟩ := open_int Tryz.underlying5 hval hd
  have hn := bounds_u8 hw
  obtain ⟨m, rfl⟩ := Int.eq_ofNat_of_zero_le hn.1
  exact ⟨m, by omega, rfl⟩
end
end Go.Proofs.YtngphfogomchfaaGreatDoor
