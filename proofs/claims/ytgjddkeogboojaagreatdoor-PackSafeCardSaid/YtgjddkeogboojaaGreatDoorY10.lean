/-
  readChange, GetChange, changeWants. readLabel, GetLabel, labelWants.
-/
import Derived.Test.YtgjddkeogboojaaGreatDoorY08
import Derived.Test.YtgjddkeogboojaaGreatDoorY09
set_option maxHeartbeats 16000000
set_option maxRecDepth 100000
namespace Go.Proofs.YtgjddkeogboojaaGreatDoor
open Go Go.RowKit Go.Shelf
structure ChgEnv (w : World) (W : World) (tr : zB) (vp : Value) (ps : List (zB)) (wh : zB) : Prop where
 below : Below w.heap.size w W
 own : OwK 9 1 strC W (w.heap.size + 11) vp ps
 r0 : W.heap[w.heap.size]? = some (.cells #[.string ⟨#[]⟩, .slice none 0 0, .string ⟨#[]⟩, .string ⟨#[]⟩] 96 (0, 0))
 c : W.heap[w.heap.size + 1]? = some (.cells #[SV tr, vp, SV wh, .string ⟨#[]⟩] 96 (0, 0))
 b2 : W.heap[w.heap.size + 2]? = some (.cells #[SV wTree] 9 (0, 0))
 b3 : W.heap[w.heap.size + 3]? = some (.cells #[.pointer (some ⟨w.heap.size + 1, 0, none⟩)] 285 (0, 0))
 b4 : W.heap[w.heap.size + 4]? = some (.cells #[SV wParent] 9 (0, 0))
 b5 : W.heap[w.heap.size + 5]? = some (.cells #[.int .i64 8] 3 (0, 0))
 b6 : W.heap[w.heap.size + 6]? = some (.cells #[.pointer (some ⟨w.heap.size + 1, 1, none⟩)] 287 (0, 0))
 b7 : W.heap[w.heap.size + 7]? = some (.cells #[SV wWho] 9 (0, 0))
 b8 : W.heap[w.heap.size + 8]? = some (.cells #[.pointer (some ⟨w.heap.size + 1, 2, none⟩)] 285 (0, 0))
 b9 : W.heap[w.heap.size + 9]? = some (.cells #[.string ⟨#[10]⟩] 9 (0, 0))
 b10 : W.heap[w.heap.size + 10]? = some (.cells #[.func (.func 191) #[] #[.pointer (some ⟨w.heap.size + 2, 0, none⟩), .pointer (some ⟨w.heap.size + 3, 0, none⟩)],
  .func (.func 192) #[] #[.pointer (some ⟨w.heap.size + 6, 0, none⟩), .pointer (some ⟨w.heap.size + 5, 0, none⟩), .pointer (some ⟨w.heap.size + 4, 0, none⟩)],
  .func (.func 191) #[] #[.pointer (some ⟨w.heap.size + 7, 0, none⟩), .pointer (some ⟨w.heap.size + 8, 0, none⟩)],
  .func (.func 193) #[] #[.pointer (some ⟨w.heap.size + 9, 0, none⟩)]] 283 (0, 0))
theorem OwK.kept {b tb : Nat} {w w' : World} {v : Value} {l : List (zB)} (h : OwK 9 1 strC w b v l) (hg : w.grownBy w' (some tb)) (ht : tb < b) : OwK 9 1 strC w' b v l := by
 obtain ⟨h1, h2⟩ := h;refine ⟨h1, ?_⟩;rcases h2 with h2 | ⟨g, cap, cur, rfl, hbg, hg2, r⟩
 · exact .inl h2
 · exact .inr ⟨g, cap, cur, rfl, hbg, (hg.block g (lt_heap hg2) (fun e => by cases e; omega)).trans hg2, r⟩
section
variable {w W W' : World} {tr wh : zB} {vp : Value} {ps : List (zB)}
theorem ChgEnv.lt (h : ChgEnv w W tr vp ps wh) : w.heap.size + 11 ≤ W.heap.size := lt_heap h.b10
theorem ChgEnv.turn (h : ChgEnv w W tr vp ps wh) (hg : W.grownBy W' (some (w.heap.size + 1))) {tr' wh' : zB} {vp' : Value} {ps' : List (zB)} (hc : W'.heap[w.heap.size + 1]? = some (.cells #[SV tr', vp', SV wh', .string ⟨#[]⟩] 96 (0, 0))) (ho : OwK 9 1 strC W' (w.heap.size + 11) vp' ps') : ChgEnv w W' tr' vp' ps' wh' := by
 have k : ∀ j, j ≠ 1 → ∀ o, W.heap[w.heap.size + j]? = some o → W'.heap[w.heap.size + j]? = some o := fun j hj o ho => (hg.block _ (lt_heap ho) (fun e => hj (by simp at e; omega))).trans ho;exact ⟨h.below.grown hg h.below.size (fun k e => by cases e; omega), ho, k 0 (by omega) _ h.r0, hc, k 2 (by omega) _ h.b2, k 3 (by omega) _ h.b3, k 4 (by omega) _ h.b4, k 5 (by omega) _ h.b5, k 6 (by omega) _ h.b6, k 7 (by omega) _ h.b7, k 8 (by omega) _ h.b8, k 9 (by omega) _ h.b9, k 10 (by omega) _ h.b10⟩
end
def chgRel (s0 : zB) : Nat → zB → zB → List (zB) → zB → Prop
 | 0, s, _, ps, _ => s = s0 ∧ ps = []
 | 1, s, tr, ps, _ => z0e wTree s0 = some (tr, s) ∧ ps = []
 | 2, s, tr, ps, _ => ∃ r1, z0e wTree s0 = some (tr, r1) ∧ z1f wParent 8 r1 = some (ps, s)
 | 3, s, tr, ps, wh => ∃ r1 r2, z0e wTree s0 = some (tr, r1) ∧ z1f wParent 8 r1 = some (ps, r2) ∧ z0e wWho r2 = some (wh, s)
 | _, s, tr, ps, wh => rawC s0 = some ⟨tr, ps, wh, s⟩
def chgP (w : World) (s0 : zB) (i : Nat) (s : zB) (W : World) : Prop := s.length ≤ 100000 ∧ ∃ tr vp ps wh, ChgEnv w W tr vp ps wh ∧ chgRel s0 i s tr ps wh ∧ (i = 0 ∨ i = 1 → vp = .slice none 0 0)
def chgF (w : World) (s0 : zB) (_ : Value) (W : World) : Prop := rawC s0 = none ∧ Below w.heap.size w W ∧ W.heap[w.heap.size]? = some (.cells #[.string ⟨#[]⟩, .slice none 0 0, .string ⟨#[]⟩, .string ⟨#[]⟩] 96 (0, 0))
def chgG : Nat → FuncId
 | 0 => 191
 | 1 => 192
 | 2 => 191
 | _ => 193
def chgL (N : Nat) : Nat → Array Value
 | 0 => #[.pointer (some ⟨N + 2, 0, none⟩), .pointer (some ⟨N + 3, 0, none⟩)]
 | 1 => #[.pointer (some ⟨N + 6, 0, none⟩), .pointer (some ⟨N + 5, 0, none⟩), .pointer (some ⟨N + 4, 0, none⟩)]
 | 2 => #[.pointer (some ⟨N + 7, 0, none⟩), .pointer (some ⟨N + 8, 0, none⟩)]
 | _ => #[.pointer (some ⟨N + 9, 0, none⟩)]
theorem zii {word : zB} {n : Nat} {s r : zB} {l : List (zB)} (h : z1f word n s = some (l, r)) : r.length ≤ s.length := by
 rw [z62 h]; simp
theorem z04 {W : World} {b i : Nat} {cs : Array Value} {t : TypeId} (h : W.heap[b]? = some (.cells cs t (0, 0))) : W.frozen? ⟨b, i, none⟩ = false := by
 simp [World.frozen?, h]
theorem chg_step (w : World) (he : Eb w) (s0 : zB) : ∀ i s W, i < 4 → chgP w s0 i s W → Calls Tryz.prog (chgG i) (#[.string ⟨s.toArray⟩] ++ chgL w.heap.size i) W (StepPost (chgP w s0 (i + 1)) (chgF w s0)) := by
 have hgl : 4 < w.heap.size := by
  obtain ⟨a, h⟩ := he.er.wrong; exact World.block_lt_of_cell? w _ h
 intro i s W hi hP;obtain ⟨hs, tr, vp, ps, wh, E, R, hv⟩ := hP;have heW := he.below E.below
 match i, hi, R, hv with
 | 0, _, R, hv =>
   obtain ⟨e0, e1⟩ := R;subst e0 e1;obtain rfl := hv (.inl rfl);refine (z5h s wTree (by omega) W heW.er (w.heap.size + 2) (w.heap.size + 3) (w.heap.size + 1) 0 _ (z03 E.b2 rfl) (z03 E.b3 rfl) (z03 E.c rfl) (z04 E.c) (by omega) (by omega) (by omega)).mono ?_;rintro e w' (⟨q, rfl, a, h1, h2⟩ | ⟨x, p, rfl, h1, h2, _⟩)
   · exact .inl ⟨q, rfl, by have := z1n h1; omega, a, _, _, _, E.turn h2.1 (by have := h2.2 _ _ E.c; simpa using this) (E.own.kept h2.1 (by omega)), ⟨h1, rfl⟩, fun _ => rfl⟩
   · refine .inr ⟨_, p, rfl, by unfold rawC; rw [h1], E.below.grown h2 E.below.size (fun k e => by cases e; omega), (h2.block _ (lt_heap E.r0) (fun e => by simp at e)).trans E.r0⟩
 | 1, _, R, hv =>
   obtain ⟨e0, e1⟩ := R;subst e1;obtain rfl := hv (.inr rfl);refine (zla s wParent (by omega) W (w.heap.size + 6) (w.heap.size + 5) (w.heap.size + 4) (w.heap.size + 1) 1 _ _ (z03 E.b6 rfl) (z03 E.b5 rfl) (z03 E.b4 rfl) E.c rfl (by omega) (by omega) (by omega) (fun W' hg => he.below (E.below.grown hg E.below.size (fun k e => by cases e; omega)))).mono ?_;rintro e w' (⟨q, rfl, l, v, h1, h2, h3, h4⟩ | ⟨x, p, rfl, h1, h2⟩)
   · exact .inl ⟨q, rfl, by have := zii h1; omega, tr, v, l, wh, E.turn h2 (by simpa using h3) (h4.mono E.lt), ⟨s, e0, h1⟩, fun h => by omega⟩
   · refine .inr ⟨_, p, rfl, by unfold rawC; rw [e0]; simp only; rw [h1], E.below.grown h2 E.below.size (fun k e => by cases e; omega), (h2.block _ (lt_heap E.r0) (fun e => by simp at e)).trans E.r0⟩
 | 2, _, R, hv =>
   obtain ⟨r1, e0, e1⟩ := R;refine (z5h s wWho (by omega) W heW.er (w.heap.size + 7) (w.heap.size + 8) (w.heap.size + 1) 2 _ (z03 E.b7 rfl) (z03 E.b8 rfl) (z03 E.c rfl) (z04 E.c) (by omega) (by omega) (by omega)).mono ?_;rintro e w' (⟨q, rfl, a, h1, h2⟩ | ⟨x, p, rfl, h1, h2, _⟩)
   · exact .inl ⟨q, rfl, by have := z1n h1; omega, _, _, _, a, E.turn h2.1 (by have := h2.2 _ _ E.c; simpa using this) (E.own.kept h2.1 (by omega)), ⟨r1, s, e0, e1, h1⟩, fun h => by omega⟩
   · refine .inr ⟨_, p, rfl, by unfold rawC; rw [e0]; simp only; rw [e1]; simp only; rw [h1], E.below.grown h2 E.below.size (fun k e => by cases e; omega), (h2.block _ (lt_heap E.r0) (fun e => by simp at e)).trans E.r0⟩
 | 3, _, R, hv =>
   obtain ⟨r1, r2, e0, e1, e2⟩ := R;have er : rawC s0 = (z79 s).map fun x => ⟨tr, ps, wh, x⟩ := by unfold rawC; rw [e0]; simp only; rw [e1]; simp only; rw [e2]
   by_cases hp : ([10] : zB).isPrefixOf s = true
   · refine (z8d s [10] (w.heap.size + 9) W (z03 E.b9 rfl) heW.er hp).mono ?_;rintro e w' ⟨rfl, rfl⟩;obtain ⟨q, hq⟩ := z61.1 hp;refine .inl ⟨q, by rw [hq]; rfl, by rw [hq] at hs; simp at hs; omega, tr, vp, ps, wh, E, ?_, fun h => by omega⟩;show rawC s0 = _;rw [er, hq]; rfl
   · obtain ⟨a, b, _, _, c3⟩ := heW.er.two;refine (zbo s [10] (w.heap.size + 9) W (z03 E.b9 rfl) _ c3 (Bool.eq_false_iff.2 hp)).mono ?_;rintro e w' ⟨rfl, rfl⟩;refine .inr ⟨_, _, rfl, ?_, E.below.trans ((below_new W _).mono E.below.size), ((below_new W _).block _ (lt_heap E.r0)).trans E.r0⟩;rw [er];cases s with
     | nil => rfl
     | cons b s =>
       rw [z79, if_neg]
       · rfl
       · intro h; subst h; exact hp (by simp)
def z3g : Chg := ⟨[], [], [], []⟩
def RcPost (s : zB) (w : World) (e : Ending) (w' : World) : Prop :=
 Below w.heap.size w w' ∧ ∃ c vp, OwK 9 1 strC w' w.heap.size vp c.parents ∧ c.parents.length ≤ 8 ∧ ((getC s = some c ∧ e = .returned (.tuple #[ChgV c vp, .nilIface])) ∨ (getC s = none ∧ ∃ p, e = .returned (.tuple #[ChgV c vp, .iface 232 (.pointer (some p))])))
theorem zar {word : zB} : ∀ {n : Nat} {s r : zB} {l : List (zB)}, z1f word n s = some (l, r) → l.length ≤ n
 | 0, s, r, l, h => by
   simp only [z1f, Option.some.injEq, Prod.mk.injEq] at h;obtain ⟨rfl, _⟩ := h; simp
 | n + 1, s, r, l, h => by
   rw [z5k] at h;by_cases hp : word.isPrefixOf s = true
   · rw [if_pos hp] at h;cases hc : z0e word s with
     | none => rw [hc] at h; cases h
     | some p =>
       obtain ⟨a, q⟩ := p;rw [hc] at h;obtain ⟨⟨l', r'⟩, h1, h2⟩ := Option.map_eq_some_iff.1 h;simp only [Prod.mk.injEq] at h2;obtain ⟨rfl, rfl⟩ := h2;have := zar h1;simpa using this
   · rw [if_neg hp] at h;simp only [Option.some.injEq, Prod.mk.injEq] at h;obtain ⟨rfl, _⟩ := h; simp
theorem zgv : ∀ {l : List (zB)} {x : zB}, x ∈ l → x.length ≤ (parL l).length
 | [], _, h => by simp at h
 | y :: l, x, h => by
   have e : parL (y :: l) = (wParent ++ (y ++ [10])) ++ parL l := rfl;rw [e];rcases List.mem_cons.1 h with rfl | h
   · simp; omega
   · have := zgv h;simp; omega
theorem zij {s : zB} {c : Chg} (hs : s.length ≤ 100000) (h : rawC s = some c) : zgs c ∧ c.parents.length ≤ 8 := by
 have e := zck h;have hl : s.length = (putC c).length := by rw [← e]
 have h8 : c.parents.length ≤ 8 := by
  unfold rawC at h;cases h1 : z0e wTree s with
  | none => rw [h1] at h; cases h
  | some p =>
    obtain ⟨t, r1⟩ := p;rw [h1] at h; simp only at h;cases h2 : z1f wParent 8 r1 with
    | none => rw [h2] at h; cases h
    | some p =>
      obtain ⟨ps, r2⟩ := p;rw [h2] at h; simp only at h;cases h3 : z0e wWho r2 with
      | none => rw [h3] at h; cases h
      | some p =>
        obtain ⟨w, r3⟩ := p;rw [h3] at h; simp only at h;obtain ⟨x, h4, rfl⟩ := Option.map_eq_some_iff.1 h;exact zar h2
 have e2 : (putC c).length = c.tree.length + c.who.length + c.text.length + (parL c.parents).length + 12 := by simp [putC, wTree, wWho]; omega
 refine ⟨⟨by omega, fun x hx => ?_, by omega, by omega⟩, h8⟩;have := zgv hx;omega
theorem za9 (s : zB) (hs : s.length ≤ 100000) (w : World) (he : Eb w) : Calls Tryz.prog 169 #[.string ⟨s.toArray⟩] w (RcPost s w) := by
 have HST := zh (chg_step w he s);have HS := zh hs; have HE := zh he;clear he hs
 go_enter Tryz.func169, Tryz.ntmps169
 go_wp2_with fail
 refine (z7e _ _ _).mono ?_;rintro e w1 ⟨rfl, rfl⟩
 go_wp2_with fail
 refine (lines_mk _ _ _ _).mono ?_;rintro e w1 ⟨rfl, rfl⟩
 go_wp2_with fail
 refine (z7e _ _ _).mono ?_;rintro e w1 ⟨rfl, rfl⟩
 go_wp2_with fail
 refine (zbp _ _).mono ?_;rintro e w1 ⟨rfl, rfl⟩
 go_wp2_with fail
 refine (z6i 4 4 (w.heap.size + 10) (by decide) chgG (chgL w.heap.size) (chgP w s) (chgF w s) ?c1 ?c2 HST.out s _ ?c3).mono ?_
 case c1 =>
  rintro i r W hi ⟨_, tr, vp, ps, wh, E, _⟩;refine z03 E.b10 ?_
  match i, hi with
  | 0, _ => rfl
  | 1, _ => rfl
  | 2, _ => rfl
  | 3, _ => rfl
 case c2 =>
  intro i hi
  match i, hi with
  | 0, _ => exact enters_of Tryz.func191 (by kernel_rfl) rfl
  | 1, _ => exact enters_of Tryz.func192 (by kernel_rfl) rfl
  | 2, _ => exact enters_of Tryz.func191 (by kernel_rfl) rfl
  | 3, _ => exact enters_of Tryz.func193 (by kernel_rfl) rfl
 case c3 =>
  refine ⟨HS.out, [], .slice none 0 0, [], [], ⟨?_, OwK.nil _ _ _ _ _, ?_, ?_, ?_, ?_, ?_, ?_, ?_, ?_, ?_, ?_, ?_⟩, ⟨rfl, rfl⟩, fun _ => rfl⟩
  · refine Below.alloc (Below.alloc (Below.alloc (Below.alloc (Below.alloc (Below.alloc (Below.alloc (Below.alloc (Below.alloc (Below.alloc (Below.alloc (Below.refl _ _) ?_ _) ?_ _) ?_ _) ?_ _) ?_ _) ?_ _) ?_ _) ?_ _) ?_ _) ?_ _) ?_ _ <;> first | omega | (simp only [World.size_alloc]; omega)
  all_goals (simp only [z4f, Array.getElem?_push, Array.size_push, Nat.add_assoc, Nat.reduceAdd]; simp [SV, wTree, wParent, wWho])
 rintro e W (⟨r, rfl, hr, tr, vp, ps, wh, E, R, _⟩ | ⟨r, p, rfl, hg, hb, h0⟩)
 · have R2 : rawC s = some ⟨tr, ps, wh, r⟩ := R;obtain ⟨hsm, hpl⟩ := zij HS.out R2;have hgc : getC s = if z18 ⟨tr, ps, wh, r⟩ then some ⟨tr, ps, wh, r⟩ else none := by unfold getC; rw [R2]
   have HG := zh hgc;have hp0 := E.own.rd z19;obtain ⟨A, ca, rfl⟩ := hp0.shape;have HB := zh E.below; have HPR := zh hp0; have HPL := zh hpl;obtain ⟨W1, hW1⟩ := zx (W.setCell ⟨w.heap.size + 1, 3, none⟩ (.string ⟨r.toArray⟩))
   have hc1 : W1.heap[w.heap.size + 1]? = some (.cells #[SV tr, .slice A ps.length ca, SV wh, SV r] 96 (0, 0)) := by
    rw [hW1]; simp [World.setCell, Array.getElem?_modify, E.c, SV]
   have hr1 : W1.heap[w.heap.size]? = some (.cells #[.string ⟨#[]⟩, .slice none 0 0, .string ⟨#[]⟩, .string ⟨#[]⟩] 96 (0, 0)) := by
    rw [hW1]; exact (Below.heap_setCell _ _ _ _ (fun e => by simp at e)).trans E.r0
   have hb1 : Below w.heap.size w W1 := by rw [hW1]; exact E.below.setCell (Nat.le_add_right _ 1) _
   have ho1 : OwK 9 1 strC W1 (w.heap.size + 11) (.slice A ps.length ca) ps := by
    rw [hW1]; exact z2i E.own (by omega) 3 _
   have hp1 : StrsR W1 (.slice A ps.length ca) ps := ho1.rd z19;have HO1 := zh ho1;have x3 : W.cell? ⟨w.heap.size + 1, 3, none⟩ = some (.string ⟨#[]⟩) := z03 E.c rfl;have z3 : W.frozen? ⟨w.heap.size + 1, 3, none⟩ = false := z04 E.c;have HW1 := zh hW1;have HC1 := zh hc1; have HR1 := zh hr1; have HB1 := zh hb1; have HP1 := zh hp1;have hck := fun W' (hW' : Below W1.heap.size W1 W') => z90 ⟨tr, ps, wh, r⟩ (.slice A ps.length ca) W' (hp1.below hW' zl) hsm ((HE.out.below hb1).er.below hW');unfold ChgV at hck;simp only at hck;have HCK := zh hck;clear E R R2 hsm hpl hgc hp0 hW1 hc1 hr1 hb1 hp1 ho1 hck hr;have q0 : W1.cell? ⟨w.heap.size + 1, 0, none⟩ = some (.string ⟨tr.toArray⟩) := z03 HC1.out rfl;have q1 : W1.cell? ⟨w.heap.size + 1, 1, none⟩ = some (.slice A ps.length ca) := z03 HC1.out rfl;have q2 : W1.cell? ⟨w.heap.size + 1, 2, none⟩ = some (.string ⟨wh.toArray⟩) := z03 HC1.out rfl;have q3 : W1.cell? ⟨w.heap.size + 1, 3, none⟩ = some (.string ⟨r.toArray⟩) := z03 HC1.out rfl;have hS0 := And.intro q0 (And.intro q1 (And.intro q2 q3))
   have hk : ∀ W', Below W1.heap.size W1 W' → (W'.cell? ⟨w.heap.size + 1, 0, none⟩ = some (.string ⟨tr.toArray⟩) ∧ W'.cell? ⟨w.heap.size + 1, 1, none⟩ = some (.slice A ps.length ca) ∧ W'.cell? ⟨w.heap.size + 1, 2, none⟩ = some (.string ⟨wh.toArray⟩) ∧ W'.cell? ⟨w.heap.size + 1, 3, none⟩ = some (.string ⟨r.toArray⟩)) ∧
    (W'.cell? ⟨w.heap.size, 0, none⟩ = some (.string ⟨#[]⟩) ∧ W'.cell? ⟨w.heap.size, 1, none⟩ = some (.slice none 0 0) ∧ W'.cell? ⟨w.heap.size, 2, none⟩ = some (.string ⟨#[]⟩) ∧ W'.cell? ⟨w.heap.size, 3, none⟩ = some (.string ⟨#[]⟩)) ∧
    (W'.frozen? ⟨w.heap.size, 0, none⟩ = false ∧ W'.frozen? ⟨w.heap.size, 1, none⟩ = false ∧ W'.frozen? ⟨w.heap.size, 2, none⟩ = false ∧ W'.frozen? ⟨w.heap.size, 3, none⟩ = false) := fun W' hW' => by
    have hc := (hW'.block _ (lt_heap HC1.out)).trans HC1.out;have hr := (hW'.block _ (lt_heap HR1.out)).trans HR1.out;exact ⟨⟨z03 hc rfl, z03 hc rfl, z03 hc rfl, z03 hc rfl⟩, ⟨z03 hr rfl, z03 hr rfl, z03 hr rfl, z03 hr rfl⟩, ⟨z04 hr, z04 hr, z04 hr, z04 hr⟩⟩
   have HK := zh hk;clear hk;unfold SV
   go_wp2_with fail
   rw [← HW1.out]
   go_wp2_with fail
   go_region_held3 (fun W' => W'.cell? ⟨w.heap.size + 1, 0, none⟩ = some (.string ⟨tr.toArray⟩) ∧ W'.cell? ⟨w.heap.size + 1, 1, none⟩ = some (.slice A ps.length ca) ∧ W'.cell? ⟨w.heap.size + 1, 2, none⟩ = some (.string ⟨wh.toArray⟩) ∧ W'.cell? ⟨w.heap.size + 1, 3, none⟩ = some (.string ⟨r.toArray⟩))
    (first | exact hS0 | assumption | go_keep)
    (first
      | (go_at_call 182; refine (HCK.out W1.drew (Below.refl _ _).drew).mono ?_; intro e w5 h5; have H5 := zh h5; obtain ⟨ev, rfl⟩ := h5.ret; obtain ⟨hS5, ⟨y0, y1, y2, y3⟩, ⟨z0, z1, z2, z3⟩⟩ := HK.out w5 (bdr h5.2); clear h5)
      | show False)
   obtain ⟨f0, f1, f2, f3⟩ := cells4 w5 w.heap.size (.string ⟨tr.toArray⟩) (.slice A ps.length ca) (.string ⟨wh.toArray⟩) (.string ⟨r.toArray⟩) y0 y1 y2 y3
   go_wp2_with fail
   refine bodyPost_ret (v := .tuple #[ChgV ⟨tr, ps, wh, r⟩ (.slice A ps.length ca), ev]) (by simp [results, Tryz.results169, go_sem, f0, f1, f2, f3, ChgV]) rfl ?_;have hb5 := bdr H5.out.2;have hbw := HB1.out.trans (hb5.mono HB1.out.size);refine ⟨z0i hbw zl _ _ _ _, ⟨tr, ps, wh, r⟩, .slice A ps.length ca, ?_, HPL.out, ?_⟩
   · exact (z2i (z2i (z2i (z2i (HO1.out.below hb5 zl) (by omega) 0 _) (by omega) 1 _) (by omega) 2 _) (by omega) 3 _).mono (by omega)
   · rcases H5.out.1 with ⟨h1, h2⟩ | ⟨h1, p, h2⟩
     · cases h2; exact .inl ⟨by rw [HG.out, h1]; rfl, rfl⟩
     · cases h2; exact .inr ⟨by rw [HG.out, h1]; rfl, p, rfl⟩
 · obtain ⟨pb, po, psx⟩ := p;have hgc : getC s = none := by unfold getC; rw [hg]
   have HG := zh hgc;have HB := zh hb;have y0 : W.cell? ⟨w.heap.size, 0, none⟩ = some (.string ⟨#[]⟩) := z03 h0 rfl;have y1 : W.cell? ⟨w.heap.size, 1, none⟩ = some (.slice none 0 0) := z03 h0 rfl;have y2 : W.cell? ⟨w.heap.size, 2, none⟩ = some (.string ⟨#[]⟩) := z03 h0 rfl;have y3 : W.cell? ⟨w.heap.size, 3, none⟩ = some (.string ⟨#[]⟩) := z03 h0 rfl;have z0 : W.frozen? ⟨w.heap.size, 0, none⟩ = false := z04 h0;have z1 : W.frozen? ⟨w.heap.size, 1, none⟩ = false := z04 h0;have z2 : W.frozen? ⟨w.heap.size, 2, none⟩ = false := z04 h0;have z3 : W.frozen? ⟨w.heap.size, 3, none⟩ = false := z04 h0;obtain ⟨f0, f1, f2, f3⟩ := cells4 W w.heap.size (.string ⟨#[]⟩) (.slice none 0 0) (.string ⟨#[]⟩) (.string ⟨#[]⟩) y0 y1 y2 y3;clear hg hgc hb h0
   go_wp2_with fail
   refine bodyPost_ret (v := .tuple #[ChgV z3g (.slice none 0 0), .iface 232 (.pointer (some ⟨pb, po, psx⟩))]) (by simp [results, Tryz.results169, go_sem, f0, f1, f2, f3, ChgV, z3g]) rfl ?_;exact ⟨z0i HB.out zl _ _ _ _, z3g, .slice none 0 0, OwK.nil _ _ _ _ _, by simp [z3g], .inr ⟨HG.out, _, rfl⟩⟩
def GcPost (o : Option Chg) (w : World) (e : Ending) (w' : World) : Prop :=
 Below w.heap.size w w' ∧ ∃ c vp, StrsR w' vp c.parents ∧ e = .returned (.tuple #[ChgV c vp, .bool o.isSome]) ∧ c = o.getD z3g
theorem own_set4 {b1 b2 : Nat} {w : World} {v : Value} {l : List (zB)} (h : OwK 9 1 strC w b1 v l) (hb : b2 < b1) (a b c d : Value) :
 OwK 9 1 strC ((((w.setCell ⟨b2, 0, none⟩ a).setCell ⟨b2, 1, none⟩ b).setCell ⟨b2, 2, none⟩ c).setCell ⟨b2, 3, none⟩ d) b1 v l :=
 z2i (z2i (z2i (z2i h hb 0 _) hb 1 _) hb 2 _) hb 3 _
def CwRel (c : Chg) (w1 : World) (k : Nat) (v : Value) (wr : World) : Prop :=
 OwK 266 2 z8t wr w1.heap.size v ((c.tree, 2) :: (c.parents.take k).map fun p => (p, (3 : Int))) ∧ Below w1.heap.size w1 wr
theorem CwRel.step {c : Chg} {w1 w2 w3 : World} {k : Nat} {v' : Value} {x : zB} {ns : List (zB × Int)} (hns : ns = (c.tree, 2) :: (c.parents.take k).map fun p => (p, (3 : Int))) (hk : k < c.parents.length) (hx : x = c.parents.getD k [])
 (ho : OwK 266 2 z8t w3 w1.heap.size v' (ns ++ [(x, 3)])) (h1 : Below w1.heap.size w1 w2) (h2 : Below w1.heap.size w2 w3) : CwRel c w1 (k + 1) v' w3 := by
 refine ⟨?_, h1.trans h2⟩;rw [z0l c.parents [] k hk, List.map_append, ← List.cons_append, ← hns, ← hx];exact ho
theorem zlj (w : World) (x : zB × Int) (b : Nat) (hb : b ≤ w.heap.size) : OwK 266 2 z8t (w.alloc (.cells #[SV x.1, .int .i64 x.2] 266)) b (.slice (some ⟨w.heap.size, 0, none⟩) 1 1) [x] := by
 refine ⟨by simp [z8t], .inr ⟨w.heap.size, 1, #[SV x.1, .int .i64 x.2], rfl, hb, heap_alloc_new _ _, Nat.le_refl _, ?_, ?_, ?_⟩⟩
 · decide
 · rfl
 · simp [z8t]
theorem wantC_eq (c : Chg) : ((c.tree, (2 : Int)) :: (c.parents.take c.parents.length).map fun p => (p, (3 : Int))) = zbk c := by rw [List.take_length]; rfl
theorem z91 (s : zB) (hs : s.length ≤ 100000) (w : World) (he : Eb w) :
 Calls Tryz.prog 156 #[.string ⟨s.toArray⟩] w (WtPost ((getC s).map zbk) w) := by
 have HT := zh (za9 s hs w he);clear he hs
 go_enter Tryz.func156, Tryz.ntmps156
 go_wp2_with fail
 refine HT.out.mono ?_;rintro e w1 ⟨l1, c, vp, ho, hl, h⟩;obtain ⟨A, ca, rfl⟩ := (ho.rd z19).shape
 have hfin : ∃ ev, e = .returned (.tuple #[ChgV c (.slice A c.parents.length ca), ev]) ∧ ∀ v w2, zcn w2 v (zbk c) → Fr w.heap.size v → Below w.heap.size w w2 → WtPost ((getC s).map zbk) w (.returned (.tuple #[v, ev])) w2 := by
  rcases h with ⟨h1, rfl⟩ | ⟨h1, p, rfl⟩
  · exact ⟨_, rfl, fun v w2 h2 hf h3 => ⟨.inl ⟨v, _, by rw [h1]; rfl, rfl, h2, by simp [zbk]; omega, hf⟩, h3⟩⟩
  · refine ⟨_, rfl, fun v w2 h2 _ h3 => ⟨.inr ⟨by rw [h1]; rfl, ?_⟩, h3⟩⟩;obtain ⟨A2, c2, rfl⟩ := h2.shape;exact ⟨_, _, _, p, rfl⟩
 obtain ⟨ev, rfl, hout⟩ := hfin;have HO := zh hout; have HR := zh (ho.rd z19); have L1 := zh l1; have HL := zh hl;have hst := zlj (w1.alloc (.cells #[.string ⟨c.tree.toArray⟩, .slice A c.parents.length ca, .string ⟨c.who.toArray⟩, .string ⟨c.text.toArray⟩] 96)) (c.tree, 2) w1.heap.size (by simp);have hbs := ((below_new w1 (.cells #[.string ⟨c.tree.toArray⟩, .slice A c.parents.length ca, .string ⟨c.who.toArray⟩, .string ⟨c.text.toArray⟩] 96))).alloc (by simp) (.cells #[SV c.tree, .int .i64 2] 266);have H0 : Hid (CwRel c w1 0 _ _) := zh ⟨hst, hbs⟩;have HQ := zh (wantC_eq c);have HCr := zh (fun k => @CwRel.step c w1 · · k);clear h ho hl l1 hout hst hbs;obtain ⟨tr, ps, wh, tx⟩ := c;unfold ChgV;simp only at HR HL H0 HO HQ ⊢;unfold SV at H0;clear HCr
 go_wp2_with fail
 go_loopw [6, 21] (fun vl vi wr => ∃ k : Nat, k ≤ ps.length ∧ vi = .int .i64 k ∧ Hid (CwRel ⟨tr, ps, wh, tx⟩ w1 k vl wr)) (fun _ vi _ => ps.length - (intOf vi).toNat)
 case atStart => exact ⟨0, Nat.zero_le _, rfl, zh (by have := H0.out; simpa using this)⟩
 case round =>
  obtain ⟨k, hk, rfl, hrel⟩ := hrel;have hL := HL.out;by_cases hlt : k < ps.length
  · obtain ⟨g, o, c', e, _, hg⟩ := HR.out.pos (by omega);cases e;have c0 := StrsR.cell (HR.out.below hrel.out.2 zl) k hlt;obtain ⟨x, hx⟩ := zx (ps.getD k []);rw [← hx] at c0;unfold SV at c0;have HX := zh hx;obtain ⟨ns, hns⟩ := zx (((tr, (2 : Int)) :: (ps.take k).map fun p => (p, (3 : Int))));have hown := hrel.out.1;simp only at hown;rw [← hns] at hown;have HN := zh hns; have HOw := zh hown; have HB := zh hrel.out.2;have hnl : ns.length ≤ 9 := by rw [hns, List.length_cons, List.length_map, List.length_take]; omega
    have HNL := zh hnl;have eL : IntKind.i64.wrap ((k : Int) + 1) = ((k + 1 : Nat) : Int) := by rw [IntWalk.i64_in _ (by omega)]; omega
    clear hx hns hown hnl hrel
    go_wp2_with (at_builtin; refine z0z wantK rfl _ _ rfl w1.heap.size u6 ns (x, 3) _ rfl rfl (by simp [go_sem]) HOw.out ?c1 (by decide) ?c2 ?_)
    case c1 => have := HNL.out; omega
    case c2 => exact HB.out.size
    intro v' w2 ho2 hb2;have HR2 := zh (@CwRel.step ⟨tr, ps, wh, tx⟩ w1 _ _ k v' x ns HN.out hlt HX.out ho2 HB.out hb2);clear ho2 hb2
    go_wp2_with fail
    go_roundw
    case rel => exact ⟨k + 1, by omega, by go_num, HR2⟩
    case measure => simp [intOf]; omega
  · obtain rfl : k = ps.length := by omega
    have h0 := hrel.out;have h1 := h0.1.rd z6g;rw [HQ.out] at h1;have HF := zh (HO.out _ wr h1 (h0.1.fr L1.out.size) (L1.out.trans (h0.2.mono L1.out.size)));clear h0 h1
    go_wp2_with fail
    go_ret2
    exact HF.out
structure LblEnv (w : World) (W : World) (di kd nm : zB) : Prop where
 below : Below w.heap.size w W
 r0 : W.heap[w.heap.size]? = some (.cells #[.string ⟨#[]⟩, .int .i64 0, .string ⟨#[]⟩, .string ⟨#[]⟩] 100 (0, 0))
 l : W.heap[w.heap.size + 1]? = some (.cells #[SV di, .int .i64 0, SV nm, .string ⟨#[]⟩] 100 (0, 0))
 k : W.heap[w.heap.size + 2]? = some (.cells #[SV kd] 9 (0, 0))
 b3 : W.heap[w.heap.size + 3]? = some (.cells #[SV wObject] 9 (0, 0))
 b4 : W.heap[w.heap.size + 4]? = some (.cells #[.pointer (some ⟨w.heap.size + 1, 0, none⟩)] 285 (0, 0))
 b5 : W.heap[w.heap.size + 5]? = some (.cells #[SV wKind] 9 (0, 0))
 b6 : W.heap[w.heap.size + 6]? = some (.cells #[.pointer (some ⟨w.heap.size + 2, 0, none⟩)] 285 (0, 0))
 b7 : W.heap[w.heap.size + 7]? = some (.cells #[SV wName] 9 (0, 0))
 b8 : W.heap[w.heap.size + 8]? = some (.cells #[.pointer (some ⟨w.heap.size + 1, 2, none⟩)] 285 (0, 0))
 b9 : W.heap[w.heap.size + 9]? = some (.cells #[.string ⟨#[10]⟩] 9 (0, 0))
 b10 : W.heap[w.heap.size + 10]? = some (.cells #[.func (.func 191) #[] #[.pointer (some ⟨w.heap.size + 3, 0, none⟩), .pointer (some ⟨w.heap.size + 4, 0, none⟩)],
  .func (.func 191) #[] #[.pointer (some ⟨w.heap.size + 5, 0, none⟩), .pointer (some ⟨w.heap.size + 6, 0, none⟩)],
  .func (.func 191) #[] #[.pointer (some ⟨w.heap.size + 7, 0, none⟩), .pointer (some ⟨w.heap.size + 8, 0, none⟩)],
  .func (.func 193) #[] #[.pointer (some ⟨w.heap.size + 9, 0, none⟩)]] 283 (0, 0))
section
variable {w W W' : World} {di kd nm : zB}
theorem LblEnv.turnL (h : LblEnv w W di kd nm) (hg : W.grownBy W' (some (w.heap.size + 1))) {di' nm' : zB} (hc : W'.heap[w.heap.size + 1]? = some (.cells #[SV di', .int .i64 0, SV nm', .string ⟨#[]⟩] 100 (0, 0))) : LblEnv w W' di' kd nm' := by
 have k : ∀ j, j ≠ 1 → ∀ o, W.heap[w.heap.size + j]? = some o → W'.heap[w.heap.size + j]? = some o := fun j hj o ho => (hg.block _ (lt_heap ho) (fun e => hj (by simp at e; omega))).trans ho;exact ⟨h.below.grown hg h.below.size (fun k e => by cases e; omega), k 0 (by omega) _ h.r0, hc, k 2 (by omega) _ h.k, k 3 (by omega) _ h.b3, k 4 (by omega) _ h.b4, k 5 (by omega) _ h.b5, k 6 (by omega) _ h.b6, k 7 (by omega) _ h.b7, k 8 (by omega) _ h.b8, k 9 (by omega) _ h.b9, k 10 (by omega) _ h.b10⟩
theorem LblEnv.turnK (h : LblEnv w W di kd nm) (hg : W.grownBy W' (some (w.heap.size + 2))) {kd' : zB} (hc : W'.heap[w.heap.size + 2]? = some (.cells #[SV kd'] 9 (0, 0))) : LblEnv w W' di kd' nm := by
 have k : ∀ j, j ≠ 2 → ∀ o, W.heap[w.heap.size + j]? = some o → W'.heap[w.heap.size + j]? = some o := fun j hj o ho => (hg.block _ (lt_heap ho) (fun e => hj (by simp at e; omega))).trans ho;exact ⟨h.below.grown hg h.below.size (fun k e => by cases e; omega), k 0 (by omega) _ h.r0, k 1 (by omega) _ h.l, hc, k 3 (by omega) _ h.b3, k 4 (by omega) _ h.b4, k 5 (by omega) _ h.b5, k 6 (by omega) _ h.b6, k 7 (by omega) _ h.b7, k 8 (by omega) _ h.b8, k 9 (by omega) _ h.b9, k 10 (by omega) _ h.b10⟩
end
def lblRel (s0 : zB) : Nat → zB → zB → zB → zB → Prop
 | 0, s, _, _, _ => s = s0
 | 1, s, di, _, _ => z0e wObject s0 = some (di, s)
 | 2, s, di, kd, _ => ∃ r1, z0e wObject s0 = some (di, r1) ∧ z0e wKind r1 = some (kd, s)
 | 3, s, di, kd, nm => ∃ r1 r2, z0e wObject s0 = some (di, r1) ∧ z0e wKind r1 = some (kd, r2) ∧ z0e wName r2 = some (nm, s)
 | _, s, di, kd, nm => rawL s0 = some ⟨di, kindOfW kd, nm, s⟩
def lblP (w : World) (s0 : zB) (i : Nat) (s : zB) (W : World) : Prop := s.length ≤ 100000 ∧ ∃ di kd nm, LblEnv w W di kd nm ∧ lblRel s0 i s di kd nm
def lblF (w : World) (s0 : zB) (_ : Value) (W : World) : Prop := rawL s0 = none ∧ Below w.heap.size w W ∧ W.heap[w.heap.size]? = some (.cells #[.string ⟨#[]⟩, .int .i64 0, .string ⟨#[]⟩, .string ⟨#[]⟩] 100 (0, 0))
def lblG : Nat → FuncId
 | 0 => 191
 | 1 => 191
 | 2 => 191
 | _ => 193
def lblL (N : Nat) : Nat → Array Value
 | 0 => #[.pointer (some ⟨N + 3, 0, none⟩), .pointer (some ⟨N + 4, 0, none⟩)]
 | 1 => #[.pointer (some ⟨N + 5, 0, none⟩), .pointer (some ⟨N + 6, 0, none⟩)]
 | 2 => #[.pointer (some ⟨N + 7, 0, none⟩), .pointer (some ⟨N + 8, 0, none⟩)]
 | _ => #[.pointer (some ⟨N + 9, 0, none⟩)]
theorem lbl_step (w : World) (he : Er w) (s0 : zB) : ∀ i s W, i < 4 → lblP w s0 i s W → Calls Tryz.prog (lblG i) (#[.string ⟨s.toArray⟩] ++ lblL w.heap.size i) W (StepPost (lblP w s0 (i + 1)) (lblF w s0)) := by
 have hgl : 4 < w.heap.size := by
  obtain ⟨a, h⟩ := he.wrong; exact World.block_lt_of_cell? w _ h
 intro i s W hi hP;obtain ⟨hs, di, kd, nm, E, R⟩ := hP;have heW := he.below E.below
 match i, hi, R with
 | 0, _, R =>
   have e0 : s = s0 := R;subst e0;refine (z5h s wObject (by omega) W heW (w.heap.size + 3) (w.heap.size + 4) (w.heap.size + 1) 0 _ (z03 E.b3 rfl) (z03 E.b4 rfl) (z03 E.l rfl) (z04 E.l) (by omega) (by omega) (by omega)).mono ?_;rintro e w' (⟨q, rfl, a, h1, h2⟩ | ⟨x, p, rfl, h1, h2, _⟩)
   · exact .inl ⟨q, rfl, by have := z1n h1; omega, a, _, _, E.turnL h2.1 (by have := h2.2 _ _ E.l; simpa using this), h1⟩
   · refine .inr ⟨_, p, rfl, by unfold rawL; rw [h1], E.below.grown h2 E.below.size (fun k e => by cases e; omega), (h2.block _ (lt_heap E.r0) (fun e => by simp at e)).trans E.r0⟩
 | 1, _, R =>
   have e0 : z0e wObject s0 = some (di, s) := R;refine (z5h s wKind (by omega) W heW (w.heap.size + 5) (w.heap.size + 6) (w.heap.size + 2) 0 _ (z03 E.b5 rfl) (z03 E.b6 rfl) (z03 E.k rfl) (z04 E.k) (by omega) (by omega) (by omega)).mono ?_;rintro e w' (⟨q, rfl, a, h1, h2⟩ | ⟨x, p, rfl, h1, h2, _⟩)
   · exact .inl ⟨q, rfl, by have := z1n h1; omega, _, a, _, E.turnK h2.1 (by have := h2.2 _ _ E.k; simpa using this), s, e0, h1⟩
   · refine .inr ⟨_, p, rfl, by unfold rawL; rw [e0]; simp only; rw [h1], E.below.grown h2 E.below.size (fun k e => by cases e; omega), (h2.block _ (lt_heap E.r0) (fun e => by simp at e)).trans E.r0⟩
 | 2, _, R =>
   obtain ⟨r1, e0, e1⟩ := R;refine (z5h s wName (by omega) W heW (w.heap.size + 7) (w.heap.size + 8) (w.heap.size + 1) 2 _ (z03 E.b7 rfl) (z03 E.b8 rfl) (z03 E.l rfl) (z04 E.l) (by omega) (by omega) (by omega)).mono ?_;rintro e w' (⟨q, rfl, a, h1, h2⟩ | ⟨x, p, rfl, h1, h2, _⟩)
   · exact .inl ⟨q, rfl, by have := z1n h1; omega, _, _, a, E.turnL h2.1 (by have := h2.2 _ _ E.l; simpa using this), r1, s, e0, e1, h1⟩
   · refine .inr ⟨_, p, rfl, by unfold rawL; rw [e0]; simp only; rw [e1]; simp only; rw [h1], E.below.grown h2 E.below.size (fun k e => by cases e; omega), (h2.block _ (lt_heap E.r0) (fun e => by simp at e)).trans E.r0⟩
 | 3, _, R =>
   obtain ⟨r1, r2, e0, e1, e2⟩ := R;have er : rawL s0 = (z79 s).map fun x => ⟨di, kindOfW kd, nm, x⟩ := by unfold rawL; rw [e0]; simp only; rw [e1]; simp only; rw [e2]
   by_cases hp : ([10] : zB).isPrefixOf s = true
   · refine (z8d s [10] (w.heap.size + 9) W (z03 E.b9 rfl) heW hp).mono ?_;rintro e w' ⟨rfl, rfl⟩;obtain ⟨q, hq⟩ := z61.1 hp;refine .inl ⟨q, by rw [hq]; rfl, by rw [hq] at hs; simp at hs; omega, di, kd, nm, E, ?_⟩;show rawL s0 = _;rw [er, hq]; rfl
   · obtain ⟨a, b, _, _, c3⟩ := heW.two;refine (zbo s [10] (w.heap.size + 9) W (z03 E.b9 rfl) _ c3 (Bool.eq_false_iff.2 hp)).mono ?_;rintro e w' ⟨rfl, rfl⟩;refine .inr ⟨_, _, rfl, ?_, E.below.trans ((below_new W _).mono E.below.size), ((below_new W _).block _ (lt_heap E.r0)).trans E.r0⟩;rw [er];cases s with
     | nil => rfl
     | cons b s =>
       rw [z79, if_neg]
       · rfl
       · intro h; subst h; exact hp (by simp)
def z4h : Lbl := ⟨[], 0, [], []⟩
def RlPost (s : zB) (w : World) (e : Ending) (w' : World) : Prop :=
 Below w.heap.size w w' ∧ ∃ l, (z28 s = some l ∧ e = .returned (.tuple #[LblV l, .nilIface])) ∨ (z28 s = none ∧ ∃ p, e = .returned (.tuple #[LblV l, .iface 232 (.pointer (some p))]))
theorem zik {s : zB} {l : Lbl} (h : rawL s = some l) : l.id.length ≤ s.length ∧ l.name.length ≤ s.length ∧ l.text.length ≤ s.length := by
 unfold rawL at h;cases h1 : z0e wObject s with
 | none => rw [h1] at h; cases h
 | some p =>
   obtain ⟨i, r1⟩ := p;rw [h1] at h; simp only at h;cases h2 : z0e wKind r1 with
   | none => rw [h2] at h; cases h
   | some p =>
     obtain ⟨k, r2⟩ := p;rw [h2] at h; simp only at h;cases h3 : z0e wName r2 with
     | none => rw [h3] at h; cases h
     | some p =>
       obtain ⟨n, r3⟩ := p;rw [h3] at h; simp only at h;obtain ⟨x, h4, rfl⟩ := Option.map_eq_some_iff.1 h;have e1 := (z0y h1).1;have e2 := (z0y h2).1;have e3 := (z0y h3).1;have e4 := z7a h4;simp only;rw [e1, e2, e3, e4];simp;omega
theorem zbv (s : zB) (hs : s.length ≤ 100000) (w : World) (he : Er w) : Calls Tryz.prog 170 #[.string ⟨s.toArray⟩] w (RlPost s w) := by
 have HST := zh (lbl_step w he s);have HS := zh hs; have HE := zh he;clear he hs
 go_enter Tryz.func170, Tryz.ntmps170
 go_wp2_with fail
 refine (z7e _ _ _).mono ?_;rintro e w1 ⟨rfl, rfl⟩
 go_wp2_with fail
 refine (z7e _ _ _).mono ?_;rintro e w1 ⟨rfl, rfl⟩
 go_wp2_with fail
 refine (z7e _ _ _).mono ?_;rintro e w1 ⟨rfl, rfl⟩
 go_wp2_with fail
 refine (zbp _ _).mono ?_;rintro e w1 ⟨rfl, rfl⟩
 go_wp2_with fail
 refine (z6i 4 4 (w.heap.size + 10) (by decide) lblG (lblL w.heap.size) (lblP w s) (lblF w s) ?c1 ?c2 HST.out s _ ?c3).mono ?_
 case c1 =>
  rintro i r W hi ⟨_, di, kd, nm, E, _⟩;refine z03 E.b10 ?_
  match i, hi with
  | 0, _ => rfl
  | 1, _ => rfl
  | 2, _ => rfl
  | 3, _ => rfl
 case c2 =>
  intro i hi
  match i, hi with
  | 0, _ => exact enters_of Tryz.func191 (by kernel_rfl) rfl
  | 1, _ => exact enters_of Tryz.func191 (by kernel_rfl) rfl
  | 2, _ => exact enters_of Tryz.func191 (by kernel_rfl) rfl
  | 3, _ => exact enters_of Tryz.func193 (by kernel_rfl) rfl
 case c3 =>
  refine ⟨HS.out, [], [], [], ⟨?_, ?_, ?_, ?_, ?_, ?_, ?_, ?_, ?_, ?_, ?_, ?_⟩, rfl⟩
  · refine Below.alloc (Below.alloc (Below.alloc (Below.alloc (Below.alloc (Below.alloc (Below.alloc (Below.alloc (Below.alloc (Below.alloc (Below.alloc (Below.refl _ _) ?_ _) ?_ _) ?_ _) ?_ _) ?_ _) ?_ _) ?_ _) ?_ _) ?_ _) ?_ _) ?_ _ <;> first | omega | (simp only [World.size_alloc]; omega)
  all_goals (simp only [z4f, Array.getElem?_push, Array.size_push, Nat.add_assoc, Nat.reduceAdd]; simp [SV, wObject, wKind, wName])
 rintro e W (⟨r, rfl, hr, di, kd, nm, E, R⟩ | ⟨r, p, rfl, hg, hb, h0⟩)
 · have R2 : rawL s = some ⟨di, kindOfW kd, nm, r⟩ := R;obtain ⟨p1, p2, p3⟩ := zik R2;simp only at p1 p2 p3;have hss := HS.out;have hgc : z28 s = if rightL ⟨di, kindOfW kd, nm, r⟩ then some ⟨di, kindOfW kd, nm, r⟩ else none := by unfold z28; rw [R2]
   have HG := zh hgc;have HKi := zh (zi6 kd W);obtain ⟨kv, hkv⟩ := zx (kindOfW kd);rw [← hkv] at HG HKi;obtain ⟨W1, hW1⟩ := zx ((W.setCell ⟨w.heap.size + 1, 1, none⟩ (.int .i64 kv)).setCell ⟨w.heap.size + 1, 3, none⟩ (.string ⟨r.toArray⟩))
   have hc1 : W1.heap[w.heap.size + 1]? = some (.cells #[SV di, .int .i64 kv, SV nm, SV r] 100 (0, 0)) := by
    rw [hW1]; simp [World.setCell, Array.getElem?_modify, E.l, SV]
   have hr1 : W1.heap[w.heap.size]? = some (.cells #[.string ⟨#[]⟩, .int .i64 0, .string ⟨#[]⟩, .string ⟨#[]⟩] 100 (0, 0)) := by
    rw [hW1]; exact (Below.heap_setCell _ _ _ _ (fun e => by simp at e)).trans ((Below.heap_setCell _ _ _ _ (fun e => by simp at e)).trans E.r0)
   have hb1 : Below w.heap.size w W1 := by rw [hW1]; exact (E.below.setCell (Nat.le_add_right _ 1) _).setCell (Nat.le_add_right _ 1) _
   have xk : W.cell? ⟨w.heap.size + 2, 0, none⟩ = some (.string ⟨kd.toArray⟩) := z03 E.k rfl;have x1 : W.cell? ⟨w.heap.size + 1, 1, none⟩ = some (.int .i64 0) := z03 E.l rfl;have x3 : W.cell? ⟨w.heap.size + 1, 3, none⟩ = some (.string ⟨#[]⟩) := z03 E.l rfl;have z1 : W.frozen? ⟨w.heap.size + 1, 1, none⟩ = false := z04 E.l;have z3 : W.frozen? ⟨w.heap.size + 1, 3, none⟩ = false := z04 E.l;have HW1 := zh hW1;have HC1 := zh hc1; have HR1 := zh hr1; have HB1 := zh hb1;have hck := fun W' (hW' : Below W1.heap.size W1 W') => za8 ⟨di, kv, nm, r⟩ W' ⟨by simp only; omega, by simp only; omega, by simp only; omega⟩ ((HE.out.below hb1).below hW');unfold LblV at hck;simp only at hck;have HCK := zh hck;clear E R R2 hgc hW1 hc1 hr1 hb1 hck hr p1 p2 p3 hss hkv;have q0 : W1.cell? ⟨w.heap.size + 1, 0, none⟩ = some (.string ⟨di.toArray⟩) := z03 HC1.out rfl;have q1 : W1.cell? ⟨w.heap.size + 1, 1, none⟩ = some (.int .i64 kv) := z03 HC1.out rfl;have q2 : W1.cell? ⟨w.heap.size + 1, 2, none⟩ = some (.string ⟨nm.toArray⟩) := z03 HC1.out rfl;have q3 : W1.cell? ⟨w.heap.size + 1, 3, none⟩ = some (.string ⟨r.toArray⟩) := z03 HC1.out rfl;have hS0 := And.intro q0 (And.intro q1 (And.intro q2 q3))
   have hk : ∀ W', Below W1.heap.size W1 W' → (W'.cell? ⟨w.heap.size + 1, 0, none⟩ = some (.string ⟨di.toArray⟩) ∧ W'.cell? ⟨w.heap.size + 1, 1, none⟩ = some (.int .i64 kv) ∧ W'.cell? ⟨w.heap.size + 1, 2, none⟩ = some (.string ⟨nm.toArray⟩) ∧ W'.cell? ⟨w.heap.size + 1, 3, none⟩ = some (.string ⟨r.toArray⟩)) ∧
    (W'.cell? ⟨w.heap.size, 0, none⟩ = some (.string ⟨#[]⟩) ∧ W'.cell? ⟨w.heap.size, 1, none⟩ = some (.int .i64 0) ∧ W'.cell? ⟨w.heap.size, 2, none⟩ = some (.string ⟨#[]⟩) ∧ W'.cell? ⟨w.heap.size, 3, none⟩ = some (.string ⟨#[]⟩)) ∧
    (W'.frozen? ⟨w.heap.size, 0, none⟩ = false ∧ W'.frozen? ⟨w.heap.size, 1, none⟩ = false ∧ W'.frozen? ⟨w.heap.size, 2, none⟩ = false ∧ W'.frozen? ⟨w.heap.size, 3, none⟩ = false) := fun W' hW' => by
    have hc := (hW'.block _ (lt_heap HC1.out)).trans HC1.out;have hr := (hW'.block _ (lt_heap HR1.out)).trans HR1.out;exact ⟨⟨z03 hc rfl, z03 hc rfl, z03 hc rfl, z03 hc rfl⟩, ⟨z03 hr rfl, z03 hr rfl, z03 hr rfl, z03 hr rfl⟩, ⟨z04 hr, z04 hr, z04 hr, z04 hr⟩⟩
   have HK := zh hk;clear hk;unfold SV at HKi ⊢
   go_wp2_with fail
   refine HKi.out.mono ?_;rintro e w1 ⟨rfl, rfl⟩
   go_wp2_with fail
   rw [← HW1.out]
   go_wp2_with fail
   go_region_held3 (fun W' => W'.cell? ⟨w.heap.size + 1, 0, none⟩ = some (.string ⟨di.toArray⟩) ∧ W'.cell? ⟨w.heap.size + 1, 1, none⟩ = some (.int .i64 kv) ∧ W'.cell? ⟨w.heap.size + 1, 2, none⟩ = some (.string ⟨nm.toArray⟩) ∧ W'.cell? ⟨w.heap.size + 1, 3, none⟩ = some (.string ⟨r.toArray⟩))
    (first | exact hS0 | assumption | go_keep)
    (first
      | (go_at_call 184; refine (HCK.out W1.drew (Below.refl _ _).drew).mono ?_; intro e w5 h5; have H5 := zh h5; obtain ⟨ev, rfl⟩ := h5.ret; obtain ⟨hS5, ⟨y0, y1, y2, y3⟩, ⟨z0, z1, z2, z3⟩⟩ := HK.out w5 (bdr h5.2); clear h5)
      | show False)
   obtain ⟨f0, f1, f2, f3⟩ := cells4 w5 w.heap.size (.string ⟨di.toArray⟩) (.int .i64 kv) (.string ⟨nm.toArray⟩) (.string ⟨r.toArray⟩) y0 y1 y2 y3
   go_wp2_with fail
   refine bodyPost_ret (v := .tuple #[LblV ⟨di, kv, nm, r⟩, ev]) (by simp [results, Tryz.results170, go_sem, f0, f1, f2, f3, LblV]) rfl ?_;have hb5 := bdr H5.out.2;have hbw := HB1.out.trans (hb5.mono HB1.out.size);refine ⟨z0i hbw zl _ _ _ _, ⟨di, kv, nm, r⟩, ?_⟩;rcases H5.out.1 with ⟨h1, h2⟩ | ⟨h1, p, h2⟩
   · cases h2; exact .inl ⟨by rw [HG.out, h1]; rfl, rfl⟩
   · cases h2; exact .inr ⟨by rw [HG.out, h1]; rfl, p, rfl⟩
 · obtain ⟨pb, po, psx⟩ := p;have hgc : z28 s = none := by unfold z28; rw [hg]
   have HG := zh hgc;have HB := zh hb;have y0 : W.cell? ⟨w.heap.size, 0, none⟩ = some (.string ⟨#[]⟩) := z03 h0 rfl;have y1 : W.cell? ⟨w.heap.size, 1, none⟩ = some (.int .i64 0) := z03 h0 rfl;have y2 : W.cell? ⟨w.heap.size, 2, none⟩ = some (.string ⟨#[]⟩) := z03 h0 rfl;have y3 : W.cell? ⟨w.heap.size, 3, none⟩ = some (.string ⟨#[]⟩) := z03 h0 rfl;have z0 : W.frozen? ⟨w.heap.size, 0, none⟩ = false := z04 h0;have z1 : W.frozen? ⟨w.heap.size, 1, none⟩ = false := z04 h0;have z2 : W.frozen? ⟨w.heap.size, 2, none⟩ = false := z04 h0;have z3 : W.frozen? ⟨w.heap.size, 3, none⟩ = false := z04 h0;obtain ⟨f0, f1, f2, f3⟩ := cells4 W w.heap.size (.string ⟨#[]⟩) (.int .i64 0) (.string ⟨#[]⟩) (.string ⟨#[]⟩) y0 y1 y2 y3;clear hg hgc hb h0
   go_wp2_with fail
   refine bodyPost_ret (v := .tuple #[LblV z4h, .iface 232 (.pointer (some ⟨pb, po, psx⟩))]) (by simp [results, Tryz.results170, go_sem, f0, f1, f2, f3, LblV, z4h]) rfl ?_;exact ⟨z0i HB.out zl _ _ _ _, z4h, .inr ⟨HG.out, _, rfl⟩⟩
def GlPost (o : Option Lbl) (w : World) (e : Ending) (w' : World) : Prop :=
 Below w.heap.size w w' ∧ e = .returned (.tuple #[LblV (o.getD z4h), .bool o.isSome])
theorem zaa (s : zB) (hs : s.length ≤ 100000) (w : World) (he : Er w) :
 Calls Tryz.prog 157 #[.string ⟨s.toArray⟩] w (WtPost ((z28 s).map zcm) w) := by
 have HT := zh (zbv s hs w he);clear he hs
 go_enter Tryz.func157, Tryz.ntmps157
 go_wp2_with fail
 refine HT.out.mono ?_;rintro e w1 ⟨l1, l, h⟩
 have hfin : ∃ ev, e = .returned (.tuple #[LblV l, ev]) ∧ ∀ A n c w2, zcn w2 (.slice A n c) (zcm l) → Fr w.heap.size (.slice A n c) → Below w.heap.size w w2 → WtPost ((z28 s).map zcm) w (.returned (.tuple #[.slice A n c, ev])) w2 := by
  rcases h with ⟨h1, rfl⟩ | ⟨h1, p, rfl⟩
  · exact ⟨_, rfl, fun A n c w2 h2 hf h3 => ⟨.inl ⟨_, _, by rw [h1]; rfl, rfl, h2, by simp [zcm], hf⟩, h3⟩⟩
  · exact ⟨_, rfl, fun A n c w2 h2 _ h3 => ⟨.inr ⟨by rw [h1]; rfl, A, n, c, p, rfl⟩, h3⟩⟩
 obtain ⟨ev, rfl, hout⟩ := hfin;obtain ⟨di, kv, nm, tx⟩ := l;have hst := zlj (w1.alloc (.cells #[.string ⟨di.toArray⟩, .int .i64 kv, .string ⟨nm.toArray⟩, .string ⟨tx.toArray⟩] 100)) (di, kv) w1.heap.size (by simp);have hbs := ((below_new w1 (.cells #[.string ⟨di.toArray⟩, .int .i64 kv, .string ⟨nm.toArray⟩, .string ⟨tx.toArray⟩] 100))).alloc (by simp) (.cells #[SV di, .int .i64 kv] 266);have hf := hout _ _ _ _ (hst.rd z6g) (hst.fr l1.size) (l1.trans (hbs.mono l1.size));have hz : (w1.alloc (.cells #[.string ⟨di.toArray⟩, .int .i64 kv, .string ⟨nm.toArray⟩, .string ⟨tx.toArray⟩] 100)).heap.size = w1.heap.size + 1 := by simp
 rw [hz] at hf;have HF := zh hf;unfold LblV;simp only;clear h l1 hout hst hbs hz hf
 go_wp2_with fail
 go_ret2
 exact HF.out
def z7h (k : Int) (d : zB) : Option (List (zB × Int)) :=
 if k = 2 then (getT d).map fun l => l.map z7b else if k = 3 then (getC d).map zbk else (z28 d).map zcm
def ObjV (k : Int) (d : zB) : Value := .agg #[.int .i64 k, .string ⟨d.toArray⟩]
theorem z4i (k : Int) (d : zB) (hs : d.length ≤ 100000) (w : World) (he : Eb w) (ht : Tb w) :
 Calls Tryz.prog 139 #[ObjV k d] w (WtPost (z7h k d) w) := by
 have B0 := below_new w (.cells #[.int .i64 k, .string ⟨d.toArray⟩] 37)
 have hw : ∀ o e w', WtPost o (w.alloc (.cells #[.int .i64 k, .string ⟨d.toArray⟩] 37)) e w' → (∃ a b, e = .returned (.tuple #[a, b])) ∧ WtPost o w e w' := by
  rintro o e w' ⟨h1, h2⟩;refine ⟨?_, ?_, B0.trans (h2.mono B0.size)⟩
  · rcases h1 with ⟨v, l, _, rfl, _⟩ | ⟨_, A, n, c, p, rfl⟩ <;> exact ⟨_, _, rfl⟩
  · rcases h1 with ⟨v, l, a1, a2, a3, a4, a5⟩ | h1
    · exact .inl ⟨v, l, a1, a2, a3, a4, a5.mono B0.size⟩
    · exact .inr h1
 have HW := zh hw;have H2 := zh (zbu d (by omega) _ (he.below B0).er (ht.below B0));have H3 := zh (z91 d hs _ (he.below B0));have H4 := zh (zaa d hs _ (he.below B0).er);unfold ObjV;clear he ht hs B0 hw;by_cases h2 : k = 2
 · subst h2;have HQ : Hid (z7h 2 d = (getT d).map fun l => l.map z7b) := zh rfl
   go_enter Tryz.func139, Tryz.ntmps139
   go_wp2_with fail
   refine H2.out.mono ?_;intro e w1 h;obtain ⟨⟨a, b, rfl⟩, h1⟩ := HW.out _ _ _ h;have H1 := zh h1;clear h h1
   go_wp2_with fail
   go_ret2
   rw [HQ.out]; exact H1.out
 by_cases h3 : k = 3
 · subst h3;have HQ : Hid (z7h 3 d = (getC d).map zbk) := zh rfl;clear h2
   go_enter Tryz.func139, Tryz.ntmps139
   go_wp2_with fail
   refine H3.out.mono ?_;intro e w1 h;obtain ⟨⟨a, b, rfl⟩, h1⟩ := HW.out _ _ _ h;have H1 := zh h1;clear h h1
   go_wp2_with fail
   go_ret2
   rw [HQ.out]; exact H1.out
 · have HQ : Hid (z7h k d = (z28 d).map zcm) := zh (by unfold z7h; rw [if_neg h2, if_neg h3])
   go_enter Tryz.func139, Tryz.ntmps139
   go_wp2_with fail
   refine H4.out.mono ?_;intro e w1 h;obtain ⟨⟨a, b, rfl⟩, h1⟩ := HW.out _ _ _ h;have H1 := zh h1;clear h h1
   go_wp2_with fail
   go_ret2
   rw [HQ.out]; exact H1.out
end Go.Proofs.YtgjddkeogboojaaGreatDoor
