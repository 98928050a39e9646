/-
  RefA
-/
import Derived.Test.YtgjddkeogboojaaGreatDoorY25
import Derived.Test.YtgjddkeogboojaaGreatDoorY21
set_option maxHeartbeats 16000000
set_option maxRecDepth 100000
namespace Go.Proofs.YtgjddkeogboojaaGreatDoor
open Go Go.RowKit
def z7m (s : zB) : Option (Itm × zB) :=
 match z1u 0 s with
 | none => none
 | some (a, r) => if 2 ≤ a.length ∧ 64 ≤ r.length ∧ a.getD 1 0 = 32 then some (⟨((a.getD 0 0).toNat : Int) - 48, a.drop 2, r.take 64⟩, r.drop 64) else none
theorem zoc {x : Itm} (h : z39 x = true) (r : zB) : z7m (putI x ++ r) = some (x, r) := by
 obtain ⟨h1, h2, h3, h4⟩ := z2g h;have hl := z17 h4;have hm : (UInt8.ofNat (48 + x.mode.toNat)).toNat = 48 + x.mode.toNat := by rw [UInt8.toNat_ofNat']; omega
 have hno : (0 : UInt8) ∉ UInt8.ofNat (48 + x.mode.toNat) :: 32 :: x.name := by
  simp only [List.mem_cons, not_or];refine ⟨fun e => ?_, by decide, zev h3 (by decide)⟩;rw [← e] at hm;have : (0 : UInt8).toNat = 0 := rfl;omega
 have e : putI x ++ r = (UInt8.ofNat (48 + x.mode.toNat) :: 32 :: x.name) ++ 0 :: (x.id ++ r) := by unfold putI; simp
 unfold z7m;rw [e, z5g hno];show (if 2 ≤ (UInt8.ofNat (48 + x.mode.toNat) :: 32 :: x.name).length ∧ 64 ≤ (x.id ++ r).length ∧ (32 : UInt8) = 32 then _ else _) = _;rw [if_pos ⟨by simp, by rw [List.length_append]; omega, rfl⟩];show some (Itm.mk (((UInt8.ofNat (48 + x.mode.toNat)).toNat : Int) - 48) x.name ((x.id ++ r).take 64), (x.id ++ r).drop 64) = _;rw [hm, ← hl, List.take_left, List.drop_left];have e2 : ((48 + x.mode.toNat : Nat) : Int) - 48 = x.mode := by omega
 rw [e2]
def InvG (all : zB) (out : List Itm) (s : zB) : Prop := ∀ l, z0k l = true → putT l = all → ∃ l', l = out ++ l' ∧ putT l' = s
theorem InvG.start (all : zB) : InvG all [] all := fun l _ h => ⟨l, rfl, h⟩
theorem InvG.one {all s : zB} {out l : List Itm} (h : InvG all out s) (hs : s ≠ []) (hr : z0k l = true) (hp : putT l = all) : ∃ y l', l = (out ++ [y]) ++ l' ∧ z7m s = some (y, putT l') := by
 obtain ⟨l', e1, e2⟩ := h l hr hp
 match l', e1, e2 with
 | [], _, e2 => exact absurd e2.symm (by simpa [putT] using hs)
 | y :: l', e1, e2 =>
   refine ⟨y, l', by rw [e1]; simp, ?_⟩;rw [← e2];exact zoc (z2p hr y (by rw [e1]; simp)) _
theorem InvG.step {all s r : zB} {out : List Itm} {x : Itm} (h : InvG all out s) (hs : s ≠ []) (hx : z7m s = some (x, r)) : InvG all (out ++ [x]) r := fun l hr hp => by
 obtain ⟨y, l', e1, e2⟩ := h.one hs hr hp;rw [hx] at e2;simp only [Option.some.injEq, Prod.mk.injEq] at e2;obtain ⟨rfl, rfl⟩ := e2;exact ⟨l', e1, rfl⟩
theorem InvG.no {all s : zB} {out : List Itm} (h : InvG all out s) (hs : s ≠ []) (hx : z7m s = none) : getT all = none := by
 cases hg : getT all with
 | none => rfl
 | some l =>
   obtain ⟨hr, hp⟩ := zbj.1 hg;obtain ⟨y, l', _, e2⟩ := h.one hs hr hp;rw [hx] at e2; cases e2
theorem InvG.stop {all : zB} {out : List Itm} (h : InvG all out []) (hn : ¬ (z0k out = true ∧ putT out = all)) : getT all = none := by
 cases hg : getT all with
 | none => rfl
 | some l =>
   obtain ⟨hr, hp⟩ := zbj.1 hg;obtain ⟨l', e1, e2⟩ := h l hr hp
   have : l' = [] := by
    cases l' with
    | nil => rfl
    | cons y l' => simp [putT, putI] at e2
   rw [this, List.append_nil] at e1;rw [e1] at hr hp;exact absurd ⟨hr, hp⟩ hn
def InvC (all : zB) (t : zB) (ps : List (zB)) (s : zB) : Prop :=
 ∀ c, z18 c = true → putC c = all → c.tree = t ∧ ∃ qs, c.parents = ps ++ qs ∧ s = parL qs ++ (wWho ++ (c.who ++ 10 :: (10 :: c.text)))
theorem zhq {q : zB} {qs : List (zB)} {r : zB} (hq : z0c q = true) : z0e wParent (parL (q :: qs) ++ r) = some (q, parL qs ++ r) := by
 have e : parL (q :: qs) ++ r = wParent ++ (q ++ 10 :: (parL qs ++ r)) := by simp [parL, List.append_assoc]
 rw [e, z38 (z4z hq (by decide))]
theorem zjf (r : zB) : z0e wParent (wWho ++ r) = none := rfl
theorem InvC.no {all : zB} (h : z0e wTree all = none) : getC all = none := by
 unfold getC rawC; rw [h]
theorem InvC.start {all t r : zB} (h : z0e wTree all = some (t, r)) : InvC all t [] r := fun c hr hp => by
 obtain ⟨h1, _⟩ := z1k.1 hr;have e : z0e wTree (putC c) = some (c.tree, _) := z38 (z4z h1 (by decide));rw [hp, h] at e;simp only [Option.some.injEq, Prod.mk.injEq] at e;exact ⟨e.1.symm, c.parents, rfl, e.2⟩
theorem InvC.step {all t p s r : zB} {ps : List (zB)} (h : InvC all t ps s) (hp : z0e wParent s = some (p, r)) : InvC all t (ps ++ [p]) r := fun c hr hc => by
 obtain ⟨e1, qs, e2, e3⟩ := h c hr hc
 match qs, e2, e3 with
 | [], e2, e3 =>
   rw [e3] at hp;have : z0e wParent (wWho ++ (c.who ++ 10 :: (10 :: c.text))) = some (p, r) := hp;rw [zjf] at this; cases this
 | q :: qs, e2, e3 =>
   have hq : z0c q = true := (z1k.1 hr).2.2.1 q (by rw [e2]; simp);rw [e3, zhq hq] at hp;simp only [Option.some.injEq, Prod.mk.injEq] at hp;obtain ⟨rfl, rfl⟩ := hp;exact ⟨e1, qs, by rw [e2]; simp, rfl⟩
theorem InvC.last {all t s : zB} {ps : List (zB)} (h : InvC all t ps s) (hn : z0e wParent s = none) {c : Chg} (hr : z18 c = true) (hc : putC c = all) : c.tree = t ∧ c.parents = ps ∧ z0e wWho s = some (c.who, 10 :: c.text) := by
 obtain ⟨e1, qs, e2, e3⟩ := h c hr hc
 match qs, e2, e3 with
 | q :: qs, e2, e3 =>
   have hq : z0c q = true := (z1k.1 hr).2.2.1 q (by rw [e2]; simp);rw [e3, zhq hq] at hn; cases hn
 | [], e2, e3 =>
   refine ⟨e1, by rw [e2, List.append_nil], ?_⟩;rw [e3];exact z38 (who_no (z1k.1 hr).2.2.2.2 (by decide))
theorem InvC.no_who {all t s : zB} {ps : List (zB)} (h : InvC all t ps s) (hn : z0e wParent s = none) (hw : z0e wWho s = none) : getC all = none := by
 cases hg : getC all with
 | none => rfl
 | some c =>
   obtain ⟨hr, hc⟩ := z8b.1 hg;have := (h.last hn hr hc).2.2;rw [hw] at this; cases this
theorem InvC.no_end {all t s w r : zB} {ps : List (zB)} (h : InvC all t ps s) (hn : z0e wParent s = none) (hw : z0e wWho s = some (w, r)) (hr : z79 r = none) : getC all = none := by
 cases hg : getC all with
 | none => rfl
 | some c =>
   obtain ⟨h1, hc⟩ := z8b.1 hg;have := (h.last hn h1 hc).2.2;rw [hw] at this;simp only [Option.some.injEq, Prod.mk.injEq] at this;rw [this.2] at hr; cases hr
theorem InvC.stop {all t s w x : zB} {ps : List (zB)} (h : InvC all t ps s) (hn : z0e wParent s = none) (hw : z0e wWho s = some (w, 10 :: x)) (hno : ¬ (z18 ⟨t, ps, w, x⟩ = true ∧ putC ⟨t, ps, w, x⟩ = all)) : getC all = none := by
 cases hg : getC all with
 | none => rfl
 | some c =>
   obtain ⟨h1, hc⟩ := z8b.1 hg;obtain ⟨e1, e2, e3⟩ := h.last hn h1 hc;rw [hw] at e3;simp only [Option.some.injEq, Prod.mk.injEq, List.cons.injEq, true_and] at e3;obtain ⟨t', ps', w', x'⟩ := c;simp only at e1 e2 e3;obtain ⟨rfl, rfl⟩ := e3;subst e1 e2;exact absurd ⟨h1, hc⟩ hno
theorem z2k {pre s a r : zB} (h : z0e pre s = some (a, r)) : a.length + r.length + pre.length + 1 = s.length := by
 have := congrArg List.length (z0y h).1;simp only [List.length_append, List.length_cons] at this;omega
theorem z9u {pre : zB} (h : pre ≠ []) : z0e pre [] = none := by
 cases pre with
 | nil => exact absurd rfl h
 | cons c p => rfl
theorem zfw {pre s : zB} (h : s.length < pre.length) : z0e pre s = none := by
 cases hl : z0e pre s with
 | none => rfl
 | some p =>
   obtain ⟨a, r⟩ := p;have := z2k hl;omega
theorem labelP {all i k n x r1 r2 : zB} (h1 : z0e wObject all = some (i, r1)) (h2 : z0e wKind r1 = some (k, r2)) (h3 : z0e wName r2 = some (n, 10 :: x)) (hno : ¬ (rightL ⟨i, kindOfW k, n, x⟩ = true ∧ z6e ⟨i, kindOfW k, n, x⟩ = all)) : z28 all = none := by
 cases hg : z28 all with
 | none => rfl
 | some l =>
   have h := zcl.1 hg;have e := zge h.1;rw [h.2] at e;unfold rawL at e;rw [h1] at e; simp only at e;rw [h2] at e; simp only at e;rw [h3] at e;have e2 : some (Lbl.mk i (kindOfW k) n x) = some l := e;cases e2;exact absurd h hno
theorem z6w {all : zB} (h : rawL all = none) : z28 all = none := by unfold z28; rw [h]
end Go.Proofs.YtgjddkeogboojaaGreatDoor
namespace Go.Proofs.YtgjddkeogboojaaGreatDoor
open Go Go.RowKit Go.Shelf
theorem zee (k : Int) (w : World) : Calls Tryz.prog 59 #[.int .i64 k] w fun e w' => e = .returned (SV (kindW k)) ∧ w = w' := by
 unfold SV;by_cases h1 : k = 1
 · subst h1
   go_enter Tryz.func59, Tryz.ntmps59
   go_wp2
   go_ret
   exact ⟨rfl, rfl⟩
 by_cases h2 : k = 2
 · subst h2
   go_enter Tryz.func59, Tryz.ntmps59
   go_wp2
   go_ret
   exact ⟨rfl, rfl⟩
 by_cases h3 : k = 3
 · subst h3
   go_enter Tryz.func59, Tryz.ntmps59
   go_wp2
   go_ret
   exact ⟨rfl, rfl⟩
 by_cases h4 : k = 4
 · subst h4
   go_enter Tryz.func59, Tryz.ntmps59
   go_wp2
   go_ret
   exact ⟨rfl, rfl⟩
 have H : Hid (kindW k = []) := zh (by unfold kindW; rw [if_neg h1, if_neg h2, if_neg h3, if_neg h4]);rw [H.out];clear H;have b1 : (k == 1) = false := by simpa using h1
 have b2 : (k == 2) = false := by simpa using h2
 have b3 : (k == 3) = false := by simpa using h3
 have b4 : (k == 4) = false := by simpa using h4
 clear h1 h2 h3 h4
 go_enter Tryz.func59, Tryz.ntmps59
 go_wp2
 go_ret
 exact ⟨rfl, rfl⟩
theorem zhr (x : Itm) (hx : x.name.length ≤ 1000000) (w : World) : Calls Tryz.prog 108 #[.agg #[.int .i64 x.mode, SV x.name, SV x.id]] w fun e w' => e = .returned (SV (keyL x)) ∧ Below w.heap.size w w' := by
 obtain ⟨m, n, i⟩ := x;simp only at hx ⊢;have happ : (⟨n.toArray⟩ : ByteArray) ++ (⟨#[47]⟩ : ByteArray) = ⟨(n ++ [47]).toArray⟩ := append_S n [47];unfold SV keyL;simp only;by_cases h : m = 3
 · subst h;rw [if_pos rfl]
   go_enter Tryz.func108, Tryz.ntmps108
   go_wp2
   go_ret
   exact ⟨rfl, below_new w _⟩
 · rw [if_neg h];have b : (m == 3) = false := by simpa using h
   clear h happ
   go_enter Tryz.func108, Tryz.ntmps108
   go_wp2
   go_ret
   exact ⟨rfl, below_new w _⟩
theorem zhs {p : UInt8 → Bool} (s : zB) (k : Nat) (hk : k < s.length) (h : (s.take k).all p = true) : (s.take (k + 1)).all p = p s[k] := by
 rw [List.take_succ_eq_append_getElem hk, List.all_append, h]; simp
theorem zht {p : UInt8 → Bool} (s : zB) (k : Nat) (hk : k < s.length) (h : p s[k] = false) : s.all p = false := by
 rw [List.all_eq_false]; exact ⟨s[k], List.getElem_mem hk, by rw [h]; simp⟩
theorem zef (s : zB) (hs : s.length ≤ 1000000) (w : World) : Calls Tryz.prog 107 #[SV s] w fun e w' => e = .returned (.bool (z2a s)) ∧ w = w' := by
 unfold SV
 go_enter Tryz.func107, Tryz.ntmps107
 go_wp2
 go_loop [3] (fun i => ∃ k : Nat, k ≤ s.length ∧ i = .int .i64 k ∧ Hid ((s.take k).all z4s = true)) (fun i => s.length - (intOf i).toNat)
 case atStart => exact ⟨0, Nat.zero_le _, rfl, zh rfl⟩
 case round =>
  obtain ⟨k, hk, rfl, hall⟩ := hrel;by_cases hlt : k < s.length
  · obtain ⟨c, hc⟩ := zx (s[k]);have gc : ∀ h, ((⟨s.toArray⟩ : ByteArray)[k]'h) = c := fun h => hc.symm;have Hsn : Hid ((s.take (k + 1)).all z4s = z4s c) := zh (by rw [hc]; exact zhs s k hlt hall.out);have Hno : Hid (z4s c = false → z2a s = false) := zh (fun h => by unfold z2a; rw [zht s k hlt (by rw [← hc]; exact h)]; rfl);clear hc hall;by_cases k1 : (c.toNat : Int) < 33
    · have hd : Hid (z4s c = false) := zh (by rw [z50, Bool.eq_false_iff]; simp; omega)
      go_wp2
      go_ret
      exact ⟨ret_bool (Hno.out hd.out).symm, rfl⟩
    by_cases k2 : 126 < (c.toNat : Int)
    · have hd : Hid (z4s c = false) := zh (by rw [z50, Bool.eq_false_iff]; simp; omega)
      go_wp2
      go_ret
      exact ⟨ret_bool (Hno.out hd.out).symm, rfl⟩
    by_cases k3 : (c.toNat : Int) = 47
    · have hd : Hid (z4s c = false) := zh (by rw [z50, Bool.eq_false_iff]; simp; omega);have k4 : c.toNat = 47 := by omega
      go_wp2
      go_ret
      exact ⟨ret_bool (Hno.out hd.out).symm, rfl⟩
    · have hd : Hid (z4s c = true) := zh (by rw [z50, Bool.eq_iff_iff]; simp; omega);have k4 : ((c.toNat : Int) == 47) = false := by simpa using k3
      have k5 : ¬ c.toNat = 47 := by omega
      go_wp2
      go_round
      case rel => exact ⟨k + 1, by omega, by go_num, zh (Hsn.out.trans hd.out)⟩
      case measure => simp [intOf]; omega
  · have hA : s.all z4s = true := by have h := hall.out; rwa [List.take_of_length_le (by omega)] at h
    have HB : Hid (z2a s = (decide (1 ≤ s.length) && decide (s.length ≤ 70) && !(s == [46]) && !(s == [46, 46]))) := zh (by unfold z2a; rw [hA, Bool.true_and]);clear hA hall;by_cases a1 : s.length < 1
    · have H2 : Hid (z2a s = false) := zh (by rw [HB.out, decide_eq_false (show ¬ 1 ≤ s.length by omega)]; rfl)
      go_wp2
      go_ret
      exact ⟨ret_bool H2.out.symm, rfl⟩
    by_cases a2 : 70 < s.length
    · have H2 : Hid (z2a s = false) := zh (by rw [HB.out, decide_eq_false (show ¬ s.length ≤ 70 by omega)]; simp)
      go_wp2
      go_ret
      exact ⟨ret_bool H2.out.symm, rfl⟩
    by_cases a3 : s = [46]
    · have H2 : Hid (z2a s = false) := zh (by rw [a3]; rfl);have b3 : (s == [46]) = true := by simpa using a3
      have b4 : (s != [46]) = false := by simpa using a3
      clear a3
      go_wp2
      go_ret
      exact ⟨ret_bool H2.out.symm, rfl⟩
    have b3 : (s == [46]) = false := by simpa using a3
    have b4 : (s != [46]) = true := by simpa using a3
    clear a3;by_cases a4 : s = [46, 46]
    · have H2 : Hid (z2a s = false) := zh (by rw [a4]; rfl);have b5 : (s == [46, 46]) = true := by simpa using a4
      have b6 : (s != [46, 46]) = false := by simpa using a4
      have b7 : (s == [46]) = false := b3;clear a4
      go_wp2
      go_ret
      exact ⟨ret_bool H2.out.symm, rfl⟩
    have b5 : (s == [46, 46]) = false := by simpa using a4
    have b6 : (s != [46, 46]) = true := by simpa using a4
    have H2 : Hid (z2a s = true) := zh (by rw [HB.out, b3, b5, decide_eq_true (show 1 ≤ s.length by omega), decide_eq_true (show s.length ≤ 70 by omega)]; rfl);clear a4
    go_wp2
    go_ret
    exact ⟨ret_bool H2.out.symm, rfl⟩
theorem dup_no {l : List Itm} {j k : Nat} (hj : j < k) (hk : k < l.length) (h : (l.getD j z1c).name = (l.getD k z1c).name) : z0k l = false := by
 cases hr : z0k l
 · rfl
 · exfalso;have h4 := (z0w.1 hr).2.2;rw [List.Nodup, List.pairwise_iff_getElem] at h4;have h5 := h4 j k (by rw [List.length_map]; omega) (by rw [List.length_map]; omega) hj;rw [List.getElem_map, List.getElem_map] at h5;rw [z42 _ _ _ (show j < l.length by omega), z42 _ _ _ hk] at h;exact h5 h
theorem zbc {l : List Itm} {k : Nat} (hk : k < l.length) (h : ((l.take k).map Itm.name).Nodup) (hn : ∀ i, i < k → (l.getD i z1c).name ≠ (l.getD k z1c).name) : ((l.take (k + 1)).map Itm.name).Nodup := by
 rw [names_snoc l k hk, List.nodup_append];refine ⟨h, List.nodup_cons.2 ⟨by simp, List.nodup_nil⟩, fun a ha b hb => ?_⟩;rw [List.mem_singleton.1 hb];obtain ⟨x, hx, rfl⟩ := List.mem_map.1 ha;obtain ⟨i, hi, rfl⟩ := List.mem_iff_getElem.1 hx;rw [List.length_take] at hi;have := hn i (by omega);rw [z42 _ _ _ (show i < l.length by omega)] at this;rw [List.getElem_take]; exact this
theorem zeg {l : List Itm} {k : Nat} (h : ∀ i, i < k → z4y l i = true) (hk : z4y l k = true) : ∀ i, i < k + 1 → z4y l i = true := fun i hi => by
 rcases Nat.lt_or_ge i k with h2 | h2
 · exact h i h2
 · rw [show i = k by omega]; exact hk
theorem zjg {l : List Itm} (h : ∀ i, i < l.length → z4y l i = true) (hn : ((l.take l.length).map Itm.name).Nodup) : z0k l = decide (l.length ≤ 256) := by
 rw [List.take_length] at hn;rw [Bool.eq_iff_iff, z0w, decide_eq_true_iff];exact ⟨fun h => h.1, fun h2 => ⟨h2, h, hn⟩⟩
theorem z9v (W : World) (b o : Nat) : (Instr.fieldAt 126 (.pointer (some ⟨b, o, none⟩)) 0).run Tryz.prog W = .ok (.pointer (some ⟨b, o, none⟩)) W := by
 simp [go_sem]
theorem zhu (W : World) (b o : Nat) : (Instr.fieldAt 126 (.pointer (some ⟨b, o, none⟩)) 1).run Tryz.prog W = .ok (.pointer (some ⟨b, o + 1, none⟩)) W := by
 simp [go_sem]
theorem zod (W : World) (b o : Nat) : (Instr.fieldAt 126 (.pointer (some ⟨b, o, none⟩)) 2).run Tryz.prog W = .ok (.pointer (some ⟨b, o + 2, none⟩)) W := by
 simp [go_sem]
theorem zfx (W : World) (b o : Nat) (s : ByteArray) (h : W.cell? ⟨b, o, none⟩ = some (.string s)) : (Instr.loadAt 9 (.pointer (some ⟨b, o, none⟩))).run Tryz.prog W = .ok (.string s) W := by
 go_simp
theorem zfy (W : World) (b o : Nat) (n : Int) (h : W.cell? ⟨b, o, none⟩ = some (.int .i64 n)) : (Instr.loadAt 3 (.pointer (some ⟨b, o, none⟩))).run Tryz.prog W = .ok (.int .i64 n) W := by
 go_simp
theorem zfz (W : World) (a b : Int) (r : Bool) (h : decide (a < b) = r) : (binOp .lss 3 (.int .i64 a) (.int .i64 b)).run Tryz.prog W = .ok (.bool r) W := by
 subst h; simp [go_sem]
theorem zc5 (W : World) (a b : Int) (r : Bool) (h : decide (b < a) = r) : (binOp .gtr 3 (.int .i64 a) (.int .i64 b)).run Tryz.prog W = .ok (.bool r) W := by
 subst h; simp [go_sem]
theorem zad (l : List Itm) (v : Value) (w : World) (hr : ItmsR w v l) (hs : Smalls l) (hl : l.length ≤ 1000000) :
 Calls Tryz.prog 88 #[v] w (z06 (.bool (z0k l)) w) := by
 obtain ⟨A, c, rfl⟩ := hr.shape;have HR := zh hr; have HS := zh hs;clear hr hs
 go_enter Tryz.func88, Tryz.ntmps88
 go_wp2_with fail
 go_loopw [3, 4, 5] (fun vi _a _b wr => ∃ k : Nat, k ≤ l.length ∧ vi = .int .i64 k ∧ Hid (Below w.heap.size w wr) ∧ Hid (∀ i, i < k → z4y l i = true) ∧ Hid (((l.take k).map Itm.name).Nodup)) (fun vi _ _ _ => l.length - (intOf vi).toNat)
 case atStart => exact ⟨0, Nat.zero_le _, rfl, zh (Below.refl _ _), zh fun i hi => absurd hi (Nat.not_lt_zero _), zh (by simp)⟩
 case round =>
  obtain ⟨k, hk, rfl, hB, hG, hN⟩ := hrel;obtain ⟨wo, hwo⟩ := zx wr;subst hwo;by_cases hlt : k < l.length
  · obtain ⟨g, o, c', e, _, hg⟩ := HR.out.pos (by omega);cases e;obtain ⟨c0, c1, c2⟩ := ItmsR.cells (HR.out.below hB.out zl) k hlt;obtain ⟨x, hx⟩ := zx (l.getD k z1c);rw [← hx] at c0 c1 c2;have HX := zh hx;have hsm := HS.out.get hlt hx;obtain ⟨m, nm, di⟩ := x;unfold SV at c1 c2;simp only at c0 c1 c2 hsm;have hpt := fun W => zef nm hsm.1 W;have hnd := fun W => z5o di W (by unfold maxLen; omega);have hkx := fun W => zhr ⟨m, nm, di⟩ hsm.1 W;unfold SV at hpt hnd hkx;simp only at hkx;have L0 := zh (hB.out.alloc hB.out.size (.cells #[.int .i64 m, .string ⟨nm.toArray⟩, .string ⟨di.toArray⟩] 126));have HNi : Hid (z39 ⟨m, nm, di⟩ = false → z0k l = false) := zh fun h => z6k hlt (by rw [z5i HX.out rfl, h]; rfl);obtain ⟨b0, b1, b2⟩ : (wo.alloc (.cells #[.int .i64 m, .string ⟨nm.toArray⟩, .string ⟨di.toArray⟩] 126)).cell? ⟨wo.heap.size, 0, none⟩ = some (.int .i64 m) ∧ (wo.alloc (.cells #[.int .i64 m, .string ⟨nm.toArray⟩, .string ⟨di.toArray⟩] 126)).cell? ⟨wo.heap.size, 1, none⟩ = some (.string ⟨nm.toArray⟩) ∧ (wo.alloc (.cells #[.int .i64 m, .string ⟨nm.toArray⟩, .string ⟨di.toArray⟩] 126)).cell? ⟨wo.heap.size, 2, none⟩ = some (.string ⟨di.toArray⟩) := ⟨by simp, by simp, by simp⟩
    have gl1 : g < (wo.alloc (.cells #[.int .i64 m, .string ⟨nm.toArray⟩, .string ⟨di.toArray⟩] 126)).heap.size := by have := L0.out.size; omega
    obtain ⟨w1, hw1⟩ := zx (wo.alloc (.cells #[.int .i64 m, .string ⟨nm.toArray⟩, .string ⟨di.toArray⟩] 126));rw [← hw1] at b0 b1 b2 gl1 L0;have HW1 := zh hw1;clear hx hw1;by_cases m1 : m < 1
    · have HF : Hid (z0k l = false) := zh (HNi.out (by unfold z39; rw [decide_eq_false (show ¬ (1 : Int) ≤ m by omega)]; rfl));clear hpt hnd hkx hsm
      go_wp2_with (rw [← HW1.out])
      go_quiet (fail)
      go_wp2_with fail
      go_ret
      exact ⟨ret_bool HF.out.symm, z12 L0.out _⟩
    have dm1 : decide (m < 1) = false := decide_eq_false m1;by_cases m3 : 3 < m
    · have dm3 : decide (3 < m) = true := decide_eq_true m3;have HF : Hid (z0k l = false) := zh (HNi.out (by unfold z39; rw [decide_eq_false (show ¬ m ≤ 3 by omega)]; simp));clear hpt hnd hkx hsm
      go_wp2_with (rw [← HW1.out])
      go_quiet (fail)
      go_wp2_with fail
      go_ret
      exact ⟨ret_bool HF.out.symm, z12 L0.out _⟩
    have dm3 : decide (3 < m) = false := decide_eq_false m3;cases hp : z2a nm
    · have HF : Hid (z0k l = false) := zh (HNi.out (by unfold z39; rw [hp]; simp));rw [hp] at hpt;have HPt := zh hpt;clear hpt hnd hkx hsm hp
      go_wp2_with (rw [← HW1.out])
      refine AnyB.start (by kernel_rfl) ?_;refine AnyB.tk 0 (.pointer (some ⟨wo.heap.size, 0, none⟩)) rfl (fun W hW => z1i rfl (by kernel_rfl) (z9v W wo.heap.size 0)) ?_;refine AnyB.tk 1 (.int .i64 m) rfl (fun W hW => z0f rfl (by kernel_rfl) (zfy W _ _ _ (cell_to (w := w1.drew) b0 hW))) ?_;refine AnyB.tk 2 (.bool false) rfl (fun W hW => y_bin rfl (by kernel_rfl) (by kernel_rfl) rfl (zfz W _ _ _ dm1)) ?_;refine AnyB.tm 3 (.bool false) rfl ?_;refine AnyB.tk 4 (.pointer (some ⟨wo.heap.size, 0, none⟩)) rfl (fun W hW => z1i rfl (by kernel_rfl) (z9v W wo.heap.size 0)) ?_;refine AnyB.tk 5 (.int .i64 m) rfl (fun W hW => z0f rfl (by kernel_rfl) (zfy W _ _ _ (cell_to (w := w1.drew) b0 hW))) ?_;refine AnyB.tk 6 (.bool false) rfl (fun W hW => y_bin rfl (by kernel_rfl) (by kernel_rfl) rfl (zc5 W _ _ _ dm3)) ?_;refine AnyB.tm 7 (.bool false) rfl ?_;refine AnyB.tm 8 (.bool false) rfl ?_;refine AnyB.tk 9 (.pointer (some ⟨wo.heap.size, 1, none⟩)) rfl (fun W hW => z1i rfl (by kernel_rfl) (zhu W wo.heap.size 0)) ?_;refine AnyB.tk 10 (.string ⟨nm.toArray⟩) rfl (fun W hW => z0f rfl (by kernel_rfl) (zfx W _ _ _ (cell_to (w := w1.drew) b1 hW))) ?_;refine AnyB.call 11 107 #[.string ⟨nm.toArray⟩] (by kernel_rfl) rfl (by kernel_rfl) (by kernel_rfl) ((HPt.out _).mono ?_);intro e w8 hh;rw [hh.1, ← hh.2];clear hh w8;refine ⟨_, rfl, Below.refl _ _, ?_⟩;refine AnyB.tm 12 (.bool true) rfl ?_;refine AnyB.tm 13 (.bool true) rfl ?_;refine AnyB.tm 14 (.bool true) rfl ?_;refine AnyB.sk 15 rfl ?_;refine AnyB.sk 16 rfl ?_;refine AnyB.sk 17 rfl ?_;refine AnyB.sk 18 rfl ?_;refine AnyB.tm 19 (.bool true) rfl ?_;refine AnyB.tm 20 (.bool true) rfl ?_;refine AnyB.sk 21 rfl ?_;refine AnyB.sk 22 rfl ?_;refine AnyB.sk 23 rfl ?_;refine AnyB.sk 24 rfl ?_;refine AnyB.sk 25 rfl ?_;refine AnyB.sk 26 rfl ?_;refine AnyB.sk 27 rfl ?_;refine AnyB.sk 28 rfl ?_;refine AnyB.sk 29 rfl ?_;refine AnyB.sk 30 rfl ?_;refine AnyB.sk 31 rfl ?_;refine AnyB.sk 32 rfl ?_;refine AnyB.sk 33 rfl ?_;refine AnyB.tm 34 (.bool true) rfl ?_;refine AnyB.done _ (by kernel_rfl) ?_;go_simp
      go_wp2_with fail
      go_ret
      exact ⟨ret_bool HF.out.symm, L0.out.drew⟩
    rw [hp] at hpt;have HPt := zh hpt;cases hn : z0c di
    · have HF : Hid (z0k l = false) := zh (HNi.out (by unfold z39; rw [hn]; simp));rw [hn] at hnd;have HNd := zh hnd;clear hpt hnd hkx hsm hp hn
      go_wp2_with (rw [← HW1.out])
      refine AnyB.start (by kernel_rfl) ?_;refine AnyB.tk 0 (.pointer (some ⟨wo.heap.size, 0, none⟩)) rfl (fun W hW => z1i rfl (by kernel_rfl) (z9v W wo.heap.size 0)) ?_;refine AnyB.tk 1 (.int .i64 m) rfl (fun W hW => z0f rfl (by kernel_rfl) (zfy W _ _ _ (cell_to (w := w1.drew) b0 hW))) ?_;refine AnyB.tk 2 (.bool false) rfl (fun W hW => y_bin rfl (by kernel_rfl) (by kernel_rfl) rfl (zfz W _ _ _ dm1)) ?_;refine AnyB.tm 3 (.bool false) rfl ?_;refine AnyB.tk 4 (.pointer (some ⟨wo.heap.size, 0, none⟩)) rfl (fun W hW => z1i rfl (by kernel_rfl) (z9v W wo.heap.size 0)) ?_;refine AnyB.tk 5 (.int .i64 m) rfl (fun W hW => z0f rfl (by kernel_rfl) (zfy W _ _ _ (cell_to (w := w1.drew) b0 hW))) ?_;refine AnyB.tk 6 (.bool false) rfl (fun W hW => y_bin rfl (by kernel_rfl) (by kernel_rfl) rfl (zc5 W _ _ _ dm3)) ?_;refine AnyB.tm 7 (.bool false) rfl ?_;refine AnyB.tm 8 (.bool false) rfl ?_;refine AnyB.tk 9 (.pointer (some ⟨wo.heap.size, 1, none⟩)) rfl (fun W hW => z1i rfl (by kernel_rfl) (zhu W wo.heap.size 0)) ?_;refine AnyB.tk 10 (.string ⟨nm.toArray⟩) rfl (fun W hW => z0f rfl (by kernel_rfl) (zfx W _ _ _ (cell_to (w := w1.drew) b1 hW))) ?_;refine AnyB.call 11 107 #[.string ⟨nm.toArray⟩] (by kernel_rfl) rfl (by kernel_rfl) (by kernel_rfl) ((HPt.out _).mono ?_);intro e w8 hh;rw [hh.1, ← hh.2];clear hh w8;refine ⟨_, rfl, Below.refl _ _, ?_⟩;refine AnyB.tm 12 (.bool false) rfl ?_;refine AnyB.tm 13 (.bool false) rfl ?_;refine AnyB.tm 14 (.bool false) rfl ?_;refine AnyB.tk 15 (.pointer (some ⟨wo.heap.size, 2, none⟩)) rfl (fun W hW => z1i rfl (by kernel_rfl) (zod W wo.heap.size 0)) ?_;refine AnyB.tk 16 (.string ⟨di.toArray⟩) rfl (fun W hW => z0f rfl (by kernel_rfl) (zfx W _ _ _ (cell_to (w := w1.drew) b2 hW))) ?_;refine AnyB.call 17 28 #[.string ⟨di.toArray⟩] (by kernel_rfl) rfl (by kernel_rfl) (by kernel_rfl) ((HNd.out _).mono ?_);intro e w8 hh;rw [hh.1, ← hh.2];clear hh w8;refine ⟨_, rfl, Below.refl _ _, ?_⟩;refine AnyB.tm 18 (.bool true) rfl ?_;refine AnyB.tm 19 (.bool true) rfl ?_;refine AnyB.tm 20 (.bool true) rfl ?_;refine AnyB.sk 21 rfl ?_;refine AnyB.sk 22 rfl ?_;refine AnyB.sk 23 rfl ?_;refine AnyB.sk 24 rfl ?_;refine AnyB.sk 25 rfl ?_;refine AnyB.sk 26 rfl ?_;refine AnyB.sk 27 rfl ?_;refine AnyB.sk 28 rfl ?_;refine AnyB.sk 29 rfl ?_;refine AnyB.sk 30 rfl ?_;refine AnyB.sk 31 rfl ?_;refine AnyB.sk 32 rfl ?_;refine AnyB.sk 33 rfl ?_;refine AnyB.tm 34 (.bool true) rfl ?_;refine AnyB.done _ (by kernel_rfl) ?_;go_simp
      go_wp2_with fail
      go_ret
      exact ⟨ret_bool HF.out.symm, L0.out.drew⟩
    rw [hn] at hnd;have HNd := zh hnd;have HIt : Hid (z39 ⟨m, nm, di⟩ = true) := zh (by unfold z39; rw [hp, hn, decide_eq_true (show (1 : Int) ≤ m by omega), decide_eq_true (show m ≤ 3 by omega)]; rfl);clear hpt hnd hp hn HNi;by_cases hk0 : k = 0
    · have d0 : decide ((0 : Int) < (k : Int)) = false := decide_eq_false (by omega);have d1 : decide (0 < k) = false := decide_eq_false (by omega);have HG2 := zh (zeg hG.out (by rw [z5i HX.out rfl, HIt.out, hk0]; rfl));clear hk0 hkx hsm
      go_wp2_with (rw [← HW1.out])
      refine AnyB.start (by kernel_rfl) ?_;refine AnyB.tk 0 (.pointer (some ⟨wo.heap.size, 0, none⟩)) rfl (fun W hW => z1i rfl (by kernel_rfl) (z9v W wo.heap.size 0)) ?_;refine AnyB.tk 1 (.int .i64 m) rfl (fun W hW => z0f rfl (by kernel_rfl) (zfy W _ _ _ (cell_to (w := w1.drew) b0 hW))) ?_;refine AnyB.tk 2 (.bool false) rfl (fun W hW => y_bin rfl (by kernel_rfl) (by kernel_rfl) rfl (zfz W _ _ _ dm1)) ?_;refine AnyB.tm 3 (.bool false) rfl ?_;refine AnyB.tk 4 (.pointer (some ⟨wo.heap.size, 0, none⟩)) rfl (fun W hW => z1i rfl (by kernel_rfl) (z9v W wo.heap.size 0)) ?_;refine AnyB.tk 5 (.int .i64 m) rfl (fun W hW => z0f rfl (by kernel_rfl) (zfy W _ _ _ (cell_to (w := w1.drew) b0 hW))) ?_;refine AnyB.tk 6 (.bool false) rfl (fun W hW => y_bin rfl (by kernel_rfl) (by kernel_rfl) rfl (zc5 W _ _ _ dm3)) ?_;refine AnyB.tm 7 (.bool false) rfl ?_;refine AnyB.tm 8 (.bool false) rfl ?_;refine AnyB.tk 9 (.pointer (some ⟨wo.heap.size, 1, none⟩)) rfl (fun W hW => z1i rfl (by kernel_rfl) (zhu W wo.heap.size 0)) ?_;refine AnyB.tk 10 (.string ⟨nm.toArray⟩) rfl (fun W hW => z0f rfl (by kernel_rfl) (zfx W _ _ _ (cell_to (w := w1.drew) b1 hW))) ?_;refine AnyB.call 11 107 #[.string ⟨nm.toArray⟩] (by kernel_rfl) rfl (by kernel_rfl) (by kernel_rfl) ((HPt.out _).mono ?_);intro e w8 hh;rw [hh.1, ← hh.2];clear hh w8;refine ⟨_, rfl, Below.refl _ _, ?_⟩;refine AnyB.tm 12 (.bool false) rfl ?_;refine AnyB.tm 13 (.bool false) rfl ?_;refine AnyB.tm 14 (.bool false) rfl ?_;refine AnyB.tk 15 (.pointer (some ⟨wo.heap.size, 2, none⟩)) rfl (fun W hW => z1i rfl (by kernel_rfl) (zod W wo.heap.size 0)) ?_;refine AnyB.tk 16 (.string ⟨di.toArray⟩) rfl (fun W hW => z0f rfl (by kernel_rfl) (zfx W _ _ _ (cell_to (w := w1.drew) b2 hW))) ?_;refine AnyB.call 17 28 #[.string ⟨di.toArray⟩] (by kernel_rfl) rfl (by kernel_rfl) (by kernel_rfl) ((HNd.out _).mono ?_);intro e w8 hh;rw [hh.1, ← hh.2];clear hh w8;refine ⟨_, rfl, Below.refl _ _, ?_⟩;refine AnyB.tm 18 (.bool false) rfl ?_;refine AnyB.tm 19 (.bool false) rfl ?_;refine AnyB.tm 20 (.bool false) rfl ?_;refine AnyB.tm 21 (.int .i64 (k : Int)) rfl ?_;refine AnyB.tk 22 (.bool false) rfl (fun W hW => y_bin rfl (by kernel_rfl) (by kernel_rfl) rfl (zc5 W _ _ _ d0)) ?_;refine AnyB.tm 23 (.bool false) rfl ?_;refine AnyB.sk 24 rfl ?_;refine AnyB.sk 25 rfl ?_;refine AnyB.sk 26 rfl ?_;refine AnyB.sk 27 rfl ?_;refine AnyB.sk 28 rfl ?_;refine AnyB.sk 29 rfl ?_;refine AnyB.sk 30 rfl ?_;refine AnyB.sk 31 rfl ?_;refine AnyB.sk 32 rfl ?_;refine AnyB.tm 33 (.bool false) rfl ?_;refine AnyB.tm 34 (.bool false) rfl ?_;refine AnyB.done _ (by kernel_rfl) ?_;go_simp;have HBx := zh (show w1.drew.cell? ⟨wo.heap.size, 0, none⟩ = _ ∧ w1.drew.cell? ⟨wo.heap.size, 1, none⟩ = _ ∧ w1.drew.cell? ⟨wo.heap.size, 2, none⟩ = _ from And.intro b0 (And.intro b1 b2));have LT := zh L0.out.drew;clear b0 b1 b2;clear c0 c1 c2
      go_wp2_with fail
      go_loopw [5] (fun vj w5 => Below w.heap.size w w5 ∧ (w5.cell? ⟨wo.heap.size, 0, none⟩ = some (.int .i64 m) ∧ w5.cell? ⟨wo.heap.size, 1, none⟩ = some (.string ⟨nm.toArray⟩) ∧ w5.cell? ⟨wo.heap.size, 2, none⟩ = some (.string ⟨di.toArray⟩)) ∧ ∃ j : Nat, j ≤ k ∧ vj = .int .i64 j ∧ Hid (∀ i, i < j → (l.getD i z1c).name ≠ nm)) (fun vj _ => k - (intOf vj).toNat)
      case atStart => exact ⟨LT.out, HBx.out, 0, Nat.zero_le _, rfl, zh fun i hi => absurd hi (Nat.not_lt_zero _)⟩
      case round =>
       obtain ⟨hB5, hbx, j, hj, rfl, hno⟩ := hrel;by_cases hjk : j < k
       · obtain ⟨q0, q1, q2⟩ := ItmsR.cells (HR.out.below hB5 zl) j (by omega);obtain ⟨y, hy⟩ := zx (l.getD j z1c);rw [← hy] at q0 q1 q2;obtain ⟨ym, yn, yi⟩ := y;unfold SV at q1 q2;simp only at q0 q1 q2;have hyn : (l.getD j z1c).name = yn := by rw [← hy]
         have HY := zh hyn; have HB5 := zh hB5; have HBx5 := zh hbx;obtain ⟨b0, b1, b2⟩ := hbx;have gl : g < wr.heap.size := by have := hB5.size; omega
         clear hy hyn hB5 q0 q2 b0 b2;by_cases he : yn = nm
         · have HF : Hid (z0k l = false) := zh (dup_no hjk hlt (by rw [HY.out, he, ← HX.out]));subst he
           go_wp2_with fail
           go_quiet (fail)
           go_wp2_with fail
           go_ret
           exact ⟨ret_bool HF.out.symm, z12 HB5.out _⟩
         · have b3 : (yn == nm) = false := by simpa using he
           have HNo5 : Hid (∀ i, i < j + 1 → (l.getD i z1c).name ≠ nm) := zh fun i hi => by
            rcases Nat.lt_or_ge i j with h | h
            · exact hno.out i h
            · rw [show i = j by omega, HY.out]; exact he
           clear he
           go_wp2_with fail
           go_quiet (fail)
           go_wp2_with fail
           go_roundw
           case rel => exact ⟨z12 HB5.out _, HBx5.out, j + 1, hjk, by go_num, HNo5⟩
           case measure => simp [intOf]; omega
       · obtain rfl : j = k := by omega
         have HB5 := zh hB5;have HN5 := zh (zbc hlt hN.out (fun i hi => by rw [← HX.out]; exact hno.out i hi));clear hB5 hbx hno
         go_wp2_with fail
         go_roundw
         case rel => exact ⟨j + 1, hlt, by go_num, HB5, HG2, HN5⟩
         case measure => simp [intOf]; omega
    · obtain ⟨j, hj⟩ : ∃ j, k = j + 1 := ⟨k - 1, by omega⟩
      have hjl : j < l.length := by omega
      obtain ⟨q0, q1, q2⟩ := ItmsR.cells (HR.out.below L0.out zl) j hjl;obtain ⟨y, hy⟩ := zx (l.getD j z1c);rw [← hy] at q0 q1 q2;have hy2 : y = l.getD (k - 1) z1c := by rw [hy, hj]; rfl
      have hsy := HS.out.get hjl hy;have hky := fun W => zhr y hsy.1 W;obtain ⟨m2, nm2, di2⟩ := y;unfold SV at q1 q2 hky;simp only at q0 q1 q2 hky;have HY := zh hy2;obtain ⟨ka, hka⟩ := zx (keyL ⟨m2, nm2, di2⟩);obtain ⟨kb, hkb⟩ := zx (keyL ⟨m, nm, di⟩);rw [← hka] at hky;rw [← hkb] at hkx;have HP := zh hky; have HQ := zh hkx
      have hgk : z4y l k = bytesBefore ka kb := by
       rw [z5i HX.out HY.out, HIt.out, show (k == 0) = false by simp; omega, hka, hkb]; rfl
      have HGk := zh hgk;have d0 : decide ((0 : Int) < (k : Int)) = true := decide_eq_true (by omega);have d1 : decide (0 < k) = true := decide_eq_true (by omega);have e1 : IntKind.i64.wrap ((k : Int) - 1) = (j : Int) := by rw [IntWalk.i64_in _ (by omega)]; omega
      have e2 : 0 ≤ (j : Int) := by omega
      have e3 : (j : Int) < (l.length : Int) := by omega
      clear hky hkx hka hkb hgk hy hy2 hsy hj hk0 hsm;cases hbb : bytesBefore ka kb
      · have hle : Op.bytesLess ka kb = false := (z3f ka kb).trans hbb;have HF := zh (z6k hlt (HGk.out.trans hbb));clear hbb
        go_wp2_with (rw [← HW1.out])
        go_region_held3 (fun W => W.cell? ⟨g, o + j * 3, none⟩ = some (.int .i64 m2) ∧ W.cell? ⟨g, o + j * 3 + 1, none⟩ = some (.string ⟨nm2.toArray⟩) ∧ W.cell? ⟨g, o + j * 3 + 2, none⟩ = some (.string ⟨di2.toArray⟩) ∧ W.cell? ⟨wo.heap.size, 0, none⟩ = some (.int .i64 m) ∧ W.cell? ⟨wo.heap.size, 1, none⟩ = some (.string ⟨nm.toArray⟩) ∧ W.cell? ⟨wo.heap.size, 2, none⟩ = some (.string ⟨di.toArray⟩) ∧ Below w1.heap.size w1 W)
         (first | exact ⟨q0, q1, q2, b0, b1, b2, (Below.refl _ _).drew⟩ | assumption | go_keep)
         (first
           | (go_at_call 107; refine (HPt.out _).mono ?_; rintro e w8 ⟨rfl, rfl⟩)
           | (go_at_call 28; refine (HNd.out _).mono ?_; rintro e w9 ⟨rfl, rfl⟩)
           | (go_at_call 108; (with_reducible refine (HP.out _).mono ?_); rintro e w2 ⟨rfl, l2⟩; have hS2 := And.intro (cell_to q0 (bdr l2)) (And.intro (cell_to q1 (bdr l2)) (And.intro (cell_to q2 (bdr l2)) (And.intro (cell_to b0 (bdr l2)) (And.intro (cell_to b1 (bdr l2)) (And.intro (cell_to b2 (bdr l2)) (bdr l2)))))))
           | (go_at_call 108; (with_reducible refine (HQ.out _).mono ?_); rintro e w3 ⟨rfl, l3⟩; have hS3 := And.intro (cell_to hS2.1 l3) (And.intro (cell_to hS2.2.1 l3) (And.intro (cell_to hS2.2.2.1 l3) (And.intro (cell_to hS2.2.2.2.1 l3) (And.intro (cell_to hS2.2.2.2.2.1 l3) (And.intro (cell_to hS2.2.2.2.2.2.1 l3) (hS2.2.2.2.2.2.2.trans (l3.mono hS2.2.2.2.2.2.2.size)))))))))
        have LT := zh (hS3.2.2.2.2.2.2);have hbx := And.intro hS3.2.2.2.1 (And.intro hS3.2.2.2.2.1 hS3.2.2.2.2.2.1);clear hS2 hS3 q0 q1 q2 b0 b1 b2 l2 l3 e1 e2 e3 d0 d1
        go_wp2_with fail
        go_ret
        exact ⟨ret_bool HF.out.symm, L0.out.trans (LT.out.mono L0.out.size)⟩
      · have hle : Op.bytesLess ka kb = true := (z3f ka kb).trans hbb;have HG2 := zh (zeg hG.out (HGk.out.trans hbb));clear hbb
        go_wp2_with (rw [← HW1.out])
        go_region_held3 (fun W => W.cell? ⟨g, o + j * 3, none⟩ = some (.int .i64 m2) ∧ W.cell? ⟨g, o + j * 3 + 1, none⟩ = some (.string ⟨nm2.toArray⟩) ∧ W.cell? ⟨g, o + j * 3 + 2, none⟩ = some (.string ⟨di2.toArray⟩) ∧ W.cell? ⟨wo.heap.size, 0, none⟩ = some (.int .i64 m) ∧ W.cell? ⟨wo.heap.size, 1, none⟩ = some (.string ⟨nm.toArray⟩) ∧ W.cell? ⟨wo.heap.size, 2, none⟩ = some (.string ⟨di.toArray⟩) ∧ Below w1.heap.size w1 W)
         (first | exact ⟨q0, q1, q2, b0, b1, b2, (Below.refl _ _).drew⟩ | assumption | go_keep)
         (first
           | (go_at_call 107; refine (HPt.out _).mono ?_; rintro e w8 ⟨rfl, rfl⟩)
           | (go_at_call 28; refine (HNd.out _).mono ?_; rintro e w9 ⟨rfl, rfl⟩)
           | (go_at_call 108; (with_reducible refine (HP.out _).mono ?_); rintro e w2 ⟨rfl, l2⟩; have hS2 := And.intro (cell_to q0 (bdr l2)) (And.intro (cell_to q1 (bdr l2)) (And.intro (cell_to q2 (bdr l2)) (And.intro (cell_to b0 (bdr l2)) (And.intro (cell_to b1 (bdr l2)) (And.intro (cell_to b2 (bdr l2)) (bdr l2)))))))
           | (go_at_call 108; (with_reducible refine (HQ.out _).mono ?_); rintro e w3 ⟨rfl, l3⟩; have hS3 := And.intro (cell_to hS2.1 l3) (And.intro (cell_to hS2.2.1 l3) (And.intro (cell_to hS2.2.2.1 l3) (And.intro (cell_to hS2.2.2.2.1 l3) (And.intro (cell_to hS2.2.2.2.2.1 l3) (And.intro (cell_to hS2.2.2.2.2.2.1 l3) (hS2.2.2.2.2.2.2.trans (l3.mono hS2.2.2.2.2.2.2.size)))))))))
        have LT := zh (hS3.2.2.2.2.2.2);have hbx := And.intro hS3.2.2.2.1 (And.intro hS3.2.2.2.2.1 hS3.2.2.2.2.2.1);clear hS2 hS3 q0 q1 q2 b0 b1 b2 l2 l3 e1 e2 e3 d0 d1;have HBx := zh hbx;have LT := zh (L0.out.trans (LT.out.mono L0.out.size));clear hbx
        go_wp2_with fail
        go_loopw [5] (fun vj w5 => Below w.heap.size w w5 ∧ (w5.cell? ⟨wo.heap.size, 0, none⟩ = some (.int .i64 m) ∧ w5.cell? ⟨wo.heap.size, 1, none⟩ = some (.string ⟨nm.toArray⟩) ∧ w5.cell? ⟨wo.heap.size, 2, none⟩ = some (.string ⟨di.toArray⟩)) ∧ ∃ j : Nat, j ≤ k ∧ vj = .int .i64 j ∧ Hid (∀ i, i < j → (l.getD i z1c).name ≠ nm)) (fun vj _ => k - (intOf vj).toNat)
        case atStart => exact ⟨LT.out, HBx.out, 0, Nat.zero_le _, rfl, zh fun i hi => absurd hi (Nat.not_lt_zero _)⟩
        case round =>
         obtain ⟨hB5, hbx, j, hj, rfl, hno⟩ := hrel;by_cases hjk : j < k
         · obtain ⟨q0, q1, q2⟩ := ItmsR.cells (HR.out.below hB5 zl) j (by omega);obtain ⟨y, hy⟩ := zx (l.getD j z1c);rw [← hy] at q0 q1 q2;obtain ⟨ym, yn, yi⟩ := y;unfold SV at q1 q2;simp only at q0 q1 q2;have hyn : (l.getD j z1c).name = yn := by rw [← hy]
           have HY := zh hyn; have HB5 := zh hB5; have HBx5 := zh hbx;obtain ⟨b0, b1, b2⟩ := hbx;have gl : g < wr.heap.size := by have := hB5.size; omega
           clear hy hyn hB5 q0 q2 b0 b2;by_cases he : yn = nm
           · have HF : Hid (z0k l = false) := zh (dup_no hjk hlt (by rw [HY.out, he, ← HX.out]));subst he
             go_wp2_with fail
             go_quiet (fail)
             go_wp2_with fail
             go_ret
             exact ⟨ret_bool HF.out.symm, z12 HB5.out _⟩
           · have b3 : (yn == nm) = false := by simpa using he
             have HNo5 : Hid (∀ i, i < j + 1 → (l.getD i z1c).name ≠ nm) := zh fun i hi => by
              rcases Nat.lt_or_ge i j with h | h
              · exact hno.out i h
              · rw [show i = j by omega, HY.out]; exact he
             clear he
             go_wp2_with fail
             go_quiet (fail)
             go_wp2_with fail
             go_roundw
             case rel => exact ⟨z12 HB5.out _, HBx5.out, j + 1, hjk, by go_num, HNo5⟩
             case measure => simp [intOf]; omega
         · obtain rfl : j = k := by omega
           have HB5 := zh hB5;have HN5 := zh (zbc hlt hN.out (fun i hi => by rw [← HX.out]; exact hno.out i hi));clear hB5 hbx hno
           go_wp2_with fail
           go_roundw
           case rel => exact ⟨j + 1, hlt, by go_num, HB5, HG2, HN5⟩
           case measure => simp [intOf]; omega
  · obtain rfl : k = l.length := by omega
    have HT := zh (zjg hG.out hN.out);clear hG hN;have HT2 : Hid (decide ((l.length : Int) ≤ 256) = z0k l) := zh (by rw [HT.out, Bool.eq_iff_iff]; simp; omega)
    go_wp2_with fail
    go_ret
    exact ⟨ret_bool HT2.out, hB.out⟩
theorem z9w (W : World) (a b r : Int) (h : IntKind.i64.wrap (a + b) = r) : (binOp .add 3 (.int .i64 a) (.int .i64 b)).run Tryz.prog W = .ok (.int .i64 r) W := by
 simp [go_sem, h]
theorem conv_u8 (W : World) (a r : Int) (h : IntKind.u8.wrap a = r) : (convert 3 5 (.int .i64 a)).run Tryz.prog W = .ok (.int .u8 r) W := by
 simp [go_sem, h]
theorem build2 (W : World) (a b : Int) : (Instr.buildSlice 23 2 #[(0, .int .u8 a), (1, .int .u8 b)]).run Tryz.prog W = .ok (.slice (some ⟨W.heap.size, 0, none⟩) 2 2) (W.alloc (.cells #[.int .u8 a, .int .u8 b] 5)) := by
 simp [go_sem]
theorem rb_two8 (W : World) (a b : UInt8) : Rb (W.alloc (.cells #[.int .u8 (a.toNat : Int), .int .u8 (b.toNat : Int)] 5)) (.slice (some ⟨W.heap.size, 0, none⟩) 2 2) [a, b] :=
 .inr ⟨W.heap.size, 0, 2, rfl, Nat.le_refl _, by simp, fun j hj => by
  rw [Nat.zero_add, cell_of_row (W.alloc _) W.heap.size j _ _ _ (heap_alloc_new W _)]
  match j, hj with
  | 0, _ => rfl
  | 1, _ => rfl⟩
theorem zc6 (a b : zB) (s t : ByteArray) (hs : s = ⟨a.toArray⟩) (ht : t = ⟨(a ++ b).toArray⟩) (ha : a.length ≤ 1000000) (hb : b.length ≤ 1000000) : ∀ W : World, (binOp .add 9 (.string s) (.string ⟨b.toArray⟩)).run Tryz.prog W = .ok (.string t) W := fun W => by
 have h := z1s a b s t hs ht ha hb W;simpa [go_sem] using h
theorem bdrew {b : Nat} {w w1 : World} (h : Below b w w1) : Below b w w1.drew := ⟨h.os, h.tape, h.output, h.size, h.block⟩
theorem zeh (l : List Itm) (v : Value) (w : World) (hr : ItmsR w v l) (hs : Smalls l) (hl : l.length ≤ 1000000) :
 Calls Tryz.prog 63 #[v] w (z06 (zfe l) w) := by
 have hrt := zad l v w hr hs hl;cases h : z0k l
 · rw [h] at hrt;rw [zgt h];have HT := zh hrt;obtain ⟨A, c, rfl⟩ := hr.shape;clear hr hs hrt h
   go_enter Tryz.func63, Tryz.ntmps63
   go_wp2_with fail
   refine HT.out.mono ?_;rintro e w1 ⟨rfl, l1⟩
   go_wp2_with fail
   go_ret2
   exact ⟨rfl, l1⟩
 rw [h] at hrt;rw [zd2 h];have HT := zh hrt;have HI := zh (z2p h);have h256 := (z0w.1 h).1;obtain ⟨A, c, rfl⟩ := hr.shape;have HR := zh hr;unfold SV;clear hr hs hrt h
 go_enter Tryz.func63, Tryz.ntmps63
 go_wp2_with fail
 refine HT.out.mono ?_;rintro e w1 ⟨rfl, l1⟩;have L1 := zh l1;clear l1 HT
 go_wp2_with fail
 go_loopw [4, 5] (fun vo vi wr => ∃ (k : Nat) (out : zB), k ≤ l.length ∧ vi = .int .i64 k ∧ vo = .string ⟨out.toArray⟩ ∧ Hid (out = putT (l.take k)) ∧ Hid (Below w.heap.size w wr)) (fun _ vi _ => l.length - (intOf vi).toNat)
 case atStart => exact ⟨0, [], Nat.zero_le _, rfl, rfl, zh rfl, L1⟩
 case round =>
  obtain ⟨k, out, hk, rfl, rfl, hout, hB⟩ := hrel;by_cases hlt : k < l.length
  · obtain ⟨g, o, c', e, _, hg⟩ := HR.out.pos (by omega);cases e;have hsn := zlf l k hlt;have hit := HI.out _ (z1w l z1c k hlt);have hcells := fun W (hW : Below w.heap.size w W) => ItmsR.cells (HR.out.below hW zl) k hlt;obtain ⟨x, hx⟩ := zx (l.getD k z1c);rw [← hx] at hcells hsn hit;obtain ⟨m, nm, di⟩ := x;unfold SV at hcells;simp only at hcells;obtain ⟨m1, m2, m3, m4⟩ := z2g hit;simp only at m1 m2 m3 m4;have n1 : nm.length ≤ 70 := (z4b.1 m3).2.1.2;have n2 : di.length ≤ 64 := by have := z17 m4; omega
    have htl : out.length ≤ 137 * 256 := by
     have h1 := zbt (l := l.take k) (fun y hy => HI.out y (List.mem_of_mem_take hy));rw [List.length_take] at h1;rw [hout.out]; omega
    obtain ⟨d, hd⟩ := zx (UInt8.ofNat (48 + m.toNat));have hdn : ((d.toNat : Nat) : Int) = 48 + m := by rw [hd, UInt8.toNat_ofNat']; omega
    have g1 : IntKind.i64.wrap (48 + m) = 48 + m := IntWalk.i64_in _ (by omega);have g2 : IntKind.u8.wrap (48 + m) = (d.toNat : Int) := by rw [← hdn, IntKind.wrap_u8']; have := d.toNat_lt; omega
    obtain ⟨t1, ht1⟩ : ∃ t : ByteArray, t = ⟨(out ++ [d, 32]).toArray⟩ := ⟨_, rfl⟩
    obtain ⟨t2, ht2⟩ : ∃ t : ByteArray, t = ⟨((out ++ [d, 32]) ++ nm).toArray⟩ := ⟨_, rfl⟩
    obtain ⟨t3, ht3⟩ : ∃ t : ByteArray, t = ⟨(((out ++ [d, 32]) ++ nm) ++ [0]).toArray⟩ := ⟨_, rfl⟩
    obtain ⟨t4, ht4⟩ : ∃ t : ByteArray, t = ⟨((((out ++ [d, 32]) ++ nm) ++ [0]) ++ di).toArray⟩ := ⟨_, rfl⟩
    have a1 := zc6 out [d, 32] _ t1 rfl ht1 (by omega) (by simp);have a2 := zc6 _ nm t1 t2 ht1 ht2 (by simp; omega) (by omega);have a3 := zc6 _ [0] t2 t3 ht2 ht3 (by simp; omega) (by simp);have a4 := zc6 _ di t3 t4 ht3 ht4 (by simp; omega) (by omega);have H4 : Hid (t4 = ⟨(putT (l.take (k + 1))).toArray⟩) := zh (by rw [ht4, hsn, ← hout.out, hd]; unfold putI; simp);have HL0 := zh (fun W hW => zfy W g (o + k * 3) m (hcells W hW).1);have HL1 := zh (fun W hW => zfx W g (o + k * 3 + 1) ⟨nm.toArray⟩ (hcells W hW).2.1);have HL2 := zh (fun W hW => zfx W g (o + k * 3 + 2) ⟨di.toArray⟩ (hcells W hW).2.2);clear hx hsn hit htl m3 m4 hcells ht1 ht2 ht3 ht4 hd hdn hout
    go_wp2_with fail
    refine AnyB.start (by kernel_rfl) ?_;have LD := zh (bdrew hB.out);generalize wr.drew = wd at LD ⊢;refine AnyB.tm 0 (.string ⟨out.toArray⟩) rfl ?_;refine AnyB.tm 1 (.slice (some ⟨g, o, none⟩) l.length c) rfl ?_;refine AnyB.tm 2 (.int .i64 (k : Int)) rfl ?_;refine AnyB.tk 3 (.pointer (some ⟨g, o + k * 3, none⟩)) rfl (fun W hW => z0s rfl (by kernel_rfl) (by kernel_rfl) (zno W g o l.length c k hlt)) ?_;refine AnyB.tk 4 (.pointer (some ⟨g, o + k * 3, none⟩)) rfl (fun W hW => z1i rfl (by kernel_rfl) (z9v W g (o + k * 3))) ?_;refine AnyB.tk 5 (.int .i64 m) rfl (fun W hW => z0f rfl (by kernel_rfl) (HL0.out W (LD.out.trans (hW.mono LD.out.size)))) ?_;refine AnyB.tk 6 (.int .i64 (48 + m)) rfl (fun W hW => y_bin rfl (by kernel_rfl) (by kernel_rfl) rfl (z9w W 48 m (48 + m) g1)) ?_;refine AnyB.tk 7 (.int .u8 (d.toNat : Int)) rfl (fun W hW => y_conv (x := .int .i64 (48 + m)) rfl (by kernel_rfl) (conv_u8 W (48 + m) _ g2)) ?_;refine AnyB.tm 11 (.slice (some ⟨g, o, none⟩) l.length c) rfl ?_;refine AnyB.tm 12 (.int .i64 (k : Int)) rfl ?_;refine AnyB.tk 13 (.pointer (some ⟨g, o + k * 3, none⟩)) rfl (fun W hW => z0s rfl (by kernel_rfl) (by kernel_rfl) (zno W g o l.length c k hlt)) ?_;refine AnyB.tk 14 (.pointer (some ⟨g, o + k * 3 + 1, none⟩)) rfl (fun W hW => z1i rfl (by kernel_rfl) (zhu W g (o + k * 3))) ?_;refine AnyB.tk 15 (.string ⟨nm.toArray⟩) rfl (fun W hW => z0f rfl (by kernel_rfl) (HL1.out W (LD.out.trans (hW.mono LD.out.size)))) ?_;refine AnyB.tm 18 (.slice (some ⟨g, o, none⟩) l.length c) rfl ?_;refine AnyB.tm 19 (.int .i64 (k : Int)) rfl ?_;refine AnyB.tk 20 (.pointer (some ⟨g, o + k * 3, none⟩)) rfl (fun W hW => z0s rfl (by kernel_rfl) (by kernel_rfl) (zno W g o l.length c k hlt)) ?_;refine AnyB.tk 21 (.pointer (some ⟨g, o + k * 3 + 2, none⟩)) rfl (fun W hW => z1i rfl (by kernel_rfl) (zod W g (o + k * 3))) ?_;refine AnyB.tk 22 (.string ⟨di.toArray⟩) rfl (fun W hW => z0f rfl (by kernel_rfl) (HL2.out W (LD.out.trans (hW.mono LD.out.size)))) ?_;refine AnyB.op 8 (.slice (some ⟨wd.heap.size, 0, none⟩) 2 2) (wd.alloc (.cells #[.int .u8 (d.toNat : Int), .int .u8 ((32 : UInt8).toNat : Int)] 5)) (by kernel_rfl) rfl (by kernel_rfl) (znn rfl (by kernel_rfl) (build2 wd _ _)) (below_new wd _) ?_;have ME := zh (LD.out.trans ((below_new wd (.cells #[.int .u8 (d.toNat : Int), .int .u8 ((32 : UInt8).toNat : Int)] 5)).mono LD.out.size));have RB := zh (rb_two8 wd d 32);generalize wd.alloc (.cells #[.int .u8 (d.toNat : Int), .int .u8 ((32 : UInt8).toNat : Int)] 5) = we at ME RB ⊢;refine AnyB.tk 9 (.string ⟨([d, 32] : zB).toArray⟩) rfl (fun W hW => y_conv (x := .slice (some ⟨wd.heap.size, 0, none⟩) 2 2) rfl (by kernel_rfl) (RB.out.below hW zl).conv) ?_;refine AnyB.tk 10 (.string t1) rfl (fun W hW => y_bin rfl (by kernel_rfl) (by kernel_rfl) rfl (a1 W)) ?_;refine AnyB.tk 16 (.string t2) rfl (fun W hW => y_bin rfl (by kernel_rfl) (by kernel_rfl) rfl (a2 W)) ?_;refine AnyB.tk 17 (.string t3) rfl (fun W hW => y_bin rfl (by kernel_rfl) (by kernel_rfl) rfl (a3 W)) ?_;refine AnyB.tk 23 (.string t4) rfl (fun W hW => y_bin rfl (by kernel_rfl) (by kernel_rfl) rfl (a4 W)) ?_;refine AnyB.tm 24 (.string t4) rfl ?_;refine AnyB.done _ (by kernel_rfl) ?_;go_simp;clear a1 a2 a3 a4 RB
    go_wp2_with fail
    go_roundw
    case rel => exact ⟨k + 1, putT (l.take (k + 1)), by omega, by go_num, by rw [H4.out], zh rfl, ME⟩
    case measure => simp [intOf]; omega
  · obtain rfl : k = l.length := by omega
    have HO : Hid (out = putT l) := zh (by have := hout.out; rwa [List.take_length] at this)
    go_wp2_with fail
    go_ret2
    exact ⟨by rw [HO.out]; rfl, hB.out⟩
end Go.Proofs.YtgjddkeogboojaaGreatDoor
