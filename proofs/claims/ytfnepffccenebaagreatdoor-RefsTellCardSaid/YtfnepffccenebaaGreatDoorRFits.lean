/-
  Refs in a map: changed by updates; whether a name is above none; told as a list.
-/
import Derived.Test.YtfnepffccenebaaGreatDoorRMapW
import Derived.Test.YtfnepffccenebaaGreatDoorRApp
namespace Go.Proofs.YtfnepffccenebaaGreatDoor.Rf
open Go.Proofs.YtfnepffccenebaaGreatDoor
open Go Go.RowKit Go.Maps

theorem wpList_rangeL {w : World} {ops : Array Oper} {rest : List Oper} {o : Oper} {a : Go.Act} {Q : Exit → Go.Act → World → Prop} (hg : o.guard = none) (m : Operand) (hop : o.op = Op.range 52 m) (b n : Nat) (l : List Ref)
    (hm : a.eval m = .map (some b)) (h : MapL w b n l)
    (hK : ∀ w' cnt, MapGo w' b w.heap.size n l [] cnt → Below w.heap.size w w' → wpList Tryz.prog ops Q rest (a.put o.dst (.pointer (some ⟨w.heap.size, 0, none⟩))) w') : wpList Tryz.prog ops Q (o :: rest) a w := by
  refine wpList_plain hg fun K' hK' => ?_
  obtain ⟨w', cnt, hrun, r1, r2, _⟩ := h.range
  unfold Oper.wp
  simp [execOp, hop, hm, hrun, Result.andThen]
  exact hK' _ _ (hK w' cnt r1 ((Below.refl _ w).grown r2 (Nat.le_refl _) (fun k hk => by cases hk)))
theorem wpList_nextL {w : World} {ops : Array Oper} {rest : List Oper} {o : Oper} {a : Go.Act} {Q : Exit → Go.Act → World → Prop} (hg : o.guard = none) (it : Operand) (hop : o.op = Op.next it false) (b r n cnt : Nat) (l vis : List Ref)
    (hit : a.eval it = .pointer (some ⟨r, 0, none⟩)) (h : MapGo w b r n l vis cnt) (hl : l.Pairwise fun a b => a.name < b.name)
    (hDone : (∀ y ∈ l, y ∈ vis) → wpList Tryz.prog ops Q rest (a.put o.dst (.tuple #[.bool false])) w)
    (hMore : ∀ y w' cnt', y ∈ l → y ∉ vis → MapGo w' b r n l (vis ++ [y]) cnt' → cnt' < cnt → w.grownBy w' (some r) → w'.heap.size = w.heap.size →
      (Instr.entry (.pointer (some ⟨r, 0, none⟩))).run Tryz.prog w' = .ok (.tuple #[.string ⟨y.name.toArray⟩, .agg #[.string ⟨y.name.toArray⟩, .string ⟨y.id.toArray⟩]]) w' → wpList Tryz.prog ops Q rest (a.put o.dst (.tuple #[.bool true, .string ⟨y.name.toArray⟩, .agg #[.string ⟨y.name.toArray⟩, .string ⟨y.id.toArray⟩]])) w') : wpList Tryz.prog ops Q (o :: rest) a w := by
  refine wpList_plain hg fun K' hK' => ?_
  unfold Oper.wp
  rcases h.next hl o.type with ⟨h1, hrun⟩ | ⟨y, w', cnt', h1, h2, hrun, h3, h4, h5, h6, h7⟩
  · simp [execOp, hop, hit, hrun, Result.andThen]
    exact hK' _ _ (hDone h1)
  · simp [execOp, hop, hit, hrun, Result.andThen]
    exact hK' _ _ (hMore y w' cnt' h1 h2 h3 h4 h5 h6 h7)

/-! ### set -/
def SetP (b n : Nat) (l : List Ref) (e : Ending) (w' : World) (w : World) : Prop := e = .returned (.tuple #[]) ∧ MapL w' b n l ∧ But (fun i => i = b) w w'
theorem outL_snoc {l : List Ref} {u : List Upd} {k : Nat} {x : Upd} (hx : u[k]? = some x) : outL l (u.take (k + 1)) = putR (outL l (u.take k)) ⟨x.name, x.new⟩ := by
  rw [List.take_add_one, hx, Option.toList_some, outL_app]; rfl
set_option maxRecDepth 100000 in
set_option maxHeartbeats 4000000 in
theorem set_p (l : List Ref) (u : List Upd) (uv : Value) (b n : Nat) (w0 w : World) (hv : UpdsR w0 uv u) (hf : FitU u) (h16 : u.length ≤ 16) (hn : n ≤ 64) (hl : l.Pairwise fun a b => a.name < b.name) (hb : Below w0.heap.size w0 w) (hbb : w0.heap.size ≤ b) (hM : MapL w b n l) :
    Calls Tryz.prog 60 #[.map (some b), uv] w fun e w' => ∃ m, m ≤ n + 16 ∧ SetP b m (outL l u) e w' w := by
  obtain ⟨A, c, rfl⟩ := hv.shape
  obtain ⟨N, hN⟩ : ∃ N, N = u.length := ⟨_, rfl⟩
  rw [← hN] at hv h16 ⊢
  have HV := Lib.hid hv
  have HN := Lib.hid hN
  have HB := Lib.hid hb
  have HF := Lib.hid hf
  have HM := Lib.hid hM
  have Hbb := Lib.hid hbb
  have Hl := Lib.hid hl
  have Hn := Lib.hid hn
  clear hv hN hb hf hM hbb hl hn
  go_enter Tryz.func60, Tryz.ntmps60
  go_wp2_with fail
  go_loopw [8] (fun i wr => ∃ k m : Nat, k ≤ N ∧ i = .int .i64 k ∧ Hid (m ≤ n + k) ∧ Hid (MapL wr b m (outL l (u.take k))) ∧ Hid (But (fun i => i = b) w wr)) (fun i _ => N - (intOf i).toNat)
  case atStart => exact ⟨0, n, Nat.zero_le _, rfl, Lib.hid (Nat.le_refl _), HM, Lib.hid (But.refl _ _)⟩
  case round =>
    clear HM
    obtain ⟨k, m, hk, rfl, hm, hM, hB⟩ := hrel
    by_cases hlt : k < N
    case neg =>
      have hkN : k = N := by omega
      have HM : Hid (MapL wr b m (outL l u)) := Lib.hid (by have h := hM.out; rw [hkN, HN.out, List.take_length] at h; exact h)
      have Hm : Hid (m ≤ n + 16) := Lib.hid (by have := hm.out; omega)
      clear hkN hM hm
      go_wp2_with fail
      go_end0
      exact ⟨m, Hm.out, rfl, HM.out, hB.out⟩
    obtain ⟨g, o, c', e, _, hg⟩ := HV.out.pos (by have := HN.out; omega)
    obtain rfl : A = some ⟨g, o, none⟩ := by rw [← HN.out] at e; cases e; rfl
    clear e
    obtain ⟨x, hx⟩ : ∃ x, u[k]? = some x := ⟨_, List.getElem?_eq_getElem (by have := HN.out; omega)⟩
    have l0 : Below w0.heap.size w0 wr := HB.out.trans (hB.out.below (fun k _ hk => by rw [hk]; exact Hbb.out) HB.out.size)
    obtain ⟨c0, c1, c2⟩ := UpdsR.cells (RdK.below HV.out l0 (Nat.le_refl _)) hx
    have hfx := HF.out x (List.mem_of_getElem? hx)
    have HP := Lib.hid (outL_snoc (l := l) hx)
    have HT := Lib.hid (rise_outL (u := u.take k) Hl.out)
    obtain ⟨nm, od, nw⟩ := x
    simp only at hfx
    unfold SV at c0 c1 c2
    simp only at c0 c1 c2
    have hM2 := Lib.hid (hM.out.below (below_al wr (.cells #[.string ⟨nm.toArray⟩, .string ⟨od.toArray⟩, .string ⟨nw.toArray⟩] 43)) hM.out.lt)
    have l1 := l0.alloc l0.size (.cells #[.string ⟨nm.toArray⟩, .string ⟨od.toArray⟩, .string ⟨nw.toArray⟩] 43)
    have L1 := Lib.hid l1
    have hB2 := Lib.hid (hB.out.alloc (.cells #[.string ⟨nm.toArray⟩, .string ⟨od.toArray⟩, .string ⟨nw.toArray⟩] 43))
    have Hfx := Lib.hid hfx
    have Hm2 : Hid (m < maxLen) := Lib.hid (by have := hm.out; have := Hn.out; unfold maxLen; omega)
    have Hm3 : Hid (m + 1 ≤ n + (k + 1)) := Lib.hid (by have := hm.out; omega)
    have Hm4 : Hid (m ≤ n + (k + 1)) := Lib.hid (by have := hm.out; omega)
    clear hx hg hM hB hfx l0 l1 hm
    by_cases hnw : nw = []
    · subst hnw
      have HP2 : Hid (outL l (u.take (k + 1)) = (outL l (u.take k)).filter fun r => !(r.name == nm)) := Lib.hid (by rw [HP.out]; unfold putR; rw [if_pos rfl])
      go_wp2_with (refine wpList_delL rfl _ _ rfl b m (outL l (u.take k)) nm rfl rfl hM2.out HT.out Hfx.out.1 ?_)
      intro w5 hM5 hg5
      have HM5 : Hid (MapL w5 b m (outL l (u.take (k + 1)))) := Lib.hid (by rw [HP2.out]; exact hM5)
      have HB5 := Lib.hid (hB2.out.trans ((But.of_grown hg5).mono (fun k _ hk => by cases hk; rfl)))
      clear hM5 hg5
      go_wp2_with fail
      go_roundw
      case rel => exact ⟨k + 1, m, by omega, by go_num, Hm4, HM5, HB5⟩
      case measure => simp [intOf]; omega
    · have HP2 : Hid (outL l (u.take (k + 1)) = putW ⟨nm, nw⟩ (outL l (u.take k))) := Lib.hid (by rw [HP.out]; unfold putR; rw [if_neg hnw])
      have hne : nw.isEmpty = false := by cases nw with | nil => exact absurd rfl hnw | cons _ _ => rfl
      go_wp2_with (refine wpList_putL rfl _ _ _ rfl b m (outL l (u.take k)) ⟨nm, nw⟩ rfl rfl rfl hM2.out HT.out Hm2.out Hfx.out.1 ?_)
      intro w5 hM5 hg5
      have HM5 : Hid (MapL w5 b (m + 1) (outL l (u.take (k + 1)))) := Lib.hid (by rw [HP2.out]; exact hM5)
      have HB5 := Lib.hid (hB2.out.trans ((But.of_grown hg5).mono (fun k _ hk => by cases hk; rfl)))
      clear hM5 hg5
      go_wp2_with fail
      go_roundw
      case rel => exact ⟨k + 1, m + 1, by omega, by go_num, Hm3, HM5, HB5⟩
      case measure => simp [intOf]; omega

/-! ### fits -/
def fitB (l : List Ref) (x : Bs) : Bool := l.any fun r => aboveB x r.name || aboveB r.name x
theorem fit_hit {l : List Ref} {x : Bs} {y : Ref} (hy : y ∈ l) (h : (aboveB y.name x || aboveB x y.name) = true) : fitB l x = true := by
  unfold fitB; rw [List.any_eq_true]; exact ⟨y, hy, by rw [Bool.or_comm]; exact h⟩
theorem fit_none {l vis : List Ref} {x : Bs} (h : ∀ y ∈ l, y ∈ vis) (hv : ∀ y ∈ vis, aboveB y.name x = false ∧ aboveB x y.name = false) : fitB l x = false := by
  unfold fitB; rw [List.any_eq_false]
  intro y hy
  obtain ⟨h1, h2⟩ := hv y (h y hy)
  simp [h1, h2]
set_option maxRecDepth 100000 in
set_option maxHeartbeats 4000000 in
theorem fits_p (l : List Ref) (x : Bs) (b n : Nat) (w : World) (hl : l.Pairwise fun a b => a.name < b.name) (hM : MapL w b n l) :
    Calls Tryz.prog 58 #[.map (some b), .string ⟨x.toArray⟩] w (BoolB (!(fitB l x)) w) := by
  have HM := Lib.hid hM
  have Hl := Lib.hid hl
  clear hM hl
  go_enter Tryz.func58, Tryz.ntmps58
  go_wp2_with (refine wpList_rangeL rfl _ rfl b n l rfl HM.out ?_)
  intro w1 cnt1 hgo1 hb1
  have Hgo1 := Lib.hid hgo1
  have Hb1 := Lib.hid hb1
  clear hgo1 hb1
  go_wp2_with fail
  go_loopw [5] (fun _ wr => ∃ vis cnt, Hid (MapGo wr b w.heap.size n l vis cnt) ∧ Hid (Below w.heap.size w wr) ∧ Hid (∀ y ∈ vis, aboveB y.name x = false ∧ aboveB x y.name = false)) (fun _ wr => wr.rangeLeft b w.heap.size)
  case atStart => exact ⟨[], cnt1, Hgo1, Hb1, Lib.hid fun y hy => by cases hy⟩
  case round =>
    clear Hgo1 Hb1
    obtain ⟨vis, cnt, hgo, hB, hv⟩ := hrel
    go_wp2_with (refine wpList_nextL rfl _ rfl b w.heap.size n cnt l vis rfl hgo.out Hl.out ?_ ?_)
    · intro hd
      have HR := Lib.hid (fit_none hd hv.out)
      clear hd hv hgo
      go_wp2_with fail
      go_ret
      exact ⟨ret_bool (by rw [HR.out]; rfl), hB.out⟩
    · intro y w2 cnt2 hy hyv hgo2 hlt hg2 hs2 hen
      have HB2 : Hid (Below w.heap.size w w2) := Lib.hid (hB.out.grown hg2 hB.out.size (fun k hk => by cases hk; exact Nat.le_refl _))
      have Hgo2 := Lib.hid hgo2
      have Hm : Hid (w2.rangeLeft b w.heap.size < wr.rangeLeft b w.heap.size) := Lib.hid (by rw [hgo2.left, hgo.out.left]; exact hlt)
      have Hy := Lib.hid hy
      have HA1 := fun W => Lib.hid (above_any y.name x W)
      have HA2 := fun W => Lib.hid (above_any x y.name W)
      unfold SV at HA1 HA2
      clear hy hyv hgo2 hlt hg2 hs2 hgo hB
      cases e1 : aboveB y.name x with
      | true =>
        have HR := Lib.hid (fit_hit (x := x) Hy.out (by rw [e1]; rfl))
        rw [e1] at HA1
        clear e1 hv
        go_wp2_with fail
        refine (HA1 _).out.mono ?_
        rintro e w3 ⟨rfl, rfl⟩
        go_wp2_with fail
        go_ret
        exact ⟨ret_bool (by rw [HR.out]; rfl), HB2.out⟩
      | false =>
      rw [e1] at HA1
      cases e2 : aboveB x y.name with
      | true =>
        have HR := Lib.hid (fit_hit (x := x) Hy.out (by rw [e2]; exact Bool.or_true _))
        rw [e2] at HA2
        clear e1 e2 hv
        go_wp2_with fail
        refine (HA1 _).out.mono ?_
        rintro e w3 ⟨rfl, rfl⟩
        go_wp2_with fail
        refine (HA2 _).out.mono ?_
        rintro e w3 ⟨rfl, rfl⟩
        go_wp2_with fail
        go_ret
        exact ⟨ret_bool (by rw [HR.out]; rfl), HB2.out⟩
      | false =>
        have HV2 : Hid (∀ z ∈ vis ++ [y], aboveB z.name x = false ∧ aboveB x z.name = false) := Lib.hid fun z hz => by
          rcases List.mem_append.1 hz with hz | hz
          · exact hv.out z hz
          · rw [List.mem_singleton.1 hz]; exact ⟨e1, e2⟩
        rw [e2] at HA2
        clear e1 e2 hv
        go_wp2_with fail
        refine (HA1 _).out.mono ?_
        rintro e w3 ⟨rfl, rfl⟩
        go_wp2_with fail
        refine (HA2 _).out.mono ?_
        rintro e w3 ⟨rfl, rfl⟩
        go_wp2_with fail
        go_roundw
        case rel => exact ⟨vis ++ [y], cnt2, Hgo2, HB2, HV2⟩
        case measure => exact Hm.out
end Go.Proofs.YtfnepffccenebaaGreatDoor.Rf
