/-
  Get and Put.
  The live question: what it asks, plainly.
  Find: the place of the first fork of a name.
  The live question of the laws of roots, walked.
  Names of refs, plain: a part more, an empty part, a letter more.
  RootNames, walked.
-/
import Derived.Test.YtnboagmibhllpaaGreatDoorC17
import Derived.Test.YtnboagmibhllpaaGreatDoorC18
import Derived.Test.YtnboagmibhllpaaGreatDoorC19
import Derived.Test.YtnboagmibhllpaaGreatDoorC07
import Derived.Test.YtnboagmibhllpaaGreatDoorC09
import Derived.Lib.SlBytesConst
import Derived.Test.YtnboagmibhllpaaGreatDoorC02

namespace Go.Proofs.YtnboagmibhllpaaGreatDoor.Ro
open Go.Proofs.YtnboagmibhllpaaGreatDoor
open Go.Proofs.YtnboagmibhllpaaGreatDoor.Rf (BoolB)
open Go Go.RowKit

structure Row3 (w : World) (g : Nat) : Prop where
  c0 : w.cell? ⟨g, 0, none⟩ = some (.int .i64 0)
  f0 : w.frozen? ⟨g, 0, none⟩ = false
  c1 : w.cell? ⟨g, 1, none⟩ = some (.slice none 0 0)
  f1 : w.frozen? ⟨g, 1, none⟩ = false
  c2 : w.cell? ⟨g, 2, none⟩ = some (.slice none 0 0)
  f2 : w.frozen? ⟨g, 2, none⟩ = false
theorem Row3.of {w : World} {g : Nat} (h : w.heap[g]? = some (.cells rt0 25 (0, 0))) : Row3 w g :=
  ⟨(cell_of_row w g 0 _ _ _ h).trans rfl, frz h, (cell_of_row w g 1 _ _ _ h).trans rfl, frz h, (cell_of_row w g 2 _ _ _ h).trans rfl, frz h⟩
def set3 (w : World) (g : Nat) (a b c : Value) : World := ((w.setCell ⟨g, 0, none⟩ a).setCell ⟨g, 1, none⟩ b).setCell ⟨g, 2, none⟩ c
theorem set3_blk {w : World} {g : Nat} {t : TypeId} {fr : Nat × Nat} (h : w.heap[g]? = some (.cells rt0 t fr)) (a b c : Value) : (set3 w g a b c).heap[g]? = some (.cells #[a, b, c] t fr) :=
  (blk_set (blk_set (blk_set h a) b) c).trans rfl
theorem set3_but (w : World) (g : Nat) (a b c : Value) : But (fun k => k = g) w (set3 w g a b c) := ((but_set w g 0 a).trans (but_set _ g 1 b)).trans (but_set _ g 2 c)
/-- What Get answers. -/
def GetP (s : Bs) (w : World) (e : Ending) (w' : World) : Prop :=
  ∃ (v : Value) (b : Bool), e = .returned (.tuple #[v, .bool b]) ∧ Below w.heap.size w w' ∧ ((∃ r : Rt, getO s = some r ∧ b = true ∧ RtR w' v r) ∨ (getO s = none ∧ b = false ∧ v = .agg rt0))
set_option maxHeartbeats 4000000 in
set_option maxRecDepth 100000 in
theorem get_p {w : World} {E : ErA} (hp : PrA E w) (s : Bs) (hl : s.length ≤ 900000) {A : Option Addr} {n c : Nat} (hn : n = s.length) (hb : Rb w (.slice A n c) s) : Calls Tryz.prog 14 #[.slice A n c] w (GetP s w) := by
  obtain ⟨wa, hwa⟩ : ∃ y, y = w.alloc (.cells rt0 25) := ⟨_, rfl⟩
  have la : Below w.heap.size w wa := by rw [hwa]; exact below_new _ _
  have ka : wa.heap[w.heap.size]? = some (.cells rt0 25 (0, 0)) := by rw [hwa]; exact heap_alloc_new _ _
  have HR := Lib.hid (read_p (hp.below la) s hl hn (hb.below la (Nat.le_refl _)))
  have LA := Lib.hid la; have KA := Lib.hid ka
  unfold rt0 at hwa
  have HW := Lib.hid hwa
  clear la ka hwa hp hl hn hb
  go_enter Tryz.func14, Tryz.ntmps14
  go_upto_region 1 with fail
  rw [← HW.out]
  clear HW
  go_wp2_with fail
  refine HR.out.mono ?_
  rintro e w1 ⟨m, pv, fv, ve, ⟨A1, n1, c1, rfl⟩, ⟨A2, n2, c2, rfl⟩, rfl, l1, hq⟩
  have k1 := (l1.block _ (lt_heap KA.out)).trans KA.out
  have hlt := lt_heap k1
  have L1 : Hid (Below w.heap.size w w1) := Lib.hid (LA.out.trans (l1.mono LA.out.size))
  obtain ⟨wx, hwx⟩ : ∃ y, y = w1.alloc (.cells #[.int .i64 (m : Int), .slice A1 n1 c1, .slice A2 n2 c2] 25) := ⟨_, rfl⟩
  have lx : Below w1.heap.size w1 wx := by rw [hwx]; exact below_new _ _
  have kx : wx.heap[w1.heap.size]? = some (.cells #[.int .i64 (m : Int), .slice A1 n1 c1, .slice A2 n2 c2] 25 (0, 0)) := by rw [hwx]; exact heap_alloc_new _ _
  have k0 := (lx.block _ hlt).trans k1
  obtain ⟨y0, f0, y1, f1, y2, f2⟩ := Row3.of k0
  have z0 : wx.cell? ⟨w1.heap.size, 0, none⟩ = some (.int .i64 (m : Int)) := (cell_of_row wx _ 0 _ _ _ kx).trans rfl
  have z1 : wx.cell? ⟨w1.heap.size, 1, none⟩ = some (.slice A1 n1 c1) := (cell_of_row wx _ 1 _ _ _ kx).trans rfl
  have z2 : wx.cell? ⟨w1.heap.size, 2, none⟩ = some (.slice A2 n2 c2) := (cell_of_row wx _ 2 _ _ _ kx).trans rfl
  have LX : Hid (Below w.heap.size w wx) := Lib.hid (L1.out.trans (lx.mono L1.out.size))
  have HWX := Lib.hid hwx; have K0 := Lib.hid k0; have LX1 := Lib.hid lx
  rcases hq with ⟨r, hr, rfl, hrt⟩ | ⟨hr, p, rfl⟩
  · have HR1 := Lib.hid hr; have HRT := Lib.hid hrt
    clear hwx k0 lx kx k1 hr hrt l1 HR
    go_upto_region 2 with fail
    rw [← HWX.out]
    clear HWX
    go_wp2_with fail
    obtain ⟨wz, hwz⟩ : ∃ y, y = set3 wx w.heap.size (.int .i64 (m : Int)) (.slice A1 n1 c1) (.slice A2 n2 c2) := ⟨_, rfl⟩
    have kz : wz.heap[w.heap.size]? = some (.cells #[.int .i64 (m : Int), .slice A1 n1 c1, .slice A2 n2 c2] 25 (0, 0)) := by rw [hwz]; exact set3_blk K0.out _ _ _
    have tz : But (fun k => k = w.heap.size) wx wz := by rw [hwz]; exact set3_but _ _ _ _ _
    have HF : Hid (GetP s w (.returned (.tuple #[.agg #[.int .i64 (m : Int), .slice A1 n1 c1, .slice A2 n2 c2], .bool true])) wz) := Lib.hid ⟨_, true, rfl, LX.out.trans (tz.below (fun k _ h => by omega) LX.out.size), .inl ⟨r, HR1.out, rfl, ((HRT.out.but (But.of_new (S := fun _ => False) LX1.out) (fun _ _ h => h)).but tz (fun g hg e => by have := lt_heap KA.out; omega)).rd⟩⟩
    unfold set3 at hwz
    rw [← hwz]
    exact bodyPost_ret (v := .tuple #[.agg #[.int .i64 (m : Int), .slice A1 n1 c1, .slice A2 n2 c2], .bool true]) (results_two rfl _ _ w.heap.size 25 _ (0, 0) _ rfl kz Tryz.underlying25 rfl (by kernel_rfl) rfl) rfl HF.out
  · have HR1 := Lib.hid hr
    clear hwx k0 lx kx k1 hr l1 HR
    go_upto_region 2 with fail
    rw [← HWX.out]
    clear HWX
    go_wp2_with fail
    obtain ⟨wz, hwz⟩ : ∃ y, y = set3 wx w.heap.size (.int .i64 0) (.slice none 0 0) (.slice none 0 0) := ⟨_, rfl⟩
    have kz : wz.heap[w.heap.size]? = some (.cells rt0 25 (0, 0)) := by rw [hwz]; exact set3_blk K0.out _ _ _
    have tz : But (fun k => k = w.heap.size) wx wz := by rw [hwz]; exact set3_but _ _ _ _ _
    have HF : Hid (GetP s w (.returned (.tuple #[.agg rt0, .bool false])) wz) := Lib.hid ⟨_, false, rfl, LX.out.trans (tz.below (fun k _ h => by omega) LX.out.size), .inr ⟨HR1.out, rfl, rfl⟩⟩
    unfold set3 at hwz
    rw [← hwz]
    exact bodyPost_ret (v := .tuple #[.agg rt0, .bool false]) (results_two rfl _ _ w.heap.size 25 rt0 (0, 0) _ rfl kz Tryz.underlying25 rfl (by kernel_rfl) rfl) rfl HF.out
/-- What Put answers. -/
def PutP (r : Rt) (w : World) (e : Ending) (w' : World) : Prop :=
  Below w.heap.size w w' ∧ ((RtOk r ∧ ∃ A n c, e = .returned (.tuple #[.slice A n c, .bool true]) ∧ n = (rootL r).length ∧ Rb w' (.slice A n c) (rootL r)) ∨ (¬ RtOk r ∧ e = .returned (.tuple #[.slice none 0 0, .bool false])))
set_option maxHeartbeats 4000000 in
set_option maxRecDepth 100000 in
theorem put_p (r : Rt) (v : Value) (w : World) (hv : RtR w v r) (hf : FitR r) (hT : Tb w) : Calls Tryz.prog 12 #[v] w (PutP r w) := by
  obtain ⟨A, c, B, d, rfl, hp, hk⟩ := hv.parts
  obtain ⟨n, hn⟩ : ∃ n, n = r.pool.length := ⟨_, rfl⟩
  obtain ⟨m, hm⟩ : ∃ m, m = r.forks.length := ⟨_, rfl⟩
  obtain ⟨z, hz⟩ : ∃ z, z = r.count := ⟨_, rfl⟩
  rw [← hn, ← hm, ← hz] at hv ⊢
  obtain ⟨wa, hwa⟩ : ∃ y, y = w.alloc (.cells #[.int .i64 z, .slice A n c, .slice B m d] 25) := ⟨_, rfl⟩
  have la : Below w.heap.size w wa := by rw [hwa]; exact below_new _ _
  have ka : wa.heap[w.heap.size]? = some (.cells #[.int .i64 z, .slice A n c, .slice B m d] 25 (0, 0)) := by rw [hwa]; exact heap_alloc_new _ _
  have hva := hv.below la (Nat.le_refl _)
  have HR := Lib.hid (Right_p r _ wa hva hf)
  have c0 : wa.cell? ⟨w.heap.size, 0, none⟩ = some (.int .i64 z) := (cell_of_row wa _ 0 _ _ _ ka).trans rfl
  have c1 : wa.cell? ⟨w.heap.size, 1, none⟩ = some (.slice A n c) := (cell_of_row wa _ 1 _ _ _ ka).trans rfl
  have c2 : wa.cell? ⟨w.heap.size, 2, none⟩ = some (.slice B m d) := (cell_of_row wa _ 2 _ _ _ ka).trans rfl
  have LA := Lib.hid la; have HW := Lib.hid hwa; have HV := Lib.hid hva; have HTb := Lib.hid (Tb.below hT la); have KA := Lib.hid ka
  clear hp hk hn hm hz hv la ka hva hwa hT hf
  go_enter Tryz.func12, Tryz.ntmps12
  go_upto_region 1 with fail
  rw [← HW.out]
  clear HW
  go_wp2_with fail
  refine HR.out.mono ?_
  rintro e w1 ⟨rfl, l1⟩
  have k1 := (l1.block _ (lt_heap KA.out)).trans KA.out
  have d0 : w1.cell? ⟨w.heap.size, 0, none⟩ = some (.int .i64 z) := (cell_of_row w1 _ 0 _ _ _ k1).trans rfl
  have d1 : w1.cell? ⟨w.heap.size, 1, none⟩ = some (.slice A n c) := (cell_of_row w1 _ 1 _ _ _ k1).trans rfl
  have d2 : w1.cell? ⟨w.heap.size, 2, none⟩ = some (.slice B m d) := (cell_of_row w1 _ 2 _ _ _ k1).trans rfl
  have L1 : Hid (Below w.heap.size w w1) := Lib.hid (LA.out.trans (l1.mono LA.out.size))
  have HV1 := Lib.hid (HV.out.below l1 (Nat.le_refl _)); have HT1 := Lib.hid (Tb.below HTb.out l1)
  by_cases hok : RtOk r
  · have hb := rtB_iff.2 hok
    rw [hb]
    have HWr := Lib.hid (write_p r _ w1 HV1.out hok HT1.out)
    have HO := Lib.hid hok
    clear hb k1 l1 c0 c1 c2 HR hok
    go_wp2_with fail
    refine HWr.out.mono ?_
    rintro e w2 ⟨A2, n2, c2, rfl, hn2, hb2, l2⟩
    have HF : Hid (PutP r w (.returned (.tuple #[.slice A2 n2 c2, .bool true])) w2) := Lib.hid ⟨L1.out.trans (l2.mono L1.out.size), .inl ⟨HO.out, A2, n2, c2, rfl, hn2, hb2⟩⟩
    clear hn2 hb2 l2 HWr
    go_wp2_with fail
    go_ret2
    exact HF.out
  · have hb := rtB_no hok
    rw [hb]
    have HO := Lib.hid hok
    clear hb k1 l1 c0 c1 c2 HR hok
    go_wp2_with fail
    go_ret2
    exact ⟨L1.out, .inr ⟨HO.out, rfl⟩⟩
end Go.Proofs.YtnboagmibhllpaaGreatDoor.Ro


namespace Go.Proofs.YtnboagmibhllpaaGreatDoor.Ro
open Go.Proofs.YtnboagmibhllpaaGreatDoor
open Go

def tx0 : Bs := [110, 101, 116, 32, 48, 10, 112, 111, 111, 108, 32, 48, 10, 102, 111, 114, 107, 115, 32, 48, 10]
def tx1 : Bs := [110, 101, 116, 32, 51, 10, 112, 111, 111, 108, 32, 48, 10, 102, 111, 114, 107, 115, 32, 49, 10, 102, 111, 114, 107, 32, 97, 32, 108, 105, 110, 107, 101, 100, 32, 104, 101, 97, 100, 115, 47, 109, 32, 48, 32, 48, 10]
def tx2 : Bs := [110, 101, 116, 32, 51, 10, 112, 111, 111, 108, 32, 48, 10, 102, 111, 114, 107, 115, 32, 49, 10]
def rr0 : Rt := ⟨0, [], []⟩
def ff1 : Fk := ⟨[97], true, [104, 101, 97, 100, 115, 47, 109], [], []⟩
def rr1 : Rt := ⟨3, [], [ff1]⟩
def ff3 : Fk := ⟨[97], false, [116, 97, 103, 115, 47, 109], [], []⟩
def rr3 : Rt := ⟨0, [], [ff3]⟩
theorem right_nil : Rf.Right [] := by
  constructor <;> simp
theorem dd0 : dd 0 = [48] := by unfold dd; rw [Go.Lib.decDigits]; rfl
theorem dd1 : dd 1 = [49] := by unfold dd; rw [Go.Lib.decDigits]; rfl
theorem dd3 : dd 3 = [51] := by unfold dd; rw [Go.Lib.decDigits]; rfl
theorem ok0 : RtOk rr0 := ⟨by decide, by decide, PacksOk.nil, by decide, FksOk.nil⟩
theorem txt0 : rootL rr0 = tx0 := by
  show numL bNet 0 ++ (numL bPool 0 ++ ([] ++ (numL bForks 0 ++ []))) = tx0
  unfold numL; rw [dd0]; rfl
theorem ok1 : RtOk rr1 := ⟨by decide, by decide, PacksOk.nil, by decide, ⟨fun f hf => by
    rw [List.mem_singleton.1 hf]
    exact ⟨by decide, by decide, right_nil, PacksOk.nil⟩, List.pairwise_singleton _ _⟩⟩
theorem txt1 : rootL rr1 = tx1 := by
  show numL bNet 3 ++ (numL bPool 0 ++ ([] ++ (numL bForks 1 ++ ((openB ⟨[97], true, [104, 101, 97, 100, 115, 47, 109], 0, 0⟩ ++ 10 :: ([] ++ [])) ++ [])))) = tx1
  unfold numL openB; rw [dd0, dd1, dd3]; rfl
theorem get1 : getO tx1 = some rr1 := getO_iff.2 ⟨ok1, txt1⟩
theorem get2 : getO tx2 = none := by
  have e : tx2 = numL bNet 3 ++ (numL bPool 0 ++ (numL bForks 1 ++ [])) := by unfold numL; rw [dd0, dd1, dd3]; rfl
  have h : getS tx2 = none := by
    rw [e]
    unfold getS
    rw [numO_mk (by decide) (by decide) (by decide)]
    simp only
    rw [numO_mk (by decide) (by decide) (by decide)]
    simp only
    rw [packsO]
    simp only
    rw [numO_mk (by decide) (by decide) (by decide)]
    simp only
    rw [forksO]
    have : forkO [] [] = none := by unfold forkO; rfl
    rw [this]
  unfold getO; rw [h]
theorem no3 : ¬ RtOk rr3 := fun h => by
  have := (h.forks.each ff3 (List.mem_singleton.2 rfl)).head
  exact absurd this (by decide)
end Go.Proofs.YtnboagmibhllpaaGreatDoor.Ro


namespace Go.Proofs.YtnboagmibhllpaaGreatDoor.Ro
open Go.Proofs.YtnboagmibhllpaaGreatDoor
open Go.Proofs.YtnboagmibhllpaaGreatDoor.Rf (BoolB Ref nameB linesL lineL RefsR below_al cell_al)
open Go Go.RowKit

/-- The place of the first of a name. -/
def findF (l : List Fk) (s : Bs) : Int := match l.findIdx? (fun f => f.name == s) with | some k => (k : Int) | none => -1
theorem findF_some {l : List Fk} {s : Bs} {k : Nat} (hk : k < l.length) (h : (l[k]?.map (·.name) == some s) = true) (hn : ∀ j, j < k → (l[j]?.map (·.name) == some s) = false) : findF l s = (k : Int) := by
  have hf : l.findIdx? (fun f => f.name == s) = some k := by
    rw [List.findIdx?_eq_some_iff_getElem]
    refine ⟨hk, ?_, fun j hj => ?_⟩
    · rw [List.getElem?_eq_getElem hk] at h; simpa using h
    · have := hn j hj
      rw [List.getElem?_eq_getElem (by omega)] at this
      simpa using this
  unfold findF
  rw [hf]
theorem findF_none {l : List Fk} {s : Bs} (hn : ∀ j, j < l.length → (l[j]?.map (·.name) == some s) = false) : findF l s = -1 := by
  have hf : l.findIdx? (fun f => f.name == s) = none := by
    rw [List.findIdx?_eq_none_iff]
    intro x hx
    obtain ⟨j, hj, rfl⟩ := List.mem_iff_getElem.1 hx
    have := hn j hj
    rw [List.getElem?_eq_getElem hj] at this
    simpa using this
  unfold findF
  rw [hf]
set_option maxHeartbeats 1000000 in
theorem Find1_p (n : Bs) (lk : Bool) (h : Bs) (rv pv : Value) (hr : ∃ A n c, rv = .slice A n c) (hp : ∃ A n c, pv = .slice A n c) (s : Bs) (sb : Nat) (W : World) (hs : W.cell? ⟨sb, 0, none⟩ = some (.string ⟨s.toArray⟩)) :
    Calls Tryz.prog 43 #[.agg #[.string ⟨n.toArray⟩, .bool lk, .string ⟨h.toArray⟩, rv, pv], .pointer (some ⟨sb, 0, none⟩)] W (BoolB (n == s) W) := by
  obtain ⟨A, m, c, rfl⟩ := hr
  obtain ⟨B, k, d, rfl⟩ := hp
  have h1 := cell_al hs (.cells #[.string ⟨n.toArray⟩, .bool lk, .string ⟨h.toArray⟩, .slice A m c, .slice B k d] 42)
  clear hs
  go_enter Tryz.func43, Tryz.ntmps43
  go_wp2_with fail
  go_ret
  exact ⟨rfl, below_al W _⟩
set_option maxHeartbeats 4000000 in
set_option maxRecDepth 100000 in
theorem idxF (l : List Fk) (A : Option Addr) (c N : Nat) (s : Bs) (sb : Nat) (w : World) (hN : N = l.length) (hl : N ≤ 1000000) (hv : FksR w (.slice A N c) l) (hs : w.cell? ⟨sb, 0, none⟩ = some (.string ⟨s.toArray⟩)) :
    Calls Tryz.prog 42 #[.slice A N c, .func (.func 43) #[] #[.pointer (some ⟨sb, 0, none⟩)]] w fun e w' => e = .returned (.int .i64 (findF l s)) ∧ Below w.heap.size w w' := by
  have HV := Lib.hid hv; have HN := Lib.hid hN; have Hs := Lib.hid hs
  obtain ⟨z, hz⟩ : ∃ z, z = findF l s := ⟨_, rfl⟩
  rw [← hz]
  have HZ := Lib.hid hz
  clear hv hN hs hz
  go_enter Tryz.func42, Tryz.ntmps42
  go_wp2_with fail
  go_loopw [8] (fun i wr => ∃ k : Nat, k ≤ N ∧ i = .int .i64 k ∧ Hid (Below w.heap.size w wr) ∧ Hid (∀ j, j < k → (l[j]?.map (·.name) == some s) = false)) (fun i _ => N - (intOf i).toNat)
  case atStart => exact ⟨0, Nat.zero_le _, rfl, Lib.hid (Below.refl _ _), Lib.hid fun j hj => absurd hj (Nat.not_lt_zero _)⟩
  case round =>
    obtain ⟨k, hk, rfl, hB, hno⟩ := hrel
    by_cases hlt : k < N
    case neg =>
      have hkN : k = N := by omega
      have HE : Hid (z = -1) := Lib.hid (by rw [HZ.out]; exact findF_none (by rw [← HN.out, ← hkN]; exact hno.out))
      clear hkN hno
      go_wp2_with fail
      go_ret
      exact ⟨ret_i64 HE.out.symm, hB.out⟩
    have hV := HV.out.below hB.out (Nat.le_refl _)
    obtain ⟨g', o, c', e, _, hg⟩ := hV.pos (by have := HN.out; omega)
    obtain rfl : A = some ⟨g', o, none⟩ := by rw [← HN.out] at e; cases e; rfl
    clear e
    obtain ⟨f, hf⟩ : ∃ f, l[k]? = some f := ⟨_, List.getElem?_eq_getElem (by have := HN.out; omega)⟩
    obtain ⟨x, hx, d0, d1, d2, d3, d4⟩ := hV.at hf
    have hss : wr.cell? ⟨sb, 0, none⟩ = some (.string ⟨s.toArray⟩) := (hB.out.cell (p := ⟨sb, 0, none⟩) (World.block_lt_of_cell? _ _ Hs.out)).trans Hs.out
    obtain ⟨Ar, cr, er⟩ := RdK.shape hx.refs
    obtain ⟨Ap, cp, ep⟩ := RdK.shape hx.packs
    obtain ⟨nr, hnr⟩ : ∃ n, n = f.refs.length := ⟨_, rfl⟩
    obtain ⟨np, hnp⟩ : ∃ n, n = f.packs.length := ⟨_, rfl⟩
    rw [← hnr] at er
    rw [← hnp] at ep
    have HC := Lib.hid (Find1_p x.name x.linked x.head x.rv x.pv ⟨Ar, nr, cr, er⟩ ⟨Ap, np, cp, ep⟩ s sb wr hss)
    have hb : (l[k]?.map (·.name) == some s) = (x.name == s) := by rw [hf, hx.name]; rfl
    have HB := Lib.hid hb
    clear hb hV hg hx hf hnr hnp
    obtain ⟨nm, lk, hd, rv, pv⟩ := x
    simp only at er ep
    subst er
    subst ep
    simp only [SV] at d0 d1 d2 d3 d4 HC HB
    clear hss
    cases hq : (nm == s) with
    | true =>
      rw [hq] at HC HB
      have HE : Hid (z = (k : Int)) := Lib.hid (by rw [HZ.out]; exact findF_some (by have := HN.out; omega) HB.out hno.out)
      clear hq hno HB
      go_wp2_with fail
      refine HC.out.mono ?_
      rintro e w2 ⟨rfl, hE⟩
      have H2 := Lib.hid hE
      clear hE d0 d1 d2 d3 d4
      go_wp2_with fail
      go_ret
      exact ⟨ret_i64 HE.out.symm, hB.out.trans (H2.out.mono hB.out.size)⟩
    | false =>
      rw [hq] at HC HB
      have HN2 : Hid (∀ j, j < k + 1 → (l[j]?.map (·.name) == some s) = false) := Lib.hid fun j hj => by
        rcases Nat.lt_or_ge j k with h | h
        · exact hno.out j h
        · have e : j = k := by omega
          rw [e]; exact HB.out
      clear hq hno HB
      go_wp2_with fail
      refine HC.out.mono ?_
      rintro e w2 ⟨rfl, hE⟩
      have H2 := Lib.hid (hB.out.trans (hE.mono hB.out.size))
      clear hE d0 d1 d2 d3 d4
      go_wp2_with fail
      go_roundw
      case rel => exact ⟨k + 1, hlt, by go_num, H2, HN2⟩
      case measure => simp [intOf]; omega
set_option maxRecDepth 100000 in
set_option maxHeartbeats 1000000 in
theorem Find_p (r : Rt) (v : Value) (s : Bs) (w : World) (hv : RtR w v r) (hl : r.forks.length ≤ 1000000) : Calls Tryz.prog 21 #[v, .string ⟨s.toArray⟩] w fun e w' => e = .returned (.int .i64 (findF r.forks s)) ∧ Below w.heap.size w w' := by
  obtain ⟨A, c, B, d, rfl, hp, hk⟩ := hv.parts
  obtain ⟨n, hn⟩ : ∃ n, n = r.pool.length := ⟨_, rfl⟩
  obtain ⟨m, hm⟩ : ∃ m, m = r.forks.length := ⟨_, rfl⟩
  obtain ⟨z, hz⟩ : ∃ z, z = r.count := ⟨_, rfl⟩
  rw [← hm] at hk
  rw [← hn, ← hm, ← hz]
  have l1 := below_al w (.cells #[.int .i64 z, .slice A n c, .slice B m d] 25)
  have l2 := l1.trans ((below_al (w.alloc (.cells #[.int .i64 z, .slice A n c, .slice B m d] 25)) (.cells #[.string ⟨s.toArray⟩] 9)).mono l1.size)
  have HI := Lib.hid (idxF r.forks B d m s (w.heap.size + 1) _ hm (by omega) (hk.below l2 (Nat.le_refl _)) (by simp))
  have L2 := Lib.hid l2
  obtain ⟨y, hy⟩ : ∃ y, y = findF r.forks s := ⟨_, rfl⟩
  rw [← hy] at HI ⊢
  clear hp hk hn hm hz l1 l2 hy hl
  go_enter Tryz.func21, Tryz.ntmps21
  go_wp2_with fail
  refine HI.out.mono ?_
  rintro e w3 ⟨rfl, l3⟩
  have L3 := Lib.hid (L2.out.trans (l3.mono L2.out.size))
  clear l3 HI
  go_wp2_with fail
  go_ret
  exact ⟨rfl, L3.out⟩
end Go.Proofs.YtnboagmibhllpaaGreatDoor.Ro


namespace Go.Proofs.YtnboagmibhllpaaGreatDoor.Ro
open Go.Proofs.YtnboagmibhllpaaGreatDoor
open Go.Proofs.YtnboagmibhllpaaGreatDoor.Rf (BoolB)
open Go Go.RowKit

theorem rb_new (w : World) (l : Bs) (cs : Array Value) (hcs : cs = (l.map bv).toArray) (n : Nat) (hn : n = l.length) (fr : Nat × Nat) : Rb (w.alloc (.cells cs 5 fr)) (.slice (some ⟨w.heap.size, 0, none⟩) n n) l := by
  subst hcs; subst hn
  refine .inr ⟨w.heap.size, 0, l.length, rfl, Nat.le_refl _, by simp, fun j hj => ?_⟩
  rw [Nat.zero_add, cell_of_row _ _ j _ _ _ (heap_alloc_new w _), List.getElem?_toArray, List.getElem?_map]
  rw [List.getD_eq_getElem?_getD, List.getElem?_eq_getElem hj]
  rfl
theorem fit0 : FitR rr0 := ⟨(fun _ h => by cases h), by decide, (fun _ h => by cases h), by decide, by decide, by decide⟩
theorem fitF (f : Fk) (h1 : f.name.length ≤ 100) (h2 : f.head.length ≤ 100) (h3 : f.refs = []) (h4 : f.packs = []) : FitF f := by
  refine ⟨by unfold maxLen; omega, by unfold maxLen; omega, ?_, by rw [h3]; decide, ?_, by rw [h4]; decide⟩
  · rw [h3]; intro _ h; cases h
  · rw [h4]; intro _ h; cases h
theorem fit1 : FitR rr1 := ⟨(fun _ h => by cases h), by decide, (fun f hf => by rw [List.mem_singleton.1 hf]; exact fitF _ (by decide) (by decide) rfl rfl), by decide, by decide, by decide⟩
theorem fit3 : FitR rr3 := ⟨(fun _ h => by cases h), by decide, (fun f hf => by rw [List.mem_singleton.1 hf]; exact fitF _ (by decide) (by decide) rfl rfl), by decide, by decide, by decide⟩
theorem rt_r0 (w : World) : RtR w (.agg #[.int .i64 0, .slice none 0 0, .slice none 0 0]) rr0 :=
  ⟨_, _, rfl, .inl ⟨⟨_, _, rfl⟩, rfl⟩, ⟨[], .inl ⟨⟨_, _, rfl⟩, rfl⟩, rfl, fun k x f hx => by simp at hx⟩⟩
theorem rt_r3 (w : World) : RtR (w.alloc (.cells #[.string ⟨#[97]⟩, .bool false, .string ⟨#[116, 97, 103, 115, 47, 109]⟩, .slice none 0 0, .slice none 0 0] 42)) (.agg #[.int .i64 0, .slice none 0 0, .slice (some ⟨w.heap.size, 0, none⟩) 1 1]) rr3 :=
  ⟨_, _, rfl, .inl ⟨⟨_, _, rfl⟩, rfl⟩, ⟨[⟨[97], false, [116, 97, 103, 115, 47, 109], .slice none 0 0, .slice none 0 0⟩], Rf.row_new fkC_len w _ _ _ rfl 1 rfl, rfl, fun k x f hx hf => by
    match k, hx, hf with
    | 0, hx, hf =>
      cases hx; cases hf
      exact ⟨rfl, rfl, rfl, .inl ⟨⟨_, _, rfl⟩, rfl⟩, .inl ⟨⟨_, _, rfl⟩, rfl⟩⟩⟩⟩
set_option maxRecDepth 100000 in
set_option maxHeartbeats 8000000 in
theorem head_p {w : World} {E : ErA} (hp : PrA E w) (hT : Tb w) : Calls Tryz.prog 10 #[] w (BoolB true w) := by
  have kc := fun (w : World) (C : Array Value) (n c : Nat) => Lib.run_convert_bytes_const (P := Tryz.prog) w 26 5 C n c Tryz.underlying26 Tryz.underlying5
  have HP := Lib.hid hp; have HTb := Lib.hid hT
  have HPt := Lib.hid (put_p rr0 _ w (rt_r0 w) fit0 hT)
  clear hp hT
  go_enter Tryz.func10, Tryz.ntmps10
  go_wp2_with fail
  refine HPt.out.mono ?_
  rintro e w1 ⟨l1, (⟨-, A0, n0, c0, rfl, hn0, hb0⟩ | ⟨hno, -⟩)⟩
  case inr => exact absurd ok0 hno
  rw [txt0] at hn0 hb0
  obtain rfl : n0 = 21 := hn0
  -- the second
  obtain ⟨w2, hw2⟩ : ∃ y, y = w1.alloc (.cells #[.int .u8 110, .int .u8 101, .int .u8 116, .int .u8 32, .int .u8 51, .int .u8 10, .int .u8 112, .int .u8 111, .int .u8 111, .int .u8 108, .int .u8 32, .int .u8 48, .int .u8 10, .int .u8 102, .int .u8 111, .int .u8 114, .int .u8 107, .int .u8 115, .int .u8 32, .int .u8 49, .int .u8 10, .int .u8 102, .int .u8 111, .int .u8 114, .int .u8 107, .int .u8 32, .int .u8 97, .int .u8 32, .int .u8 108, .int .u8 105, .int .u8 110, .int .u8 107, .int .u8 101, .int .u8 100, .int .u8 32, .int .u8 104, .int .u8 101, .int .u8 97, .int .u8 100, .int .u8 115, .int .u8 47, .int .u8 109, .int .u8 32, .int .u8 48, .int .u8 32, .int .u8 48, .int .u8 10] 5 (47, 48)) := ⟨_, rfl⟩
  have l2 : Below w1.heap.size w1 w2 := by rw [hw2]; exact below_new _ _
  have L2 := Lib.hid (l1.trans (l2.mono l1.size))
  have hb2 : Rb w2 (.slice (some ⟨w1.heap.size, 0, none⟩) 47 47) tx1 := by rw [hw2]; exact rb_new w1 tx1 _ rfl 47 rfl _
  have HG := Lib.hid (get_p (HP.out.below L2.out) tx1 (n := 47) (by decide) rfl hb2)
  have HB0 := Lib.hid (hb0.below l2 (Nat.le_refl _)); have HW2 := Lib.hid hw2
  clear hb0 hw2 l2 hb2 l1 HPt
  go_upto_region 2 with fail
  go_wp2_with fail
  rw [← HW2.out]
  clear HW2
  refine HG.out.mono ?_
  rintro e w3 ⟨v3, b3, rfl, l3, hq⟩
  rcases hq with ⟨r, hr, rfl, hrt⟩ | ⟨hr, -⟩
  case inr => rw [get1] at hr; cases hr
  obtain rfl : rr1 = r := Option.some.inj (get1.symm.trans hr)
  obtain ⟨A1, c1, A2, c2, hv3, hp3, hk3⟩ := hrt.parts
  obtain ⟨g, o, c2', hgo, -⟩ := hk3.pos (by decide)
  cases hgo
  obtain rfl := hv3
  have e1 : (rr1.pool.length) = 0 := rfl
  have e2 : (rr1.forks.length) = 1 := rfl
  have e3 : rr1.count = 3 := rfl
  rw [e1, e2, e3]
  replace hrt : RtR w3 (.agg #[.int .i64 3, .slice A1 0 c1, .slice (some ⟨g, o, none⟩) 1 c2]) rr1 := hrt
  have L3 := Lib.hid (L2.out.trans (l3.mono L2.out.size)); have HR3 := Lib.hid hrt; have HB3 := Lib.hid (HB0.out.below l3 (Nat.le_refl _))
  -- the third
  obtain ⟨w4, hw4⟩ : ∃ y, y = w3.alloc (.cells #[.int .i64 3, .slice A1 0 c1, .slice (some ⟨g, o, none⟩) 1 c2] 25) := ⟨_, rfl⟩
  have l4 : Below w3.heap.size w3 w4 := by rw [hw4]; exact below_new _ _
  have k4 : w4.heap[w3.heap.size]? = some (.cells #[.int .i64 3, .slice A1 0 c1, .slice (some ⟨g, o, none⟩) 1 c2] 25 (0, 0)) := by rw [hw4]; exact heap_alloc_new _ _
  obtain ⟨w5, hw5⟩ : ∃ y, y = w4.alloc (.cells #[.int .u8 110, .int .u8 101, .int .u8 116, .int .u8 32, .int .u8 51, .int .u8 10, .int .u8 112, .int .u8 111, .int .u8 111, .int .u8 108, .int .u8 32, .int .u8 48, .int .u8 10, .int .u8 102, .int .u8 111, .int .u8 114, .int .u8 107, .int .u8 115, .int .u8 32, .int .u8 49, .int .u8 10] 5 (21, 22)) := ⟨_, rfl⟩
  have l5 : Below w4.heap.size w4 w5 := by rw [hw5]; exact below_new _ _
  have l35 : Below w3.heap.size w3 w5 := l4.trans (l5.mono l4.size)
  have hb5 : Rb w5 (.slice (some ⟨w4.heap.size, 0, none⟩) 21 21) tx2 := by rw [hw5]; exact rb_new w4 tx2 _ rfl 21 rfl _
  have L5 := Lib.hid (L3.out.trans (l35.mono L3.out.size))
  have HG5 := Lib.hid (get_p (HP.out.below L5.out) tx2 (n := 21) (by decide) rfl hb5)
  have HR5 := Lib.hid (HR3.out.below l35 (Nat.le_refl _)); have HB5 := Lib.hid (HB3.out.below l35 (Nat.le_refl _)); have K5 := Lib.hid ((l5.block _ (lt_heap k4)).trans k4)
  have HW4 := Lib.hid hw4; have HW5 := Lib.hid hw5
  clear hr hrt hp3 hk3 l3 hw4 l4 k4 hw5 l5 l35 hb5 HG HB0 HR3 HB3 e1 e2 e3
  go_upto_region 3 with fail
  rw [← HW4.out]
  clear HW4
  go_wp2_with fail
  rw [← HW5.out]
  clear HW5
  refine HG5.out.mono ?_
  rintro e w6 ⟨v6, b6, rfl, l6, hq⟩
  rcases hq with ⟨r, hr, -⟩ | ⟨-, rfl, rfl⟩
  case inl => rw [get2] at hr; cases hr
  unfold rt0
  have hsz6 := l6.size
  obtain ⟨w7, hw7⟩ : ∃ y, y = w6.alloc (.cells #[.int .i64 0, .slice none 0 0, .slice none 0 0] 25) := ⟨_, rfl⟩
  have l7 : Below w6.heap.size w6 w7 := by rw [hw7]; exact below_new _ _
  obtain ⟨w8, hw8⟩ : ∃ y, y = w7.alloc (.cells #[.string ⟨#[97]⟩, .bool false, .string ⟨#[116, 97, 103, 115, 47, 109]⟩, .slice none 0 0, .slice none 0 0] 42) := ⟨_, rfl⟩
  have l8 : Below w7.heap.size w7 w8 := by rw [hw8]; exact below_new _ _
  have l58 : Below w5.heap.size w5 w8 := l6.trans ((l7.mono l6.size).trans (l8.mono (Nat.le_trans l6.size l7.size)))
  have hr8 : RtR w8 (.agg #[.int .i64 0, .slice none 0 0, .slice (some ⟨w7.heap.size, 0, none⟩) 1 1]) rr3 := by rw [hw8]; exact rt_r3 w7
  have L8 := Lib.hid (L5.out.trans (l58.mono L5.out.size)); have L58 := Lib.hid l58
  have HPt := Lib.hid (put_p rr3 _ w8 hr8 fit3 (Tb.below HTb.out L8.out))
  have HW7 := Lib.hid hw7; have HW8 := Lib.hid hw8
  clear l6 hw7 l7 hw8 l8 l58 hr8 HG5 hsz6
  go_upto_region 4 with fail
  rw [← HW7.out]
  clear HW7
  go_wp2_with fail
  rw [← HW8.out]
  clear HW8
  refine HPt.out.mono ?_
  rintro e w9 ⟨l9, (⟨hok, -⟩ | ⟨-, rfl⟩)⟩
  case inl => exact absurd hok no3
  have l59 : Below w5.heap.size w5 w9 := L58.out.trans (l9.mono L58.out.size)
  have L9 := Lib.hid (L8.out.trans (l9.mono L8.out.size))
  have hr9 := HR5.out.below l59 (Nat.le_refl _)
  have hb9 := HB5.out.below l59 (Nat.le_refl _)
  have k9 := (l59.block _ (lt_heap K5.out)).trans K5.out
  have hcv : (convert 26 9 (.slice A0 21 c0)).run Tryz.prog w9 = .ok (.string ⟨#[110, 101, 116, 32, 48, 10, 112, 111, 111, 108, 32, 48, 10, 102, 111, 114, 107, 115, 32, 48, 10]⟩) w9 := Nu.Rb.conv hb9
  obtain ⟨b, hbb⟩ : ∃ b, b = w3.heap.size := ⟨_, rfl⟩
  rw [← hbb] at k9
  have KX : Hid (∀ X, Below w9.heap.size w9 X → X.heap[b]? = some (.cells #[.int .i64 3, .slice A1 0 c1, .slice (some ⟨g, o, none⟩) 1 c2] 25 (0, 0))) := Lib.hid fun X h => (h.block _ (lt_heap k9)).trans k9
  have RX : Hid (∀ X, Below w9.heap.size w9 X → RtR X (.agg #[.int .i64 3, .slice A1 0 c1, .slice (some ⟨g, o, none⟩) 1 c2]) rr1) := Lib.hid fun X h => hr9.below h (Nat.le_refl _)
  have cl : w9.cell? ⟨g, o + 1, none⟩ = some (.bool true) := by
    obtain ⟨pv, fv, e, _, hf⟩ := hr9
    cases e
    obtain ⟨x, hx, _, h1, _⟩ := hf.at (k := 0) (f := ff1) rfl
    rw [hx.linked, show ff1.linked = true from rfl] at h1
    simpa using h1
  have y0 : w9.cell? ⟨b, 0, none⟩ = some (.int .i64 3) := (cell_of_row w9 b 0 _ _ _ k9).trans rfl
  have y1 : w9.cell? ⟨b, 1, none⟩ = some (.slice A1 0 c1) := (cell_of_row w9 b 1 _ _ _ k9).trans rfl
  have y2 : w9.cell? ⟨b, 2, none⟩ = some (.slice (some ⟨g, o, none⟩) 1 c2) := (cell_of_row w9 b 2 _ _ _ k9).trans rfl
  have HFa := Lib.hid (Find_p rr1 _ [97] w9 (RX.out w9 (Below.refl _ _)) (by decide))
  clear l9 l59 hr9 hb9 k9 HPt HR5 HB5 K5 L58 L8 L5 L3 L2
  go_upto_region 5 with fail
  rw [← hbb]
  clear hbb
  go_wp2_with fail
  refine HFa.out.mono ?_
  rintro e w10 ⟨rfl, l10⟩
  rw [show findF rr1.forks [97] = 0 from by decide]
  have u0 := cellL y0 l10; have u1 := cellL y1 l10; have u2 := cellL y2 l10
  have L10 := Lib.hid l10
  have HFb := Lib.hid (Find_p rr1 _ [98] w10 (RX.out w10 l10) (by decide))
  clear l10 HFa y0 y1 y2 cl hcv
  go_wp2_with fail
  refine HFb.out.mono ?_
  rintro e w11 ⟨rfl, l11⟩
  rw [show findF rr1.forks [98] = -1 from by decide]
  have v0 := cellL u0 l11; have v1 := cellL u1 l11; have v2 := cellL u2 l11
  have L11 := Lib.hid (L10.out.trans (l11.mono L10.out.size))
  have HN1 : Hid (Calls Tryz.prog 19 #[.string ⟨#[97, 45, 49]⟩] w11 fun e w' => e = .returned (.bool true) ∧ w11 = w') := Lib.hid (forkNamed_any [97, 45, 49] w11 (by decide))
  have HN2 : Hid (Calls Tryz.prog 19 #[.string ⟨#[]⟩] w11 fun e w' => e = .returned (.bool false) ∧ w11 = w') := Lib.hid (forkNamed_any [] w11 (by decide))
  have HRi := Lib.hid (Right_p rr1 _ w11 (RX.out w11 L11.out) fit1)
  rw [rtB_iff.2 ok1] at HRi
  clear l11 HFb u0 u1 u2
  go_wp2_with fail
  refine HN1.out.mono ?_
  rintro e w12 ⟨rfl, rfl⟩
  go_wp2_with fail
  refine HN2.out.mono ?_
  rintro e w12 ⟨rfl, rfl⟩
  go_wp2_with fail
  refine HRi.out.mono ?_
  rintro e w12 ⟨rfl, l12⟩
  have L12 := Lib.hid (L9.out.trans ((L11.out.mono L9.out.size).trans (l12.mono (Nat.le_trans L9.out.size L11.out.size))))
  clear l12 HRi
  go_wp2_with fail
  go_ret
  exact ⟨rfl, L12.out⟩
end Go.Proofs.YtnboagmibhllpaaGreatDoor.Ro


namespace Go.Proofs.YtnboagmibhllpaaGreatDoor.Rf
open Go.Proofs.YtnboagmibhllpaaGreatDoor
theorem nameB_parts {s : Bs} (h : nameB s = true) : s.length ≤ 80 ∧ ∃ p r, parts s = p :: r ∧ 1 ≤ r.length ∧ r.length ≤ 3 ∧ firstB p = true ∧ r.all partB = true := by
  unfold nameB at h
  simp only [Bool.and_eq_true, decide_eq_true_eq] at h
  obtain ⟨⟨⟨h1, h2, h3⟩, h4⟩, h5⟩ := h
  cases hp : parts s with
  | nil => exact absurd hp (parts_ne s)
  | cons p r =>
    rw [hp] at h2 h3 h4 h5
    simp only [List.length_cons] at h2 h3
    exact ⟨h1, p, r, rfl, by omega, by omega, h4, h5⟩
end Go.Proofs.YtnboagmibhllpaaGreatDoor.Rf


namespace Go.Proofs.YtnboagmibhllpaaGreatDoor.Ro
open Go.Proofs.YtnboagmibhllpaaGreatDoor
open Go.Proofs.YtnboagmibhllpaaGreatDoor.Rf (BoolB)
open Go Go.RowKit

theorem rb_1 (w : World) (c : UInt8) : Rb (w.alloc (.cells #[.int .u8 (c.toNat : Int)] 5)) (.slice (some ⟨w.heap.size, 0, none⟩) 1 1) [c] := rb_new w [c] _ rfl 1 rfl _
theorem letter_waysO (c : UInt8) (z : Int) (hz : z = (c.toNat : Int)) : ((z = 45 ∨ (97 ≤ z ∧ z ≤ 122) ∨ (48 ≤ z ∧ z ≤ 57)) ↔ nmByte c = true) := by
  have e : ∀ n : Nat, n < 256 → ((c == UInt8.ofNat n) = true ↔ z = (n : Int)) := fun n hn => by
    rw [← Rf.u8_beq c n hn, beq_iff_eq, hz]
  have e1 : (c == 45) = true ↔ z = 45 := e 45 (by decide)
  have d1 : (97 : UInt8) ≤ c ↔ 97 ≤ z := by rw [UInt8.le_iff_toNat_le, hz]; simp; omega
  have d2 : c ≤ (122 : UInt8) ↔ z ≤ 122 := by rw [UInt8.le_iff_toNat_le, hz]; simp; omega
  have d3 : (48 : UInt8) ≤ c ↔ 48 ≤ z := by rw [UInt8.le_iff_toNat_le, hz]; simp; omega
  have d4 : c ≤ (57 : UInt8) ↔ z ≤ 57 := by rw [UInt8.le_iff_toNat_le, hz]; simp; omega
  unfold nmByte
  simp only [Bool.or_eq_true, Bool.and_eq_true, decide_eq_true_eq, e1, d1, d2, d3, d4]
  constructor
  · rintro (h | h | h)
    · exact .inr h
    · exact .inl (.inl h)
    · exact .inl (.inr h)
  · rintro ((h | h) | h)
    · exact .inr (.inl h)
    · exact .inr (.inr h)
    · exact .inl h
def ffN (s : Bs) : Fk := ⟨s, false, [104, 101, 97, 100, 115, 47, 97], [], []⟩
def rrN (s : Bs) : Rt := ⟨0, [], [ffN s]⟩
theorem rt_rN (w : World) (s : Bs) : RtR (w.alloc (.cells #[.string ⟨s.toArray⟩, .bool false, .string ⟨#[104, 101, 97, 100, 115, 47, 97]⟩, .slice none 0 0, .slice none 0 0] 42)) (.agg #[.int .i64 0, .slice none 0 0, .slice (some ⟨w.heap.size, 0, none⟩) 1 1]) (rrN s) :=
  ⟨_, _, rfl, .inl ⟨⟨_, _, rfl⟩, rfl⟩, ⟨[⟨s, false, [104, 101, 97, 100, 115, 47, 97], .slice none 0 0, .slice none 0 0⟩], Rf.row_new fkC_len w _ _ _ rfl 1 rfl, rfl, fun k x f hx hf => by
    match k, hx, hf with
    | 0, hx, hf =>
      cases hx; cases hf
      exact ⟨rfl, rfl, rfl, .inl ⟨⟨_, _, rfl⟩, rfl⟩, .inl ⟨⟨_, _, rfl⟩, rfl⟩⟩⟩⟩
theorem fitN {s : Bs} (h : s.length ≤ 1000) : FitR (rrN s) := ⟨(fun _ h => by cases h), Nat.zero_le _, (fun f hf => by
  rw [List.mem_singleton.1 hf]
  exact ⟨by show s.length ≤ maxLen; unfold maxLen; omega, by show 7 ≤ maxLen; decide, (fun _ h => by cases h), Nat.zero_le _, (fun _ h => by cases h), Nat.zero_le _⟩), by simp [rrN], by show (-9223372036854775808 : Int) ≤ 0; decide, by show (0 : Int) ≤ 9223372036854775807; decide⟩
theorem rtN (s : Bs) : rtB (rrN s) = forkB s := by
  cases h : forkB s with
  | true => exact rtB_iff.2 ⟨by show (0 : Int) ≤ 0; decide, by show (0 : Int) ≤ 1099511627776; decide, PacksOk.nil, by simp [rrN], ⟨fun f hf => by
      rw [List.mem_singleton.1 hf]
      exact ⟨h, by show headB [104, 101, 97, 100, 115, 47, 97] = true; decide, right_nil, PacksOk.nil⟩, List.pairwise_singleton _ _⟩⟩
  | false =>
    refine rtB_no fun k => ?_
    have := (k.forks.each (ffN s) (List.mem_singleton.2 rfl)).name
    rw [show (ffN s).name = s from rfl, h] at this
    cases this
theorem forkB_snoc (s : Bs) (c : UInt8) (h : 0 < s.length) : forkB (s ++ [c]) = (forkB s && nmByte c && decide (s.length < 20)) := by
  unfold forkB
  rw [List.length_append, List.length_singleton, List.all_append]
  simp only [List.all_cons, List.all_nil, Bool.and_true]
  rw [Bool.eq_iff_iff]
  simp only [Bool.and_eq_true, decide_eq_true_eq]
  constructor
  · rintro ⟨⟨h1, h2⟩, h3, h4⟩; exact ⟨⟨⟨⟨by omega, by omega⟩, h3⟩, h4⟩, by omega⟩
  · rintro ⟨⟨⟨⟨h1, h2⟩, h3⟩, h4⟩, h5⟩; exact ⟨⟨by omega, by omega⟩, h3, h4⟩
theorem forkB_le {s : Bs} (h : forkB s = true) : 1 ≤ s.length ∧ s.length ≤ 20 := by
  unfold forkB at h
  simp only [Bool.and_eq_true, decide_eq_true_eq] at h
  exact h.1
set_option maxRecDepth 100000 in
set_option maxHeartbeats 8000000 in
theorem Names_law {w : World} {E : ErA} (hp : PrA E w) (hT : Tb w) (s : Bs) (hs : s.length ≤ maxLen) (c : UInt8) : Calls Tryz.prog 9 #[SV s, .int .u8 (c.toNat : Int)] w (BoolB true w) := by
  unfold maxLen at hs
  unfold SV
  have HH := Lib.hid (head_p hp hT)
  clear hp hT
  by_cases h3 : s.length ≤ 1000
  case neg =>
    have hI : (1000 : Int) < (s.length : Int) := by omega
    clear h3
    go_enter Tryz.func9, Tryz.ntmps9
    go_wp2_with fail
    refine HH.out.mono ?_
    rintro e w1 ⟨rfl, hb⟩
    have HB := Lib.hid hb
    clear hb
    go_wp2_with fail
    go_ret
    exact ⟨rfl, HB.out⟩
  have hI : ¬ (1000 : Int) < (s.length : Int) := by omega
  obtain ⟨b, hbn⟩ : ∃ b, b = forkB s := ⟨_, rfl⟩
  have HN := fun W => Lib.hid (forkNamed_any s W (by unfold maxLen; omega))
  rw [← hbn] at HN
  unfold SV at HN
  obtain ⟨t4, ht4⟩ : ∃ t : ByteArray, t = ⟨(s ++ [c]).toArray⟩ := ⟨_, rfl⟩
  have r4 := cat_run s [c] t4 ht4 (by omega) (by simp)
  obtain ⟨b4, hb4⟩ : ∃ b4, b4 = forkB (s ++ [c]) := ⟨_, rfl⟩
  have N4 : ∀ W, Hid (Calls Tryz.prog 19 #[.string t4] W fun e w' => e = .returned (.bool b4) ∧ W = w') := fun W => Lib.hid (by rw [ht4, hb4]; exact forkNamed_any _ W (by unfold maxLen; simp; omega))
  have HCv : ∀ W : World, (convert 26 9 (.slice (some ⟨W.heap.size, 0, none⟩) 1 1)).run Tryz.prog (W.alloc (.cells #[.int .u8 (c.toNat : Int)] 5)) = .ok (.string ⟨[c].toArray⟩) (W.alloc (.cells #[.int .u8 (c.toNat : Int)] 5)) := fun W => Nu.Rb.conv (rb_1 W c)
  obtain ⟨z, hz⟩ : ∃ z : Int, z = (c.toNat : Int) := ⟨_, rfl⟩
  obtain ⟨L, hL⟩ : ∃ L, L = nmByte c := ⟨_, rfl⟩
  have HLw := Lib.hid (letter_waysO c z hz)
  rw [← hL] at HLw
  have HRi : Hid (∀ W : World, Calls Tryz.prog 16 #[.agg #[.int .i64 0, .slice none 0 0, .slice (some ⟨W.heap.size, 0, none⟩) 1 1]] (W.alloc (.cells #[.string ⟨s.toArray⟩, .bool false, .string ⟨#[104, 101, 97, 100, 115, 47, 97]⟩, .slice none 0 0, .slice none 0 0] 42)) (BoolB b (W.alloc (.cells #[.string ⟨s.toArray⟩, .bool false, .string ⟨#[104, 101, 97, 100, 115, 47, 97]⟩, .slice none 0 0, .slice none 0 0] 42)))) := Lib.hid fun W => by
    rw [hbn, ← rtN s]
    exact Right_p (rrN s) _ _ (rt_rN W s) (fitN h3)
  have HFin : Hid (b = true → 1 ≤ s.length ∧ s.length ≤ 20) := Lib.hid fun h => forkB_le (hbn ▸ h)
  have HMore : Hid (0 < s.length → b4 = (b && L && decide (s.length < 20))) := Lib.hid fun h => by rw [hb4, hbn, hL]; exact forkB_snoc s c h
  rw [← hz] at HCv ⊢
  clear ht4 hbn hb4 hz h3 hL
  go_enter Tryz.func9, Tryz.ntmps9
  go_wp2_with fail
  refine HH.out.mono ?_
  rintro e w1 ⟨rfl, hb⟩
  have L1 := Lib.hid hb
  clear hb
  go_wp2_with fail
  refine (HN _).out.mono ?_
  rintro e w2 ⟨rfl, rfl⟩
  go_wp2_with fail
  refine (N4 _).out.mono ?_
  rintro e w3 ⟨rfl, hw3⟩
  have L3 : Hid (Below w.heap.size w w3) := Lib.hid (by rw [← hw3]; exact L1.out.trans ((below_new _ _).mono L1.out.size))
  clear hw3 N4 HN r4 HCv HH L1
  go_upto_region 6 with fail
  go_cut [8] from 23 to 40 (fun v9 wx => v9 = .bool L ∧ w3 = wx)
  case first =>
    have hways : z < 45 ∨ z = 45 ∨ (45 < z ∧ z < 48) ∨ (48 ≤ z ∧ z ≤ 57) ∨ (57 < z ∧ z < 97) ∨ (97 ≤ z ∧ z ≤ 122) ∨ 122 < z := by omega
    rcases hways with hw | hw | hw | hw | hw | hw | hw
    · have HL : Hid (L = false) := Lib.hid (Bool.eq_false_iff.2 fun h => by have := HLw.out.2 h; omega)
      have k1 : (z == 45) = false := by simp; omega
      have i1 : ¬ 97 ≤ z := by omega
      have i2 : z ≤ 122 := by omega
      have i3 : ¬ 48 ≤ z := by omega
      have i4 : z ≤ 57 := by omega
      clear hw
      go_wp2
      go_meet
      case rel => exact ⟨by rw [HL.out], rfl⟩
    · have HL : Hid (L = true) := Lib.hid (HLw.out.1 (by omega))
      have k1 : (z == 45) = true := by simp; omega
      have i1 : ¬ 97 ≤ z := by omega
      have i2 : z ≤ 122 := by omega
      have i3 : ¬ 48 ≤ z := by omega
      have i4 : z ≤ 57 := by omega
      clear hw
      go_wp2
      go_meet
      case rel => exact ⟨by rw [HL.out], rfl⟩
    · have HL : Hid (L = false) := Lib.hid (Bool.eq_false_iff.2 fun h => by have := HLw.out.2 h; omega)
      have k1 : (z == 45) = false := by simp; omega
      have i1 : ¬ 97 ≤ z := by omega
      have i2 : z ≤ 122 := by omega
      have i3 : ¬ 48 ≤ z := by omega
      have i4 : z ≤ 57 := by omega
      clear hw
      go_wp2
      go_meet
      case rel => exact ⟨by rw [HL.out], rfl⟩
    · have HL : Hid (L = true) := Lib.hid (HLw.out.1 (by omega))
      have k1 : (z == 45) = false := by simp; omega
      have i1 : ¬ 97 ≤ z := by omega
      have i2 : z ≤ 122 := by omega
      have i3 : 48 ≤ z := by omega
      have i4 : z ≤ 57 := by omega
      clear hw
      go_wp2
      go_meet
      case rel => exact ⟨by rw [HL.out], rfl⟩
    · have HL : Hid (L = false) := Lib.hid (Bool.eq_false_iff.2 fun h => by have := HLw.out.2 h; omega)
      have k1 : (z == 45) = false := by simp; omega
      have i1 : ¬ 97 ≤ z := by omega
      have i2 : z ≤ 122 := by omega
      have i3 : 48 ≤ z := by omega
      have i4 : ¬ z ≤ 57 := by omega
      clear hw
      go_wp2
      go_meet
      case rel => exact ⟨by rw [HL.out], rfl⟩
    · have HL : Hid (L = true) := Lib.hid (HLw.out.1 (by omega))
      have k1 : (z == 45) = false := by simp; omega
      have i1 : 97 ≤ z := by omega
      have i2 : z ≤ 122 := by omega
      have i3 : 48 ≤ z := by omega
      have i4 : ¬ z ≤ 57 := by omega
      clear hw
      go_wp2
      go_meet
      case rel => exact ⟨by rw [HL.out], rfl⟩
    · have HL : Hid (L = false) := Lib.hid (Bool.eq_false_iff.2 fun h => by have := HLw.out.2 h; omega)
      have k1 : (z == 45) = false := by simp; omega
      have i1 : 97 ≤ z := by omega
      have i2 : ¬ z ≤ 122 := by omega
      have i3 : 48 ≤ z := by omega
      have i4 : ¬ z ≤ 57 := by omega
      clear hw
      go_wp2
      go_meet
      case rel => exact ⟨by rw [HL.out], rfl⟩
  case rest =>
    obtain ⟨rfl, hzz⟩ := hcut
    subst hzz
    go_wp2_with fail
    refine (HRi.out _).mono ?_
    rintro e w4 ⟨rfl, l4⟩
    have L4 : Hid (Below w.heap.size w w4) := Lib.hid ((L3.out.trans ((below_new _ _).mono L3.out.size)).trans (l4.mono (Nat.le_trans L3.out.size (below_new _ _).size)))
    clear l4 HRi L3 HLw
    rcases Nat.eq_zero_or_pos s.length with h0 | h0
    · have he : s = [] := List.length_eq_zero_iff.1 h0
      subst he
      cases b with
      | true => exact absurd (HFin.out rfl).1 (by simp)
      | false =>
        clear HFin HMore h0
        go_wp2_with fail
        go_ret
        exact ⟨rfl, L4.out⟩
    · have hm := HMore.out h0
      have hs1 : (s == []) = false := by cases s with | nil => simp at h0 | cons x y => rfl
      have hs2 : ¬ s = [] := fun h => by rw [h] at h0; simp at h0
      clear HMore h0
      subst hm
      by_cases h20 : s.length < 20
      · have i20 : (s.length : Int) < 20 := by omega
        have j20 : (s.length : Int) ≤ 20 := by omega
        rw [decide_eq_true h20]
        clear HFin h20
        cases b <;> cases L <;> (go_wp2_with fail; go_ret; exact ⟨(by first | rfl | exact ret_bool (by rw [i20d]; rfl)), L4.out⟩)
      · have i20 : ¬ (s.length : Int) < 20 := by omega
        rw [decide_eq_false h20]
        have i20d : decide ((s.length : Int) < 20) = false := decide_eq_false i20
        have i20e : (20 : Int) ≤ (s.length : Int) := by omega
        cases b with
        | true =>
          have j20 : (s.length : Int) ≤ 20 := by have := (HFin.out rfl).2; omega
          clear HFin h20
          cases L <;> (go_wp2_with fail; go_ret; exact ⟨(by first | rfl | exact ret_bool (by rw [i20d]; rfl)), L4.out⟩)
        | false =>
          clear HFin h20
          cases L <;> (go_wp2_with fail; go_ret; exact ⟨(by first | rfl | exact ret_bool (by rw [i20d]; rfl)), L4.out⟩)
end Go.Proofs.YtnboagmibhllpaaGreatDoor.Ro
