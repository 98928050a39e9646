/-
  Names of refs: parted at each slash; the whole.
-/
import Derived.Test.YtfnepffccenebaaGreatDoorRName
import Derived.Test.YtfnepffccenebaaGreatDoorCut
import Derived.Test.YtfnepffccenebaaGreatDoorLay
namespace Go.Proofs.YtfnepffccenebaaGreatDoor.Rf
open Go.Proofs.YtfnepffccenebaaGreatDoor
open Go Go.RowKit

theorem index_byte : ∀ s : Bs, Lib.index s [47] = Lib.indexByte s 47
  | [] => rfl
  | c :: s => by
    by_cases h : c = 47
    · subst h
      rw [index_eq]; unfold Lib.indexByte; simp
    · have hb : ¬ (c == 47) = true := by simpa using h
      rw [index_ne s c h, index_byte s]
      exact (if_neg hb).symm
set_option maxHeartbeats 400000 in
theorem sIndex_any (s : Bs) (w : World) : Calls Tryz.prog 77 #[.string ⟨s.toArray⟩, .string ⟨#[47]⟩] w fun e w' => e = .returned (.int .i64 (Lib.index s [47])) ∧ w' = w := by
  rw [index_byte]
  have H := Lib.hid (Index_any s 47 w)
  go_enter Tryz.func77, Tryz.ntmps77
  go_wp2_with fail
  refine H.out.mono ?_
  rintro e w' ⟨rfl, rfl⟩
  go_wp2_with fail
  go_ret
  exact ⟨rfl, rfl⟩
theorem pieces (s : Bs) : Lib.splitB ⟨#[47]⟩ 0 (s.count 47) ⟨s.toArray⟩ = (parts s).map fun p => (⟨p.toArray⟩ : ByteArray) := by
  have h := Lib.splitB_data ⟨#[47]⟩ 0 (s.count 47) ⟨s.toArray⟩
  have e : Lib.splitK [47] 0 (s.count 47) s = parts s := splitK_parts _ s rfl
  have h' : (Lib.splitB ⟨#[47]⟩ 0 (s.count 47) ⟨s.toArray⟩).map (·.data.toList) = parts s := h.trans e
  rw [← h', List.map_map]
  exact (List.map_id _).symm.trans (List.map_congr_left fun x _ => rfl)
set_option maxHeartbeats 1000000 in
theorem split_any (s : Bs) (hs : s.length ≤ 1000) (w : World) :
    Calls Tryz.prog 38 #[.string ⟨s.toArray⟩, .string ⟨#[47]⟩] w fun e w' => e = .returned (.slice (some ⟨w.heap.size, 0, none⟩) (parts s).length (parts s).length) ∧ w' = w.alloc (.cells ((parts s).map SV).toArray 9) := by
  have hcB : Lib.countB (⟨s.toArray⟩ : ByteArray) ⟨#[47]⟩ = s.count 47 := Lib.count_one 47 s
  have hC := Any.strings_Count_one { Tryz.splA with } ⟨s.toArray⟩ 47 w
  have hle : s.count 47 ≤ s.length := List.count_le_length
  have h := Any.strings_genSplit_core { Tryz.splA with } (by kernel_rfl) ⟨s.toArray⟩ ⟨#[47]⟩ 0 (-1) (s.count 47 + 1) w (by show s.length < _; omega) (by decide) (by decide)
    (fun x c _ => by
      have hx := sIndex_any x.data.toList (w.alloc (.cells c 9))
      exact hx)
    (by rw [hcB]; exact hC) (by decide) (by decide) (by rw [if_pos (by decide), hcB]; show _ = min _ ((s.length : Int) + 1); omega)
  rw [Nat.add_sub_cancel, pieces] at h
  have e1 : ((parts s).map fun p => (⟨p.toArray⟩ : ByteArray)).length = (parts s).length := by simp
  have e2 : s.count 47 + 1 = ((parts s).map fun p => (⟨p.toArray⟩ : ByteArray)).length := by rw [e1, parts_len]
  rw [e2, Lib.cellsOf_full, e1, List.map_map] at h
  have H := Lib.hid h
  clear h hC hcB e1 e2 hle
  go_enter Tryz.func38, Tryz.ntmps38
  go_wp2_with fail
  refine H.out.mono ?_
  rintro e w' ⟨rfl, hw⟩
  have HW := Lib.hid hw
  clear hw
  go_wp2_with fail
  go_ret
  exact ⟨rfl, HW.out⟩

theorem name_parts {s : Bs} {n : Nat} {p : Bs} {r : List Bs} (hl : s.length ≤ 80) (hp : parts s = p :: r) (hn : n = r.length + 1) (h2 : 2 ≤ n) (h4 : n ≤ 4) (hf : firstB p = true) : nameB s = r.all partB := by
  unfold nameB
  rw [hp, decide_eq_true hl, List.length_cons, decide_eq_true (by omega), decide_eq_true (by omega)]
  show ((true && (true && true)) && firstB p && r.all partB) = _
  rw [hf]; rfl
theorem name_long {s : Bs} (hl : ¬ s.length ≤ 80) : nameB s = false := by unfold nameB; rw [decide_eq_false hl]; simp
theorem name_few {s : Bs} (h : ¬ 2 ≤ (parts s).length) : nameB s = false := by unfold nameB; rw [decide_eq_false h]; simp
theorem name_many {s : Bs} (h : ¬ (parts s).length ≤ 4) : nameB s = false := by unfold nameB; rw [decide_eq_false h]; simp
theorem name_first {s : Bs} {p : Bs} {r : List Bs} (hp : parts s = p :: r) (hf : firstB p = false) : nameB s = false := by unfold nameB; rw [hp]; show (_ && firstB p && _) = false; rw [hf]; simp
theorem parts_le : ∀ (s : Bs), ∀ p ∈ parts s, p.length ≤ s.length
  | [], p, h => by simp [parts] at h; rw [h]; exact Nat.le_refl _
  | c :: s, p, h => by
    by_cases hc : c = 47
    · rw [hc, parts_slash] at h
      rcases List.mem_cons.1 h with rfl | h
      · exact Nat.zero_le _
      · exact Nat.le_succ_of_le (parts_le s p h)
    · cases hp : parts s with
      | nil => exact absurd hp (parts_ne s)
      | cons q r =>
        rw [parts_cons c hc s q r hp] at h
        have ih := parts_le s
        rw [hp] at ih
        rcases List.mem_cons.1 h with rfl | h
        · have := ih q List.mem_cons_self; simp; omega
        · exact Nat.le_succ_of_le (ih p (List.mem_cons_of_mem _ h))
theorem all_no {r : List Bs} {k : Nat} {x : Bs} (hx : r[k]? = some x) (h : partB x = false) : r.all partB = false := by
  rw [List.all_eq_false]; exact ⟨x, List.mem_of_getElem? hx, by simp [h]⟩
theorem all_step {r : List Bs} {k : Nat} {x : Bs} (hx : r[k]? = some x) (ih : (r.take k).all partB = true) (h : partB x = true) : (r.take (k + 1)).all partB = true := by
  rw [List.take_add_one, hx, Option.toList_some, List.all_append, ih]; simp [h]
/-- A bool, and new memory. -/
def BoolB (b : Bool) (w : World) (e : Ending) (w' : World) : Prop := e = .returned (.bool b) ∧ Below w.heap.size w w'
set_option maxRecDepth 100000 in
set_option maxHeartbeats 1000000 in
theorem Named_p (s : Bs) (w : World) (hl : s.length ≤ maxLen) : Calls Tryz.prog 15 #[SV s] w (BoolB (nameB s) w) := by
  unfold maxLen at hl
  unfold SV
  by_cases h80 : s.length ≤ 80
  case neg =>
    have HB := Lib.hid (name_long h80)
    have hI : 80 < (s.length : Int) := by omega
    clear h80
    go_enter Tryz.func15, Tryz.ntmps15
    go_wp2
    go_ret
    exact ⟨ret_bool HB.out.symm, Below.refl _ _⟩
  have hI : ¬ 80 < (s.length : Int) := by omega
  have HS := Lib.hid (split_any s (by omega) w)
  obtain ⟨p, r, hp⟩ : ∃ p r, parts s = p :: r := by
    cases h : parts s with
    | nil => exact absurd h (parts_ne s)
    | cons p r => exact ⟨p, r, rfl⟩
  obtain ⟨n, hn⟩ : ∃ n, n = r.length + 1 := ⟨_, rfl⟩
  have hle := parts_le s
  have hpn : (parts s).length = n := by rw [hp, hn]; rfl
  rw [hpn] at HS
  have hrd : StrsR (w.alloc (.cells ((parts s).map SV).toArray 9)) (.slice (some ⟨w.heap.size, 0, none⟩) n n) (p :: r) := by
    refine .inr ⟨w.heap.size, 0, n, by rw [hn]; rfl, by rw [hn]; exact Nat.le_refl _, by simp, fun j hj x hx i hi => ?_⟩
    have hi0 : i = 0 := by omega
    subst hi0
    have e : ((parts s).map SV)[j]? = some (SV x) := by rw [List.getElem?_map, hp, hx]; rfl
    have hj : 0 + j * 1 + 0 = j := by omega
    rw [hj]
    show (match (w.alloc (.cells ((parts s).map SV).toArray 9)).heap[w.heap.size]? with | some (.cells c _ _) => c[j]? | _ => none) = some (SV x)
    rw [heap_alloc_new w _]
    simpa using e
  have hb := below_new w (.cells ((parts s).map SV).toArray 9)
  obtain ⟨w1, hw1⟩ : ∃ w1, w1 = w.alloc (.cells ((parts s).map SV).toArray 9) := ⟨_, rfl⟩
  rw [← hw1] at hrd hb HS
  have c0 : w1.cell? ⟨w.heap.size, 0, none⟩ = some (SV p) := StrsR.cell hrd 0 (by simp)
  have ck : ∀ k x, r[k]? = some x → w1.cell? ⟨w.heap.size, 1 + k, none⟩ = some (SV x) := fun k x hx => by
    have hk : k < r.length := (List.getElem?_eq_some_iff.1 hx).1
    have h := StrsR.cell hrd (k + 1) (by simp; exact hk)
    rw [List.getD_eq_getElem?_getD, List.getElem?_cons_succ, hx] at h
    rw [Nat.zero_add] at h
    rw [Nat.add_comm 1 k]; exact h
  have HC := Lib.hid ck
  have HB := Lib.hid hb
  have H2 : Hid (¬ 2 ≤ n → nameB s = false) := Lib.hid fun h => name_few (by rw [hpn]; exact h)
  have H4 : Hid (¬ n ≤ 4 → nameB s = false) := Lib.hid fun h => name_many (by rw [hpn]; exact h)
  have HF : Hid (firstB p = false → nameB s = false) := Lib.hid fun h => name_first hp h
  have HA : Hid (2 ≤ n → n ≤ 4 → firstB p = true → nameB s = r.all partB) := Lib.hid fun a b c => name_parts h80 hp hn a b c
  have HN := Lib.hid hn
  have HL : Hid (∀ x ∈ p :: r, x.length ≤ 80) := Lib.hid fun x hx => Nat.le_trans (hle x (by rw [hp]; exact hx)) h80
  have hnb : n ≤ 1000 := by rw [← hpn, parts_len]; have : s.count 47 ≤ s.length := List.count_le_length; omega
  unfold SV at c0
  obtain ⟨b, hbn⟩ : ∃ b, b = nameB s := ⟨_, rfl⟩
  rw [← hbn] at H2 H4 HF HA ⊢
  clear hle hpn hrd hb hw1 ck hn hp hbn h80
  go_enter Tryz.func15, Tryz.ntmps15
  by_cases h2 : 2 ≤ n
  case neg =>
    have hI2 : (n : Int) < 2 := by omega
    have HR := Lib.hid (H2.out h2)
    clear h2 c0
    go_wp2_with fail
    refine HS.out.mono ?_
    rintro e w' ⟨rfl, rfl⟩
    go_wp2_with fail
    go_ret
    exact ⟨ret_bool HR.out.symm, HB.out⟩
  have hI2 : ¬ (n : Int) < 2 := by omega
  by_cases h4 : n ≤ 4
  case neg =>
    have hI4 : 4 < (n : Int) := by omega
    have HR := Lib.hid (H4.out h4)
    clear h2 h4 c0
    go_wp2_with fail
    refine HS.out.mono ?_
    rintro e w' ⟨rfl, rfl⟩
    go_wp2_with fail
    go_ret
    exact ⟨ret_bool HR.out.symm, HB.out⟩
  have hI4 : ¬ 4 < (n : Int) := by omega
  have hn0 : 0 < n := by omega
  have hF := isFirst_any p w1
  cases hf : firstB p with
  | false =>
    have HR := Lib.hid (HF.out hf)
    rw [hf] at hF
    have HF2 := Lib.hid hF
    clear hf hF
    go_wp2_with fail
    refine HS.out.mono ?_
    rintro e w' ⟨rfl, rfl⟩
    go_wp2_with fail
    refine HF2.out.mono ?_
    rintro e w' ⟨rfl, rfl⟩
    go_wp2_with fail
    go_ret
    exact ⟨ret_bool HR.out.symm, HB.out⟩
  | true =>
    have HR := Lib.hid (HA.out h2 h4 hf)
    rw [hf] at hF
    have HF2 := Lib.hid hF
    obtain ⟨m, hm⟩ : ∃ m, m = n - 1 := ⟨_, rfl⟩
    have s1 : (n : Int) - 1 = (m : Int) := by omega
    have hm0 : m ≤ 1000 := by omega
    have HM := Lib.hid hm
    clear hm
    clear hf hF
    go_wp2_with fail
    refine HS.out.mono ?_
    rintro e w' ⟨rfl, rfl⟩
    go_wp2_with fail
    refine HF2.out.mono ?_
    rintro e w' ⟨rfl, rfl⟩
    go_wp2_with fail
    have hck := HC.out
    clear c0 HS HF2 H2 H4 HF HA
    go_loop [5, 29] (fun _ i => ∃ k : Nat, k ≤ m ∧ i = .int .i64 k ∧ Hid ((r.take k).all partB = true)) (fun _ i => m - (intOf i).toNat)
    case atStart => exact ⟨0, Nat.zero_le _, rfl, Lib.hid (by simp)⟩
    case round =>
      obtain ⟨k, hk, rfl, hall⟩ := hrel
      by_cases hlt : k < m
      · obtain ⟨x, hx⟩ : ∃ x, r[k]? = some x := ⟨_, List.getElem?_eq_getElem (by have := HN.out; have := HM.out; omega)⟩
        have c1 := HC.out k x hx
        unfold SV at c1
        have hxl : x.length ≤ maxLen := by
          have := HL.out x (List.mem_cons_of_mem _ (List.mem_of_getElem? hx))
          unfold maxLen; omega
        have hP := isPart_any x w'
        cases hpx : partB x with
        | false =>
          rw [hpx] at hP
          have HP := Lib.hid (hP hxl)
          have HZ : Hid (b = false) := Lib.hid (by rw [HR.out]; exact all_no hx hpx)
          clear hpx hP hxl hall hx hck
          go_wp2_with fail
          refine HP.out.mono ?_
          rintro e w' ⟨rfl, rfl⟩
          go_wp2_with fail
          go_ret
          exact ⟨ret_bool HZ.out.symm, HB.out⟩
        | true =>
          rw [hpx] at hP
          have HP := Lib.hid (hP hxl)
          have HZ := Lib.hid (all_step hx hall.out hpx)
          clear hpx hP hxl hall hx hck
          go_wp2_with fail
          refine HP.out.mono ?_
          rintro e w' ⟨rfl, rfl⟩
          go_wp2_with fail
          go_round
          case rel => exact ⟨k + 1, by omega, by go_num, HZ⟩
          case measure => simp [intOf]; omega
      · have hkm : k = m := by omega
        have HZ : Hid (b = true) := Lib.hid (by rw [HR.out]; have h := hall.out; rw [hkm, List.take_of_length_le (by have := HN.out; have := HM.out; omega)] at h; exact h)
        clear hall hkm hck
        go_wp2_with fail
        go_ret
        exact ⟨ret_bool HZ.out.symm, HB.out⟩
end Go.Proofs.YtfnepffccenebaaGreatDoor.Rf
