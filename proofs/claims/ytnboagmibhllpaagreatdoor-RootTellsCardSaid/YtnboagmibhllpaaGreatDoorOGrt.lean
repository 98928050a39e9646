/-
  The laws of roots: is it too much?
-/
import Derived.Test.YtnboagmibhllpaaGreatDoorC20
import Derived.Test.YtnboagmibhllpaaGreatDoorOGrR
namespace Go.Proofs.YtnboagmibhllpaaGreatDoor.Ro
open Go.Proofs.YtnboagmibhllpaaGreatDoor
open Go.Proofs.YtnboagmibhllpaaGreatDoor.Rf (BoolB Ref RefsR Fit)
open Go Go.RowKit

def limW : Nat := 140737488355328
/-- No longer than what comes in may be. -/
structure BigF (f : Fk) : Prop where
  name : f.name.length ≤ maxLen
  head : f.head.length ≤ maxLen
  refs : Fit f.refs
  rlen : f.refs.length ≤ limW
  packs : FitS f.packs
  plen : f.packs.length ≤ limW
structure BigR (r : Rt) : Prop where
  pool : FitS r.pool
  plen : r.pool.length ≤ limW
  forks : ∀ f ∈ r.forks, BigF f
  flen : r.forks.length ≤ limW
  c0 : -9223372036854775808 ≤ r.count
  c1 : r.count ≤ 9223372036854775807
/-- Not too much. -/
structure SmallF (f : Fk) : Prop where
  name : f.name.length < 20000
  head : f.head.length < 20000
  plen : f.packs.length < 20000
  packs : ∀ x ∈ f.packs, x.length < 20000
  refs : Rf.SmallR f.refs
structure SmallO (r : Rt) : Prop where
  plen : r.pool.length < 20000
  pool : ∀ x ∈ r.pool, x.length < 20000
  flen : r.forks.length ≤ 40
  forks : ∀ f ∈ r.forks, SmallF f
theorem SmallO.fit {r : Rt} (h : SmallO r) (b : BigR r) : FitR r :=
  ⟨b.pool, by have := h.plen; omega, fun f hf => ⟨(b.forks f hf).name, (b.forks f hf).head, (b.forks f hf).refs, by have := (h.forks f hf).refs.1; omega, (b.forks f hf).packs, by have := (h.forks f hf).plen; omega⟩, by have := h.flen; omega, b.c0, b.c1⟩
def GreatO (r : Rt) (w : World) (e : Ending) (w' : World) : Prop := ∃ g, e = .returned (.bool g) ∧ Below w.heap.size w w' ∧ (g = false → SmallO r)
theorem take_all {α : Type} {l : List α} {k : Nat} {x : α} {p : α → Prop} (h : ∀ y ∈ l.take k, p y) (hx : l[k]? = some x) (hp : p x) : ∀ y ∈ l.take (k + 1), p y := fun y hy => by
  rw [List.take_add_one, hx, Option.toList_some] at hy
  rcases List.mem_append.1 hy with hy | hy
  · exact h y hy
  · rw [List.mem_singleton.1 hy]; exact hp
set_option maxHeartbeats 8000000 in
set_option maxRecDepth 100000 in
theorem OGreat_p {w : World} {v : Value} {r : Rt} (hv : RtR w v r) (hb : BigR r) : Calls Tryz.prog 11 #[v] w (GreatO r w) := by
  obtain ⟨A, c, B, d, rfl, hp, hk⟩ := hv.parts
  obtain ⟨n, hn⟩ : ∃ n, n = r.pool.length := ⟨_, rfl⟩
  obtain ⟨m, hm⟩ : ∃ m, m = r.forks.length := ⟨_, rfl⟩
  obtain ⟨z, hz⟩ : ∃ z, z = r.count := ⟨_, rfl⟩
  have hnl : n ≤ 140737488355328 := by rw [hn]; exact hb.plen
  have hml : m ≤ 140737488355328 := by rw [hm]; exact hb.flen
  rw [← hn] at hp
  rw [← hm] at hk
  rw [← hn, ← hm, ← hz]
  obtain ⟨wa, hwa⟩ : ∃ y, y = w.alloc (.cells #[.int .i64 z, .slice A n c, .slice B m d] 25) := ⟨_, rfl⟩
  have la : Below w.heap.size w wa := by rw [hwa]; exact below_new _ _
  have sa : w.heap.size < wa.heap.size := by rw [hwa]; simp
  have cA := fun (i : Nat) (u : Value) (hi : (#[.int .i64 z, .slice A n c, .slice B m d] : Array Value)[i]? = some u) => (show Hid (∀ W, Below wa.heap.size wa W → W.cell? ⟨w.heap.size, i, none⟩ = some u) from Lib.hid fun W h =>
    (h.cell (p := ⟨w.heap.size, i, none⟩) sa).trans (by rw [hwa, cell_of_row _ _ _ _ _ _ (heap_alloc_new w _)]; exact hi))
  have C1 := cA 1 _ rfl; have C2 := cA 2 _ rfl
  have HP := Lib.hid (RdK.below hp la (Nat.le_refl _)); have HK := Lib.hid (hk.below la (Nat.le_refl _))
  have LA := Lib.hid la; have HW := Lib.hid hwa; have HN := Lib.hid hn; have HM := Lib.hid hm; have HB := Lib.hid hb
  clear hp hk hn hm hz hwa la sa cA hb hv
  go_enter Tryz.func11, Tryz.ntmps11
  go_upto_region 1 with fail
  rw [← HW.out]
  clear HW
  have c1 := C1.out wa (Below.refl _ _); have c2 := C2.out wa (Below.refl _ _)
  go_wp2_with fail
  go_loopw [3, 4] (fun q i wr => Hid (Below wa.heap.size wa wr) ∧ ∃ k N : Nat, k ≤ n ∧ i = .int .i64 k ∧ q = .int .i64 (N : Int) ∧ N ≤ 1000000000000000 ∧ Hid (N < 20000 → n + m ≤ N ∧ ∀ x ∈ r.pool.take k, x.length < 20000)) (fun _ i _ => n - (intOf i).toNat)
  case atStart => exact ⟨Lib.hid (Below.refl _ _), 0, n + m, Nat.zero_le _, rfl, by go_num, by omega, Lib.hid fun _ => ⟨Nat.le_refl _, by simp⟩⟩
  case round =>
    obtain ⟨hB, k, N, hk, rfl, rfl, hN, hQ⟩ := hrel
    have x1 := C1.out wr hB.out; have x2 := C2.out wr hB.out
    clear c1 c2
    by_cases hlt : k < n
    case pos =>
      by_cases h2 : N < 20000
      case pos =>
        obtain ⟨g, o, c', e, _, hg⟩ := HP.out.pos (by have := HN.out; omega)
        obtain rfl : A = some ⟨g, o, none⟩ := by rw [← HN.out] at e; cases e; rfl
        clear e
        have hkl : k < r.pool.length := by have := HN.out; omega
        have p0 := StrsR.cell (RdK.below HP.out hB.out (Nat.le_refl _)) k hkl
        have hx : r.pool[k]? = some (r.pool.getD k []) := by rw [List.getD_eq_getElem?_getD, List.getElem?_eq_getElem hkl]; rfl
        obtain ⟨x, hxe⟩ : ∃ x, x = r.pool.getD k [] := ⟨_, rfl⟩
        rw [← hxe] at p0 hx
        unfold SV at p0
        have m1 : ((N : Int) + min (x.length : Int) 20000) = ((N + min x.length 20000 : Nat) : Int) := by omega
        have M1 := Lib.hid m1
        have HQ2 : Hid (N + min x.length 20000 < 20000 → n + m ≤ N + min x.length 20000 ∧ ∀ y ∈ r.pool.take (k + 1), y.length < 20000) := Lib.hid fun h => by
          obtain ⟨q1, q2⟩ := hQ.out h2
          exact ⟨by omega, take_all q2 hx (by omega)⟩
        have hN2 : Hid (N + min x.length 20000 ≤ 1000000000000000) := Lib.hid (by omega)
        clear hx hxe m1 hQ hkl hg
        go_wp2_with fail
        go_roundw
        case rel => exact ⟨hB, k + 1, N + min x.length 20000, hlt, by go_num, by rw [M1.out], hN2.out, HQ2⟩
        case measure => simp [intOf]; omega
      case neg =>
        have h2I : ¬ ((N : Int) < 20000) := by omega
        have HX : Hid (N < 20000 → n + m ≤ N ∧ ∀ x ∈ r.pool, x.length < 20000) := Lib.hid fun h => absurd h h2
        clear hQ h2
        go_wp2_with fail
        go_loopw [3, 5] (fun q i wr => Hid (Below wa.heap.size wa wr) ∧ ∃ k N2 : Nat, k ≤ m ∧ i = .int .i64 k ∧ q = .int .i64 (N2 : Int) ∧ N2 ≤ 1000000000000000 ∧ Hid (N2 < 20000 → n + m ≤ N2 ∧ (∀ x ∈ r.pool, x.length < 20000) ∧ ∀ x ∈ r.forks.take k, SmallF x)) (fun _ i _ => m - (intOf i).toNat)
        case atStart => exact ⟨hB, 0, N, Nat.zero_le _, rfl, rfl, hN, Lib.hid fun h => ⟨(HX.out h).1, (HX.out h).2, by simp⟩⟩
        case round =>
          obtain ⟨wo, hwo⟩ : ∃ wo, wo = wr := ⟨_, rfl⟩
          subst hwo
          obtain ⟨hB2, k, N2, hk2, rfl, rfl, hN2, hQ2⟩ := hrel
          have y2 := C2.out wo hB2.out
          by_cases hlt2 : k < m
          case neg =>
            have hkm : k = m := by omega
            have HL := Lib.hid (LA.out.trans (hB2.out.mono LA.out.size))
            have HX2 : Hid (N2 < 20000 → m ≤ 40 → SmallO r) := Lib.hid fun h h40 => by
              obtain ⟨q1, q2, q3⟩ := hQ2.out h
              rw [hkm, HM.out, List.take_length] at q3
              have hn := HN.out; have hm := HM.out
              exact ⟨by omega, q2, by omega, q3⟩
            clear hkm hQ2
            by_cases h2 : N2 < 20000
            · have h2I : ¬ (20000 : Int) ≤ (N2 : Int) := by omega
              by_cases h40 : m ≤ 40
              · have h40I : ¬ (40 : Int) < (m : Int) := by omega
                have HS := Lib.hid (HX2.out h2 h40)
                clear HX2 h2 h40
                go_wp2_with fail
                go_ret
                exact ⟨false, by simp, HL.out, fun _ => HS.out⟩
              · have h40I : (40 : Int) < (m : Int) := by omega
                clear HX2 h2 h40
                go_wp2_with fail
                go_ret
                exact ⟨true, by simp, HL.out, fun h => by cases h⟩
            · have h2I : (20000 : Int) ≤ (N2 : Int) := by omega
              clear HX2 h2
              go_wp2_with fail
              go_ret
              exact ⟨true, by simp, HL.out, fun h => by cases h⟩
          by_cases h2 : N2 < 20000
          case neg =>
            have HL := Lib.hid (LA.out.trans (hB2.out.mono LA.out.size))
            have h2I : (20000 : Int) ≤ (N2 : Int) := by omega
            have h2J : ¬ (N2 : Int) < 20000 := by omega
            clear hQ2 h2
            go_wp2_with fail
            go_ret
            exact ⟨true, by simp, HL.out, fun h => by cases h⟩
          obtain ⟨g, o, c', e, _, hg⟩ := HK.out.pos (by have := HM.out; omega)
          obtain rfl : B = some ⟨g, o, none⟩ := by rw [← HM.out] at e; cases e; rfl
          clear e
          obtain ⟨f, hf⟩ : ∃ f, r.forks[k]? = some f := ⟨_, List.getElem?_eq_getElem (by have := HM.out; omega)⟩
          have hbf := HB.out.forks f (List.mem_of_getElem? hf)
          obtain ⟨x, hx, d0, d1, d2, d3, d4⟩ := (HK.out.below hB2.out (Nat.le_refl _)).at hf
          obtain ⟨wB, hwB⟩ : ∃ y, y = wo.alloc (.cells (fkC x).toArray 42) := ⟨_, rfl⟩
          have lB : Below wo.heap.size wo wB := by rw [hwB]; exact below_new _ _
          have sB : wo.heap.size < wB.heap.size := by rw [hwB]; simp
          have dl := fun (i : Nat) (u : Value) (hi : (fkC x)[i]? = some u) => (show Hid (∀ W, Below wB.heap.size wB W → W.cell? ⟨wo.heap.size, i, none⟩ = some u) from Lib.hid fun W h =>
            (h.cell (p := ⟨wo.heap.size, i, none⟩) sB).trans (by rw [hwB, cell_of_row _ _ _ _ _ _ (heap_alloc_new wo _)]; simpa using hi))
          have P0 := dl 0 _ rfl; have P2 := dl 2 _ rfl; have P3 := dl 3 _ rfl; have P4 := dl 4 _ rfl
          have hxB := hx.below lB (Nat.le_refl _)
          have HRf := Lib.hid hxB.refs; have HPk := Lib.hid hxB.packs
          have hrl : Hid (f.refs.length ≤ Rf.lim) := Lib.hid hbf.rlen
          obtain ⟨Ar, cr, er⟩ := RdK.shape hx.refs
          obtain ⟨Ap, cp, ep⟩ := RdK.shape hx.packs
          obtain ⟨nr, hnr⟩ : ∃ n, n = f.refs.length := ⟨_, rfl⟩
          obtain ⟨np, hnp⟩ : ∃ n, n = f.packs.length := ⟨_, rfl⟩
          have hnpl : np ≤ 140737488355328 := by rw [hnp]; exact hbf.plen
          rw [← hnr] at er
          rw [← hnp] at ep
          have hn1 : x.name.length = f.name.length := by rw [hx.name]
          have hn2 : x.head.length = f.head.length := by rw [hx.head]
          obtain ⟨N1, hN1d⟩ : ∃ N1, N1 = N2 + 1 + min x.name.length 20000 + min x.head.length 20000 + np := ⟨_, rfl⟩
          have M1 : Hid (((N2 : Int) + 1 + min (x.name.length : Int) 20000 + min (x.head.length : Int) 20000 + (np : Int)) = (N1 : Int)) := Lib.hid (by omega)
          have hN1 : N1 ≤ 1000000000000000 := by omega
          have HQ1 : Hid (N1 < 20000 → f.name.length < 20000 ∧ f.head.length < 20000 ∧ f.packs.length < 20000 ∧ (∀ x ∈ r.pool, x.length < 20000) ∧ ∀ x ∈ r.forks.take k, SmallF x) := Lib.hid fun h => by
            obtain ⟨q1, q2, q3⟩ := hQ2.out h2
            exact ⟨by omega, by omega, by omega, q2, q3⟩
          have HQn : Hid (n + m ≤ N1) := Lib.hid (by have := (hQ2.out h2).1; omega)
          have HF := Lib.hid hf; have HNP := Lib.hid hnp
          have LB : Hid (Below wa.heap.size wa wB) := Lib.hid (hB2.out.trans (lB.mono hB2.out.size))
          have HWB := Lib.hid hwB
          have h2K : (N2 : Int) < 20000 := by omega
          clear hf hx hbf lB sB dl hxB hnr hnp hN1d hn1 hn2 hwB hB2 hQ2 hg hN2 h2
          obtain ⟨nm, lk, hd, rv, pv⟩ := x
          simp only at er ep
          subst er; subst ep
          unfold fkC at HWB
          simp only [SV, List.toArray] at d0 d1 d2 d3 d4 HRf HPk HWB P0 P2 P3 P4 M1
          go_upto_region 10 with fail
          rw [← HWB.out]
          have z0 := P0.out wB (Below.refl _ _); have z2 := P2.out wB (Below.refl _ _); have zz := P4.out wB (Below.refl _ _)
          clear HWB d0 d1 d2 d3 d4 y2
          go_wp2_with fail
          go_loopw [3, 7] (fun q i wr => Hid (Below wB.heap.size wB wr) ∧ ∃ j N3 : Nat, j ≤ np ∧ i = .int .i64 j ∧ q = .int .i64 (N3 : Int) ∧ N3 ≤ 1000000000000000 ∧ Hid (N3 < 20000 → N1 ≤ N3 ∧ ∀ x ∈ f.packs.take j, x.length < 20000)) (fun _ i _ => np - (intOf i).toNat)
          case atStart => exact ⟨Lib.hid (Below.refl _ _), 0, N1, Nat.zero_le _, rfl, by rw [M1.out], hN1, Lib.hid fun _ => ⟨Nat.le_refl _, by simp⟩⟩
          case round =>
            obtain ⟨hB3, j, N3, hj, rfl, rfl, hN3, hQ3⟩ := hrel
            have z4 := P4.out wr hB3.out
            by_cases hlt3 : j < np
            case pos =>
              by_cases h3 : N3 < 20000
              case pos =>
                obtain ⟨g3, o3, c3, e, _, hg3⟩ := HPk.out.pos (by have := HNP.out; omega)
                obtain rfl : Ap = some ⟨g3, o3, none⟩ := by rw [← HNP.out] at e; cases e; rfl
                clear e
                have hjl : j < f.packs.length := by have := HNP.out; omega
                have p0 := StrsR.cell (RdK.below HPk.out hB3.out (Nat.le_refl _)) j hjl
                have hx : f.packs[j]? = some (f.packs.getD j []) := by rw [List.getD_eq_getElem?_getD, List.getElem?_eq_getElem hjl]; rfl
                obtain ⟨x, hxe⟩ : ∃ x, x = f.packs.getD j [] := ⟨_, rfl⟩
                rw [← hxe] at p0 hx
                unfold SV at p0
                have m4 : ((N3 : Int) + min (x.length : Int) 20000) = ((N3 + min x.length 20000 : Nat) : Int) := by omega
                have M4 := Lib.hid m4
                have HQ4 : Hid (N3 + min x.length 20000 < 20000 → N1 ≤ N3 + min x.length 20000 ∧ ∀ y ∈ f.packs.take (j + 1), y.length < 20000) := Lib.hid fun h => by
                  obtain ⟨q1, q2⟩ := hQ3.out h3
                  exact ⟨by omega, take_all q2 hx (by omega)⟩
                have hN4 : Hid (N3 + min x.length 20000 ≤ 1000000000000000) := Lib.hid (by omega)
                clear hx hxe m4 hQ3 hjl hg3
                go_wp2_with fail
                go_roundw
                case rel => exact ⟨hB3, j + 1, N3 + min x.length 20000, hlt3, by go_num, by rw [M4.out], hN4.out, HQ4⟩
                case measure => simp [intOf]; omega
              case neg =>
                have h3I : ¬ ((N3 : Int) < 20000) := by omega
                have HX3 : Hid (N3 < 20000 → N1 ≤ N3 ∧ ∀ x ∈ f.packs, x.length < 20000) := Lib.hid fun h => absurd h h3
                clear hQ3 h3
                have zB3 := P3.out wr hB3.out
                have L3 := Lib.hid (LB.out.trans (hB3.out.mono LB.out.size))
                have HG := Lib.hid (Rf.GreatR_any (RdK.below HRf.out hB3.out (Nat.le_refl _)) hrl.out)
                go_wp2_with fail
                refine HG.out.mono ?_
                rintro e w5 ⟨g5, rfl, hb5, hg5⟩
                have L5 := Lib.hid (L3.out.trans (hb5.mono L3.out.size))
                cases g5 with
                | true =>
                  clear hg5 hb5
                  go_wp2_with fail
                  go_ret
                  exact ⟨true, rfl, LA.out.trans (L5.out.mono LA.out.size), fun h => by cases h⟩
                | false =>
                have HQ5 : Hid (N3 < 20000 → n + m ≤ N3 ∧ (∀ y ∈ r.pool, y.length < 20000) ∧ ∀ y ∈ r.forks.take (k + 1), SmallF y) := Lib.hid fun h => by
                  obtain ⟨q1, q2⟩ := HX3.out h
                  obtain ⟨q3, q4, q5, q6, q7⟩ := HQ1.out (by omega)
                  exact ⟨by have := HQn.out; omega, q6, take_all q7 HF.out ⟨q3, q4, q5, q2, hg5 rfl⟩⟩
                clear hg5 hb5 HG
                go_wp2_with fail
                go_roundw
                case rel => exact ⟨L5, k + 1, N3, hlt2, by go_num, rfl, hN3, HQ5⟩
                case measure => simp [intOf]; omega
            case neg =>
              have hjn : j = np := by omega
              have HX3 : Hid (N3 < 20000 → N1 ≤ N3 ∧ ∀ x ∈ f.packs, x.length < 20000) := Lib.hid fun h => by
                have := hQ3.out h
                rw [hjn, HNP.out, List.take_length] at this
                exact this
              clear hjn hQ3
              by_cases h3 : N3 < 20000
              case pos =>
                have h3I : (N3 : Int) < 20000 := by omega
                clear h3
                have zB3 := P3.out wr hB3.out
                have L3 := Lib.hid (LB.out.trans (hB3.out.mono LB.out.size))
                have HG := Lib.hid (Rf.GreatR_any (RdK.below HRf.out hB3.out (Nat.le_refl _)) hrl.out)
                go_wp2_with fail
                refine HG.out.mono ?_
                rintro e w5 ⟨g5, rfl, hb5, hg5⟩
                have L5 := Lib.hid (L3.out.trans (hb5.mono L3.out.size))
                cases g5 with
                | true =>
                  clear hg5 hb5
                  go_wp2_with fail
                  go_ret
                  exact ⟨true, rfl, LA.out.trans (L5.out.mono LA.out.size), fun h => by cases h⟩
                | false =>
                have HQ5 : Hid (N3 < 20000 → n + m ≤ N3 ∧ (∀ y ∈ r.pool, y.length < 20000) ∧ ∀ y ∈ r.forks.take (k + 1), SmallF y) := Lib.hid fun h => by
                  obtain ⟨q1, q2⟩ := HX3.out h
                  obtain ⟨q3, q4, q5, q6, q7⟩ := HQ1.out (by omega)
                  exact ⟨by have := HQn.out; omega, q6, take_all q7 HF.out ⟨q3, q4, q5, q2, hg5 rfl⟩⟩
                clear hg5 hb5 HG
                go_wp2_with fail
                go_roundw
                case rel => exact ⟨L5, k + 1, N3, hlt2, by go_num, rfl, hN3, HQ5⟩
                case measure => simp [intOf]; omega
              case neg =>
                have h3I : ¬ ((N3 : Int) < 20000) := by omega
                clear h3
                have zB3 := P3.out wr hB3.out
                have L3 := Lib.hid (LB.out.trans (hB3.out.mono LB.out.size))
                have HG := Lib.hid (Rf.GreatR_any (RdK.below HRf.out hB3.out (Nat.le_refl _)) hrl.out)
                go_wp2_with fail
                refine HG.out.mono ?_
                rintro e w5 ⟨g5, rfl, hb5, hg5⟩
                have L5 := Lib.hid (L3.out.trans (hb5.mono L3.out.size))
                cases g5 with
                | true =>
                  clear hg5 hb5
                  go_wp2_with fail
                  go_ret
                  exact ⟨true, rfl, LA.out.trans (L5.out.mono LA.out.size), fun h => by cases h⟩
                | false =>
                have HQ5 : Hid (N3 < 20000 → n + m ≤ N3 ∧ (∀ y ∈ r.pool, y.length < 20000) ∧ ∀ y ∈ r.forks.take (k + 1), SmallF y) := Lib.hid fun h => by
                  obtain ⟨q1, q2⟩ := HX3.out h
                  obtain ⟨q3, q4, q5, q6, q7⟩ := HQ1.out (by omega)
                  exact ⟨by have := HQn.out; omega, q6, take_all q7 HF.out ⟨q3, q4, q5, q2, hg5 rfl⟩⟩
                clear hg5 hb5 HG
                go_wp2_with fail
                go_roundw
                case rel => exact ⟨L5, k + 1, N3, hlt2, by go_num, rfl, hN3, HQ5⟩
                case measure => simp [intOf]; omega
    case neg =>
      have hkn : k = n := by omega
      have HX : Hid (N < 20000 → n + m ≤ N ∧ ∀ x ∈ r.pool, x.length < 20000) := Lib.hid fun h => by
        have := hQ.out h
        rw [hkn, HN.out, List.take_length] at this
        rw [HN.out]
        exact this
      clear hkn hQ
      by_cases h2 : N < 20000
      case pos =>
        have h2I : (N : Int) < 20000 := by omega
        clear h2
        go_wp2_with fail
        go_loopw [3, 5] (fun q i wr => Hid (Below wa.heap.size wa wr) ∧ ∃ k N2 : Nat, k ≤ m ∧ i = .int .i64 k ∧ q = .int .i64 (N2 : Int) ∧ N2 ≤ 1000000000000000 ∧ Hid (N2 < 20000 → n + m ≤ N2 ∧ (∀ x ∈ r.pool, x.length < 20000) ∧ ∀ x ∈ r.forks.take k, SmallF x)) (fun _ i _ => m - (intOf i).toNat)
        case atStart => exact ⟨hB, 0, N, Nat.zero_le _, rfl, rfl, hN, Lib.hid fun h => ⟨(HX.out h).1, (HX.out h).2, by simp⟩⟩
        case round =>
          obtain ⟨wo, hwo⟩ : ∃ wo, wo = wr := ⟨_, rfl⟩
          subst hwo
          obtain ⟨hB2, k, N2, hk2, rfl, rfl, hN2, hQ2⟩ := hrel
          have y2 := C2.out wo hB2.out
          by_cases hlt2 : k < m
          case neg =>
            have hkm : k = m := by omega
            have HL := Lib.hid (LA.out.trans (hB2.out.mono LA.out.size))
            have HX2 : Hid (N2 < 20000 → m ≤ 40 → SmallO r) := Lib.hid fun h h40 => by
              obtain ⟨q1, q2, q3⟩ := hQ2.out h
              rw [hkm, HM.out, List.take_length] at q3
              have hn := HN.out; have hm := HM.out
              exact ⟨by omega, q2, by omega, q3⟩
            clear hkm hQ2
            by_cases h2 : N2 < 20000
            · have h2I : ¬ (20000 : Int) ≤ (N2 : Int) := by omega
              by_cases h40 : m ≤ 40
              · have h40I : ¬ (40 : Int) < (m : Int) := by omega
                have HS := Lib.hid (HX2.out h2 h40)
                clear HX2 h2 h40
                go_wp2_with fail
                go_ret
                exact ⟨false, by simp, HL.out, fun _ => HS.out⟩
              · have h40I : (40 : Int) < (m : Int) := by omega
                clear HX2 h2 h40
                go_wp2_with fail
                go_ret
                exact ⟨true, by simp, HL.out, fun h => by cases h⟩
            · have h2I : (20000 : Int) ≤ (N2 : Int) := by omega
              clear HX2 h2
              go_wp2_with fail
              go_ret
              exact ⟨true, by simp, HL.out, fun h => by cases h⟩
          by_cases h2 : N2 < 20000
          case neg =>
            have HL := Lib.hid (LA.out.trans (hB2.out.mono LA.out.size))
            have h2I : (20000 : Int) ≤ (N2 : Int) := by omega
            have h2J : ¬ (N2 : Int) < 20000 := by omega
            clear hQ2 h2
            go_wp2_with fail
            go_ret
            exact ⟨true, by simp, HL.out, fun h => by cases h⟩
          obtain ⟨g, o, c', e, _, hg⟩ := HK.out.pos (by have := HM.out; omega)
          obtain rfl : B = some ⟨g, o, none⟩ := by rw [← HM.out] at e; cases e; rfl
          clear e
          obtain ⟨f, hf⟩ : ∃ f, r.forks[k]? = some f := ⟨_, List.getElem?_eq_getElem (by have := HM.out; omega)⟩
          have hbf := HB.out.forks f (List.mem_of_getElem? hf)
          obtain ⟨x, hx, d0, d1, d2, d3, d4⟩ := (HK.out.below hB2.out (Nat.le_refl _)).at hf
          obtain ⟨wB, hwB⟩ : ∃ y, y = wo.alloc (.cells (fkC x).toArray 42) := ⟨_, rfl⟩
          have lB : Below wo.heap.size wo wB := by rw [hwB]; exact below_new _ _
          have sB : wo.heap.size < wB.heap.size := by rw [hwB]; simp
          have dl := fun (i : Nat) (u : Value) (hi : (fkC x)[i]? = some u) => (show Hid (∀ W, Below wB.heap.size wB W → W.cell? ⟨wo.heap.size, i, none⟩ = some u) from Lib.hid fun W h =>
            (h.cell (p := ⟨wo.heap.size, i, none⟩) sB).trans (by rw [hwB, cell_of_row _ _ _ _ _ _ (heap_alloc_new wo _)]; simpa using hi))
          have P0 := dl 0 _ rfl; have P2 := dl 2 _ rfl; have P3 := dl 3 _ rfl; have P4 := dl 4 _ rfl
          have hxB := hx.below lB (Nat.le_refl _)
          have HRf := Lib.hid hxB.refs; have HPk := Lib.hid hxB.packs
          have hrl : Hid (f.refs.length ≤ Rf.lim) := Lib.hid hbf.rlen
          obtain ⟨Ar, cr, er⟩ := RdK.shape hx.refs
          obtain ⟨Ap, cp, ep⟩ := RdK.shape hx.packs
          obtain ⟨nr, hnr⟩ : ∃ n, n = f.refs.length := ⟨_, rfl⟩
          obtain ⟨np, hnp⟩ : ∃ n, n = f.packs.length := ⟨_, rfl⟩
          have hnpl : np ≤ 140737488355328 := by rw [hnp]; exact hbf.plen
          rw [← hnr] at er
          rw [← hnp] at ep
          have hn1 : x.name.length = f.name.length := by rw [hx.name]
          have hn2 : x.head.length = f.head.length := by rw [hx.head]
          obtain ⟨N1, hN1d⟩ : ∃ N1, N1 = N2 + 1 + min x.name.length 20000 + min x.head.length 20000 + np := ⟨_, rfl⟩
          have M1 : Hid (((N2 : Int) + 1 + min (x.name.length : Int) 20000 + min (x.head.length : Int) 20000 + (np : Int)) = (N1 : Int)) := Lib.hid (by omega)
          have hN1 : N1 ≤ 1000000000000000 := by omega
          have HQ1 : Hid (N1 < 20000 → f.name.length < 20000 ∧ f.head.length < 20000 ∧ f.packs.length < 20000 ∧ (∀ x ∈ r.pool, x.length < 20000) ∧ ∀ x ∈ r.forks.take k, SmallF x) := Lib.hid fun h => by
            obtain ⟨q1, q2, q3⟩ := hQ2.out h2
            exact ⟨by omega, by omega, by omega, q2, q3⟩
          have HQn : Hid (n + m ≤ N1) := Lib.hid (by have := (hQ2.out h2).1; omega)
          have HF := Lib.hid hf; have HNP := Lib.hid hnp
          have LB : Hid (Below wa.heap.size wa wB) := Lib.hid (hB2.out.trans (lB.mono hB2.out.size))
          have HWB := Lib.hid hwB
          have h2K : (N2 : Int) < 20000 := by omega
          clear hf hx hbf lB sB dl hxB hnr hnp hN1d hn1 hn2 hwB hB2 hQ2 hg hN2 h2
          obtain ⟨nm, lk, hd, rv, pv⟩ := x
          simp only at er ep
          subst er; subst ep
          unfold fkC at HWB
          simp only [SV, List.toArray] at d0 d1 d2 d3 d4 HRf HPk HWB P0 P2 P3 P4 M1
          go_upto_region 10 with fail
          rw [← HWB.out]
          have z0 := P0.out wB (Below.refl _ _); have z2 := P2.out wB (Below.refl _ _); have zz := P4.out wB (Below.refl _ _)
          clear HWB d0 d1 d2 d3 d4 y2
          go_wp2_with fail
          go_loopw [3, 7] (fun q i wr => Hid (Below wB.heap.size wB wr) ∧ ∃ j N3 : Nat, j ≤ np ∧ i = .int .i64 j ∧ q = .int .i64 (N3 : Int) ∧ N3 ≤ 1000000000000000 ∧ Hid (N3 < 20000 → N1 ≤ N3 ∧ ∀ x ∈ f.packs.take j, x.length < 20000)) (fun _ i _ => np - (intOf i).toNat)
          case atStart => exact ⟨Lib.hid (Below.refl _ _), 0, N1, Nat.zero_le _, rfl, by rw [M1.out], hN1, Lib.hid fun _ => ⟨Nat.le_refl _, by simp⟩⟩
          case round =>
            obtain ⟨hB3, j, N3, hj, rfl, rfl, hN3, hQ3⟩ := hrel
            have z4 := P4.out wr hB3.out
            by_cases hlt3 : j < np
            case pos =>
              by_cases h3 : N3 < 20000
              case pos =>
                obtain ⟨g3, o3, c3, e, _, hg3⟩ := HPk.out.pos (by have := HNP.out; omega)
                obtain rfl : Ap = some ⟨g3, o3, none⟩ := by rw [← HNP.out] at e; cases e; rfl
                clear e
                have hjl : j < f.packs.length := by have := HNP.out; omega
                have p0 := StrsR.cell (RdK.below HPk.out hB3.out (Nat.le_refl _)) j hjl
                have hx : f.packs[j]? = some (f.packs.getD j []) := by rw [List.getD_eq_getElem?_getD, List.getElem?_eq_getElem hjl]; rfl
                obtain ⟨x, hxe⟩ : ∃ x, x = f.packs.getD j [] := ⟨_, rfl⟩
                rw [← hxe] at p0 hx
                unfold SV at p0
                have m4 : ((N3 : Int) + min (x.length : Int) 20000) = ((N3 + min x.length 20000 : Nat) : Int) := by omega
                have M4 := Lib.hid m4
                have HQ4 : Hid (N3 + min x.length 20000 < 20000 → N1 ≤ N3 + min x.length 20000 ∧ ∀ y ∈ f.packs.take (j + 1), y.length < 20000) := Lib.hid fun h => by
                  obtain ⟨q1, q2⟩ := hQ3.out h3
                  exact ⟨by omega, take_all q2 hx (by omega)⟩
                have hN4 : Hid (N3 + min x.length 20000 ≤ 1000000000000000) := Lib.hid (by omega)
                clear hx hxe m4 hQ3 hjl hg3
                go_wp2_with fail
                go_roundw
                case rel => exact ⟨hB3, j + 1, N3 + min x.length 20000, hlt3, by go_num, by rw [M4.out], hN4.out, HQ4⟩
                case measure => simp [intOf]; omega
              case neg =>
                have h3I : ¬ ((N3 : Int) < 20000) := by omega
                have HX3 : Hid (N3 < 20000 → N1 ≤ N3 ∧ ∀ x ∈ f.packs, x.length < 20000) := Lib.hid fun h => absurd h h3
                clear hQ3 h3
                have zB3 := P3.out wr hB3.out
                have L3 := Lib.hid (LB.out.trans (hB3.out.mono LB.out.size))
                have HG := Lib.hid (Rf.GreatR_any (RdK.below HRf.out hB3.out (Nat.le_refl _)) hrl.out)
                go_wp2_with fail
                refine HG.out.mono ?_
                rintro e w5 ⟨g5, rfl, hb5, hg5⟩
                have L5 := Lib.hid (L3.out.trans (hb5.mono L3.out.size))
                cases g5 with
                | true =>
                  clear hg5 hb5
                  go_wp2_with fail
                  go_ret
                  exact ⟨true, rfl, LA.out.trans (L5.out.mono LA.out.size), fun h => by cases h⟩
                | false =>
                have HQ5 : Hid (N3 < 20000 → n + m ≤ N3 ∧ (∀ y ∈ r.pool, y.length < 20000) ∧ ∀ y ∈ r.forks.take (k + 1), SmallF y) := Lib.hid fun h => by
                  obtain ⟨q1, q2⟩ := HX3.out h
                  obtain ⟨q3, q4, q5, q6, q7⟩ := HQ1.out (by omega)
                  exact ⟨by have := HQn.out; omega, q6, take_all q7 HF.out ⟨q3, q4, q5, q2, hg5 rfl⟩⟩
                clear hg5 hb5 HG
                go_wp2_with fail
                go_roundw
                case rel => exact ⟨L5, k + 1, N3, hlt2, by go_num, rfl, hN3, HQ5⟩
                case measure => simp [intOf]; omega
            case neg =>
              have hjn : j = np := by omega
              have HX3 : Hid (N3 < 20000 → N1 ≤ N3 ∧ ∀ x ∈ f.packs, x.length < 20000) := Lib.hid fun h => by
                have := hQ3.out h
                rw [hjn, HNP.out, List.take_length] at this
                exact this
              clear hjn hQ3
              by_cases h3 : N3 < 20000
              case pos =>
                have h3I : (N3 : Int) < 20000 := by omega
                clear h3
                have zB3 := P3.out wr hB3.out
                have L3 := Lib.hid (LB.out.trans (hB3.out.mono LB.out.size))
                have HG := Lib.hid (Rf.GreatR_any (RdK.below HRf.out hB3.out (Nat.le_refl _)) hrl.out)
                go_wp2_with fail
                refine HG.out.mono ?_
                rintro e w5 ⟨g5, rfl, hb5, hg5⟩
                have L5 := Lib.hid (L3.out.trans (hb5.mono L3.out.size))
                cases g5 with
                | true =>
                  clear hg5 hb5
                  go_wp2_with fail
                  go_ret
                  exact ⟨true, rfl, LA.out.trans (L5.out.mono LA.out.size), fun h => by cases h⟩
                | false =>
                have HQ5 : Hid (N3 < 20000 → n + m ≤ N3 ∧ (∀ y ∈ r.pool, y.length < 20000) ∧ ∀ y ∈ r.forks.take (k + 1), SmallF y) := Lib.hid fun h => by
                  obtain ⟨q1, q2⟩ := HX3.out h
                  obtain ⟨q3, q4, q5, q6, q7⟩ := HQ1.out (by omega)
                  exact ⟨by have := HQn.out; omega, q6, take_all q7 HF.out ⟨q3, q4, q5, q2, hg5 rfl⟩⟩
                clear hg5 hb5 HG
                go_wp2_with fail
                go_roundw
                case rel => exact ⟨L5, k + 1, N3, hlt2, by go_num, rfl, hN3, HQ5⟩
                case measure => simp [intOf]; omega
              case neg =>
                have h3I : ¬ ((N3 : Int) < 20000) := by omega
                clear h3
                have zB3 := P3.out wr hB3.out
                have L3 := Lib.hid (LB.out.trans (hB3.out.mono LB.out.size))
                have HG := Lib.hid (Rf.GreatR_any (RdK.below HRf.out hB3.out (Nat.le_refl _)) hrl.out)
                go_wp2_with fail
                refine HG.out.mono ?_
                rintro e w5 ⟨g5, rfl, hb5, hg5⟩
                have L5 := Lib.hid (L3.out.trans (hb5.mono L3.out.size))
                cases g5 with
                | true =>
                  clear hg5 hb5
                  go_wp2_with fail
                  go_ret
                  exact ⟨true, rfl, LA.out.trans (L5.out.mono LA.out.size), fun h => by cases h⟩
                | false =>
                have HQ5 : Hid (N3 < 20000 → n + m ≤ N3 ∧ (∀ y ∈ r.pool, y.length < 20000) ∧ ∀ y ∈ r.forks.take (k + 1), SmallF y) := Lib.hid fun h => by
                  obtain ⟨q1, q2⟩ := HX3.out h
                  obtain ⟨q3, q4, q5, q6, q7⟩ := HQ1.out (by omega)
                  exact ⟨by have := HQn.out; omega, q6, take_all q7 HF.out ⟨q3, q4, q5, q2, hg5 rfl⟩⟩
                clear hg5 hb5 HG
                go_wp2_with fail
                go_roundw
                case rel => exact ⟨L5, k + 1, N3, hlt2, by go_num, rfl, hN3, HQ5⟩
                case measure => simp [intOf]; omega
      case neg =>
        have h2I : ¬ ((N : Int) < 20000) := by omega
        clear h2
        go_wp2_with fail
        go_loopw [3, 5] (fun q i wr => Hid (Below wa.heap.size wa wr) ∧ ∃ k N2 : Nat, k ≤ m ∧ i = .int .i64 k ∧ q = .int .i64 (N2 : Int) ∧ N2 ≤ 1000000000000000 ∧ Hid (N2 < 20000 → n + m ≤ N2 ∧ (∀ x ∈ r.pool, x.length < 20000) ∧ ∀ x ∈ r.forks.take k, SmallF x)) (fun _ i _ => m - (intOf i).toNat)
        case atStart => exact ⟨hB, 0, N, Nat.zero_le _, rfl, rfl, hN, Lib.hid fun h => ⟨(HX.out h).1, (HX.out h).2, by simp⟩⟩
        case round =>
          obtain ⟨wo, hwo⟩ : ∃ wo, wo = wr := ⟨_, rfl⟩
          subst hwo
          obtain ⟨hB2, k, N2, hk2, rfl, rfl, hN2, hQ2⟩ := hrel
          have y2 := C2.out wo hB2.out
          by_cases hlt2 : k < m
          case neg =>
            have hkm : k = m := by omega
            have HL := Lib.hid (LA.out.trans (hB2.out.mono LA.out.size))
            have HX2 : Hid (N2 < 20000 → m ≤ 40 → SmallO r) := Lib.hid fun h h40 => by
              obtain ⟨q1, q2, q3⟩ := hQ2.out h
              rw [hkm, HM.out, List.take_length] at q3
              have hn := HN.out; have hm := HM.out
              exact ⟨by omega, q2, by omega, q3⟩
            clear hkm hQ2
            by_cases h2 : N2 < 20000
            · have h2I : ¬ (20000 : Int) ≤ (N2 : Int) := by omega
              by_cases h40 : m ≤ 40
              · have h40I : ¬ (40 : Int) < (m : Int) := by omega
                have HS := Lib.hid (HX2.out h2 h40)
                clear HX2 h2 h40
                go_wp2_with fail
                go_ret
                exact ⟨false, by simp, HL.out, fun _ => HS.out⟩
              · have h40I : (40 : Int) < (m : Int) := by omega
                clear HX2 h2 h40
                go_wp2_with fail
                go_ret
                exact ⟨true, by simp, HL.out, fun h => by cases h⟩
            · have h2I : (20000 : Int) ≤ (N2 : Int) := by omega
              clear HX2 h2
              go_wp2_with fail
              go_ret
              exact ⟨true, by simp, HL.out, fun h => by cases h⟩
          by_cases h2 : N2 < 20000
          case neg =>
            have HL := Lib.hid (LA.out.trans (hB2.out.mono LA.out.size))
            have h2I : (20000 : Int) ≤ (N2 : Int) := by omega
            have h2J : ¬ (N2 : Int) < 20000 := by omega
            clear hQ2 h2
            go_wp2_with fail
            go_ret
            exact ⟨true, by simp, HL.out, fun h => by cases h⟩
          obtain ⟨g, o, c', e, _, hg⟩ := HK.out.pos (by have := HM.out; omega)
          obtain rfl : B = some ⟨g, o, none⟩ := by rw [← HM.out] at e; cases e; rfl
          clear e
          obtain ⟨f, hf⟩ : ∃ f, r.forks[k]? = some f := ⟨_, List.getElem?_eq_getElem (by have := HM.out; omega)⟩
          have hbf := HB.out.forks f (List.mem_of_getElem? hf)
          obtain ⟨x, hx, d0, d1, d2, d3, d4⟩ := (HK.out.below hB2.out (Nat.le_refl _)).at hf
          obtain ⟨wB, hwB⟩ : ∃ y, y = wo.alloc (.cells (fkC x).toArray 42) := ⟨_, rfl⟩
          have lB : Below wo.heap.size wo wB := by rw [hwB]; exact below_new _ _
          have sB : wo.heap.size < wB.heap.size := by rw [hwB]; simp
          have dl := fun (i : Nat) (u : Value) (hi : (fkC x)[i]? = some u) => (show Hid (∀ W, Below wB.heap.size wB W → W.cell? ⟨wo.heap.size, i, none⟩ = some u) from Lib.hid fun W h =>
            (h.cell (p := ⟨wo.heap.size, i, none⟩) sB).trans (by rw [hwB, cell_of_row _ _ _ _ _ _ (heap_alloc_new wo _)]; simpa using hi))
          have P0 := dl 0 _ rfl; have P2 := dl 2 _ rfl; have P3 := dl 3 _ rfl; have P4 := dl 4 _ rfl
          have hxB := hx.below lB (Nat.le_refl _)
          have HRf := Lib.hid hxB.refs; have HPk := Lib.hid hxB.packs
          have hrl : Hid (f.refs.length ≤ Rf.lim) := Lib.hid hbf.rlen
          obtain ⟨Ar, cr, er⟩ := RdK.shape hx.refs
          obtain ⟨Ap, cp, ep⟩ := RdK.shape hx.packs
          obtain ⟨nr, hnr⟩ : ∃ n, n = f.refs.length := ⟨_, rfl⟩
          obtain ⟨np, hnp⟩ : ∃ n, n = f.packs.length := ⟨_, rfl⟩
          have hnpl : np ≤ 140737488355328 := by rw [hnp]; exact hbf.plen
          rw [← hnr] at er
          rw [← hnp] at ep
          have hn1 : x.name.length = f.name.length := by rw [hx.name]
          have hn2 : x.head.length = f.head.length := by rw [hx.head]
          obtain ⟨N1, hN1d⟩ : ∃ N1, N1 = N2 + 1 + min x.name.length 20000 + min x.head.length 20000 + np := ⟨_, rfl⟩
          have M1 : Hid (((N2 : Int) + 1 + min (x.name.length : Int) 20000 + min (x.head.length : Int) 20000 + (np : Int)) = (N1 : Int)) := Lib.hid (by omega)
          have hN1 : N1 ≤ 1000000000000000 := by omega
          have HQ1 : Hid (N1 < 20000 → f.name.length < 20000 ∧ f.head.length < 20000 ∧ f.packs.length < 20000 ∧ (∀ x ∈ r.pool, x.length < 20000) ∧ ∀ x ∈ r.forks.take k, SmallF x) := Lib.hid fun h => by
            obtain ⟨q1, q2, q3⟩ := hQ2.out h2
            exact ⟨by omega, by omega, by omega, q2, q3⟩
          have HQn : Hid (n + m ≤ N1) := Lib.hid (by have := (hQ2.out h2).1; omega)
          have HF := Lib.hid hf; have HNP := Lib.hid hnp
          have LB : Hid (Below wa.heap.size wa wB) := Lib.hid (hB2.out.trans (lB.mono hB2.out.size))
          have HWB := Lib.hid hwB
          have h2K : (N2 : Int) < 20000 := by omega
          clear hf hx hbf lB sB dl hxB hnr hnp hN1d hn1 hn2 hwB hB2 hQ2 hg hN2 h2
          obtain ⟨nm, lk, hd, rv, pv⟩ := x
          simp only at er ep
          subst er; subst ep
          unfold fkC at HWB
          simp only [SV, List.toArray] at d0 d1 d2 d3 d4 HRf HPk HWB P0 P2 P3 P4 M1
          go_upto_region 10 with fail
          rw [← HWB.out]
          have z0 := P0.out wB (Below.refl _ _); have z2 := P2.out wB (Below.refl _ _); have zz := P4.out wB (Below.refl _ _)
          clear HWB d0 d1 d2 d3 d4 y2
          go_wp2_with fail
          go_loopw [3, 7] (fun q i wr => Hid (Below wB.heap.size wB wr) ∧ ∃ j N3 : Nat, j ≤ np ∧ i = .int .i64 j ∧ q = .int .i64 (N3 : Int) ∧ N3 ≤ 1000000000000000 ∧ Hid (N3 < 20000 → N1 ≤ N3 ∧ ∀ x ∈ f.packs.take j, x.length < 20000)) (fun _ i _ => np - (intOf i).toNat)
          case atStart => exact ⟨Lib.hid (Below.refl _ _), 0, N1, Nat.zero_le _, rfl, by rw [M1.out], hN1, Lib.hid fun _ => ⟨Nat.le_refl _, by simp⟩⟩
          case round =>
            obtain ⟨hB3, j, N3, hj, rfl, rfl, hN3, hQ3⟩ := hrel
            have z4 := P4.out wr hB3.out
            by_cases hlt3 : j < np
            case pos =>
              by_cases h3 : N3 < 20000
              case pos =>
                obtain ⟨g3, o3, c3, e, _, hg3⟩ := HPk.out.pos (by have := HNP.out; omega)
                obtain rfl : Ap = some ⟨g3, o3, none⟩ := by rw [← HNP.out] at e; cases e; rfl
                clear e
                have hjl : j < f.packs.length := by have := HNP.out; omega
                have p0 := StrsR.cell (RdK.below HPk.out hB3.out (Nat.le_refl _)) j hjl
                have hx : f.packs[j]? = some (f.packs.getD j []) := by rw [List.getD_eq_getElem?_getD, List.getElem?_eq_getElem hjl]; rfl
                obtain ⟨x, hxe⟩ : ∃ x, x = f.packs.getD j [] := ⟨_, rfl⟩
                rw [← hxe] at p0 hx
                unfold SV at p0
                have m4 : ((N3 : Int) + min (x.length : Int) 20000) = ((N3 + min x.length 20000 : Nat) : Int) := by omega
                have M4 := Lib.hid m4
                have HQ4 : Hid (N3 + min x.length 20000 < 20000 → N1 ≤ N3 + min x.length 20000 ∧ ∀ y ∈ f.packs.take (j + 1), y.length < 20000) := Lib.hid fun h => by
                  obtain ⟨q1, q2⟩ := hQ3.out h3
                  exact ⟨by omega, take_all q2 hx (by omega)⟩
                have hN4 : Hid (N3 + min x.length 20000 ≤ 1000000000000000) := Lib.hid (by omega)
                clear hx hxe m4 hQ3 hjl hg3
                go_wp2_with fail
                go_roundw
                case rel => exact ⟨hB3, j + 1, N3 + min x.length 20000, hlt3, by go_num, by rw [M4.out], hN4.out, HQ4⟩
                case measure => simp [intOf]; omega
              case neg =>
                have h3I : ¬ ((N3 : Int) < 20000) := by omega
                have HX3 : Hid (N3 < 20000 → N1 ≤ N3 ∧ ∀ x ∈ f.packs, x.length < 20000) := Lib.hid fun h => absurd h h3
                clear hQ3 h3
                have zB3 := P3.out wr hB3.out
                have L3 := Lib.hid (LB.out.trans (hB3.out.mono LB.out.size))
                have HG := Lib.hid (Rf.GreatR_any (RdK.below HRf.out hB3.out (Nat.le_refl _)) hrl.out)
                go_wp2_with fail
                refine HG.out.mono ?_
                rintro e w5 ⟨g5, rfl, hb5, hg5⟩
                have L5 := Lib.hid (L3.out.trans (hb5.mono L3.out.size))
                cases g5 with
                | true =>
                  clear hg5 hb5
                  go_wp2_with fail
                  go_ret
                  exact ⟨true, rfl, LA.out.trans (L5.out.mono LA.out.size), fun h => by cases h⟩
                | false =>
                have HQ5 : Hid (N3 < 20000 → n + m ≤ N3 ∧ (∀ y ∈ r.pool, y.length < 20000) ∧ ∀ y ∈ r.forks.take (k + 1), SmallF y) := Lib.hid fun h => by
                  obtain ⟨q1, q2⟩ := HX3.out h
                  obtain ⟨q3, q4, q5, q6, q7⟩ := HQ1.out (by omega)
                  exact ⟨by have := HQn.out; omega, q6, take_all q7 HF.out ⟨q3, q4, q5, q2, hg5 rfl⟩⟩
                clear hg5 hb5 HG
                go_wp2_with fail
                go_roundw
                case rel => exact ⟨L5, k + 1, N3, hlt2, by go_num, rfl, hN3, HQ5⟩
                case measure => simp [intOf]; omega
            case neg =>
              have hjn : j = np := by omega
              have HX3 : Hid (N3 < 20000 → N1 ≤ N3 ∧ ∀ x ∈ f.packs, x.length < 20000) := Lib.hid fun h => by
                have := hQ3.out h
                rw [hjn, HNP.out, List.take_length] at this
                exact this
              clear hjn hQ3
              by_cases h3 : N3 < 20000
              case pos =>
                have h3I : (N3 : Int) < 20000 := by omega
                clear h3
                have zB3 := P3.out wr hB3.out
                have L3 := Lib.hid (LB.out.trans (hB3.out.mono LB.out.size))
                have HG := Lib.hid (Rf.GreatR_any (RdK.below HRf.out hB3.out (Nat.le_refl _)) hrl.out)
                go_wp2_with fail
                refine HG.out.mono ?_
                rintro e w5 ⟨g5, rfl, hb5, hg5⟩
                have L5 := Lib.hid (L3.out.trans (hb5.mono L3.out.size))
                cases g5 with
                | true =>
                  clear hg5 hb5
                  go_wp2_with fail
                  go_ret
                  exact ⟨true, rfl, LA.out.trans (L5.out.mono LA.out.size), fun h => by cases h⟩
                | false =>
                have HQ5 : Hid (N3 < 20000 → n + m ≤ N3 ∧ (∀ y ∈ r.pool, y.length < 20000) ∧ ∀ y ∈ r.forks.take (k + 1), SmallF y) := Lib.hid fun h => by
                  obtain ⟨q1, q2⟩ := HX3.out h
                  obtain ⟨q3, q4, q5, q6, q7⟩ := HQ1.out (by omega)
                  exact ⟨by have := HQn.out; omega, q6, take_all q7 HF.out ⟨q3, q4, q5, q2, hg5 rfl⟩⟩
                clear hg5 hb5 HG
                go_wp2_with fail
                go_roundw
                case rel => exact ⟨L5, k + 1, N3, hlt2, by go_num, rfl, hN3, HQ5⟩
                case measure => simp [intOf]; omega
              case neg =>
                have h3I : ¬ ((N3 : Int) < 20000) := by omega
                clear h3
                have zB3 := P3.out wr hB3.out
                have L3 := Lib.hid (LB.out.trans (hB3.out.mono LB.out.size))
                have HG := Lib.hid (Rf.GreatR_any (RdK.below HRf.out hB3.out (Nat.le_refl _)) hrl.out)
                go_wp2_with fail
                refine HG.out.mono ?_
                rintro e w5 ⟨g5, rfl, hb5, hg5⟩
                have L5 := Lib.hid (L3.out.trans (hb5.mono L3.out.size))
                cases g5 with
                | true =>
                  clear hg5 hb5
                  go_wp2_with fail
                  go_ret
                  exact ⟨true, rfl, LA.out.trans (L5.out.mono LA.out.size), fun h => by cases h⟩
                | false =>
                have HQ5 : Hid (N3 < 20000 → n + m ≤ N3 ∧ (∀ y ∈ r.pool, y.length < 20000) ∧ ∀ y ∈ r.forks.take (k + 1), SmallF y) := Lib.hid fun h => by
                  obtain ⟨q1, q2⟩ := HX3.out h
                  obtain ⟨q3, q4, q5, q6, q7⟩ := HQ1.out (by omega)
                  exact ⟨by have := HQn.out; omega, q6, take_all q7 HF.out ⟨q3, q4, q5, q2, hg5 rfl⟩⟩
                clear hg5 hb5 HG
                go_wp2_with fail
                go_roundw
                case rel => exact ⟨L5, k + 1, N3, hlt2, by go_num, rfl, hN3, HQ5⟩
                case measure => simp [intOf]; omega
end Go.Proofs.YtnboagmibhllpaaGreatDoor.Ro
