/-
  The document's Put.
  Whether entries are right, their bytes, and the entries of bytes, are the document's.
  What the rows' condition gives; a world that meets it; arguments that read as they did, and what they may be. One entry that comes in.
-/
import Derived.Test.YtgjddkeogboojaaGreatDoorT27
import Derived.Test.YtgjddkeogboojaaGreatDoorT21
import Derived.Test.YtgjddkeogboojaaGreatDoorT28
import Derived.Test.YtgjddkeogboojaaGreatDoorT23
import Derived.Carry
import Derived.Test.YtgjddkeogboojaaGreatDoorCards
import Derived.Test.YtgjddkeogboojaaGreatDoorTie
import Derived.WalkKit
import Derived.ProofKit
import Derived.OpenShut
import Derived.Deep.DeepHandedRow
import Derived.LaidLaws
import Derived.LaidHandle
import Derived.Stop.LaidErr
import Derived.Stop.LaidTwo
import Derived.Lib.LaidU8
set_option maxRecDepth 100000
namespace Go.Proofs.YtgjddkeogboojaaGreatDoor.Pk
open Go.Proofs.YtgjddkeogboojaaGreatDoor
open Go Go.RowKit Go.Maps
def RPutP (l : List Ent) (w : World) (e : Ending) (w' : World) : Prop := Below w.heap.size w w' ∧ ((rightL l = false ∧ e = .returned (.tuple #[.slice none 0 0, .int .i64 1])) ∨
  (rightL l = true ∧ ∃ A N c, e = .returned (.tuple #[.slice A N c, .int .i64 0]) ∧ N = (packL l).length ∧ Dl.Rb w' (.slice A N c) (packL l)))
set_option maxHeartbeats 16000000 in
set_option maxRecDepth 100000 in
theorem RPut_any' {w : World} {v : Value} {l : List Ent} (h : EntsR w v l) (hs : SmallE l) : Calls Tryz.prog 13 #[v] w (RPutP l w) := by
  have HRi := Lib.hid (RRight_any' h hs.smal)
  have hll := hs.len
  obtain ⟨A, c, rfl⟩ := h.shape
  have Hx := Lib.hid h; have HSm := Lib.hid hs
  obtain ⟨R, hR⟩ : ∃ R, R = rightL l := ⟨_, rfl⟩
  rw [← hR] at HRi
  have HR := Lib.hid hR
  clear h hs hR
  go_enter Tryz.func13, Tryz.ntmps13
  go_wp2_with fail
  refine HRi.out.mono ?_
  rintro e w1 ⟨rfl, b1⟩
  have HB1 := Lib.hid b1
  clear b1 HRi
  cases R with
  | false =>
    go_wp2_with fail
    go_ret2
    exact ⟨HB1.out, .inl ⟨HR.out.symm, rfl⟩⟩
  | true =>
    have HAll := Lib.hid (right_all HR.out.symm)
    have hpm := pack_small HSm.out HR.out.symm
    have hpl0 := packL_len HR.out.symm
    obtain ⟨w2, hw2⟩ : ∃ w2, w2 = w1.alloc paksO := ⟨_, rfl⟩
    have b2 : Below w1.heap.size w1 w2 := by rw [hw2]; exact below_new w1 _
    have HPk : Hid (∀ {W : World}, Below w2.heap.size w2 W → ∀ j u, (magicL.map Dl.bv)[j]? = some u → W.cell? ((⟨w1.heap.size, 0, none⟩ : Addr).add j) = some u) := Lib.hid fun hb => paks_cells hw2 hb
    have hw2' : w2 = w1.alloc (.cells #[.int .u8 80, .int .u8 65, .int .u8 75, .int .u8 83] 5 (4, 5)) := hw2
    have HW2 := Lib.hid hw2'; have HB2 := Lib.hid (HB1.out.trans (b2.mono HB1.out.size))
    have kc := fun (w : World) (C : Array Value) (n c : Nat) => Lib.run_convert_bytes_const (P := Tryz.prog) w 23 5 C n c Tryz.underlying23 Tryz.underlying5
    have HP := Lib.hid (fun W => Dl.RPut_any (l.length : Int) W)
    rw [Dl.putI_nat (by omega)] at HP
    have H6 := Lib.hid (Dl.putL_len6 (n := l.length) (by omega))
    have HZ0 := Lib.hid (preB_zero l)
    obtain ⟨p0, hp0⟩ : ∃ p, p = preB l 0 := ⟨_, rfl⟩
    obtain ⟨dl, hdl⟩ : ∃ d, d = Dl.putL l.length := ⟨_, rfl⟩
    rw [← hdl] at HP H6 HZ0
    rw [← hp0] at HZ0
    have HP0 := Lib.hid hp0
    have H1 : Hid (0 < dl.length) := Lib.hid (by rw [hdl]; exact putL_pos _)
    have HLen := Lib.hid hpm
    have HSn := Lib.hid (fun k => preB_len l k)
    clear hw2 hw2' b2 hp0 hdl hpm hpl0
    go_wp2_with fail
    rw [← HW2.out]
    refine (HP.out _).mono ?_
    rintro e w3 ⟨A3, c3, rfl, r3, l3⟩
    have R3 := Lib.hid r3; have HB3 := Lib.hid (HB2.out.trans (l3.mono HB2.out.size)); have HC3 := Lib.hid (HPk.out l3)
    have Q3 : Hid ((magicL : Bs).length + dl.length ≤ 100000000) := Lib.hid (by have := H6.out; unfold magicL; simp; omega)
    have S3 : Hid (w.heap.size ≤ w3.heap.size) := Lib.hid HB3.out.size
    clear r3 l3 HW2 HP H6 HPk
    go_wp2_with (refine wpList_appFull (o := ⟨some 15, _, _, _, _, _⟩) rfl _ _ rfl w.heap.size _ 4 _ magicL dl rfl rfl rfl HC3.out R3.out H1.out Q3.out S3.out HZ0.out ?_)
    intro v4 w4 o4 f4
    have HB4 := Lib.hid (HB3.out.trans (f4.mono HB3.out.size))
    have O4 := Lib.hid o4
    clear f4 o4 HC3 R3 Q3 S3 HB3 HZ0 H1 kc
    obtain ⟨A4, N4, c4, rfl, -⟩ := own_shape O4.out
    rw [HP0.out] at O4
    clear HP0 p0
    go_wp2_with fail
    go_loopw [4, 5] (fun z i wr => Hid (Below w.heap.size w wr) ∧ ∃ k : Nat, k ≤ l.length ∧ i = .int .i64 k ∧ Hid (Dl.Ow wr w.heap.size z (preB l k))) (fun _ i _ => l.length - (intOf i).toNat)
    case atStart => exact ⟨HB4, 0, Nat.zero_le _, rfl, O4⟩
    case round =>
      obtain ⟨hB, k, hk, rfl, hO⟩ := hrel
      obtain ⟨Az, Nz, cz, rfl, -⟩ := own_shape hO.out
      by_cases hlt : k < l.length
      · obtain ⟨g, o, c', e, _, hg⟩ := Hx.out.pos (by omega)
        cases e
        have hmem := getD_mem l noEnt k hlt
        have hsu := preB_succ hlt
        have hfit := HAll.out _ hmem
        have hsz := HSm.out.mem hmem
        obtain ⟨x, hx⟩ : ∃ x, x = l.getD k noEnt := ⟨_, rfl⟩
        have HE : Hid (∀ W, Below w.heap.size w W → W.cell? ⟨g, o + k * 4, none⟩ = some (.int .i64 x.kind) ∧ W.cell? ⟨g, o + k * 4 + 1, none⟩ = some (.int .i64 x.back) ∧ W.cell? ⟨g, o + k * 4 + 2, none⟩ = some (SV x.base) ∧ W.cell? ⟨g, o + k * 4 + 3, none⟩ = some (SV x.data)) := Lib.hid fun W hW => by
          rw [hx]; exact EntsR.cells (Hx.out.below hW (Nat.le_refl _)) k hlt
        rw [← hx] at hsu hfit hsz
        obtain ⟨ch, hch⟩ := hfit.1.kind
        have hb0 := hfit.1.back0
        obtain ⟨kd, bk, bs, dt⟩ := x
        simp only at hch hb0 hsz hfit
        subst hch
        obtain ⟨bn, rfl⟩ := Int.eq_ofNat_of_zero_le hb0
        have hbn : (bn : Int) ≤ 1099511627776 := hfit.2.2
        obtain ⟨pre, hpre⟩ : ∃ p, p = preB l k := ⟨_, rfl⟩
        have hpl := HSn.out k
        rw [← hpre] at hO hsu hpl
        obtain ⟨S, hS⟩ : ∃ S, S = preB l (k + 1) := ⟨_, rfl⟩
        rw [← hS] at hsu
        rw [entB_c, Int.toNat_natCast] at hsu
        obtain ⟨p3, hp3⟩ : ∃ p, p = pre ++ [ch] := ⟨_, rfl⟩
        obtain ⟨p5, hp5⟩ : ∃ p, p = p3 ++ Dl.putL dt.length := ⟨_, rfl⟩
        obtain ⟨p7, hp7⟩ : ∃ p, p = p5 ++ (if ch = 6 then Dl.putL bn else []) := ⟨_, rfl⟩
        obtain ⟨p8, hp8⟩ : ∃ p, p = p7 ++ bs := ⟨_, rfl⟩
        have hR9 : S = p8 ++ dt := by rw [hsu, hp8, hp7, hp5, hp3]; simp only [List.append_assoc]
        have l5 := Dl.putL_len6 (n := dt.length) (by omega)
        have l6 := Dl.putL_len6 (n := bn) (by omega)
        have hlm := HLen.out
        have hlens : p3.length ≤ 50000 ∧ p5.length ≤ 60000 ∧ p7.length ≤ 70000 ∧ p8.length ≤ 80000 := by
          refine ⟨?_, ?_, ?_, ?_⟩
          · rw [hp3]; simp; omega
          · rw [hp5, hp3]; simp; omega
          · rw [hp7, hp5, hp3]; split <;> simp <;> omega
          · rw [hp8, hp7, hp5, hp3]; split <;> simp <;> omega
        obtain ⟨dl, hdl⟩ : ∃ d, d = Dl.putL dt.length := ⟨_, rfl⟩
        obtain ⟨db, hdb⟩ : ∃ d, d = Dl.putL bn := ⟨_, rfl⟩
        have HPd := Lib.hid (fun W => Dl.RPut_any (dt.length : Int) W)
        rw [Dl.putI_nat (by omega)] at HPd
        have HPb := Lib.hid (fun W => Dl.RPut_any (bn : Int) W)
        rw [Dl.putI_nat (by omega)] at HPb
        rw [← hdl] at hp5 HPd l5
        rw [← hdb] at hp7 HPb l6
        have HLs : Hid (pre.length ≤ 40000 ∧ p3.length ≤ 50000 ∧ p5.length ≤ 60000 ∧ p7.length ≤ 70000 ∧ p8.length ≤ 80000 ∧ dl.length ≤ 6 ∧ db.length ≤ 6 ∧ bs.length ≤ 10000 ∧ dt.length ≤ 10000) := Lib.hid ⟨by omega, hlens.1, hlens.2.1, hlens.2.2.1, hlens.2.2.2, l5, l6, by omega, by omega⟩
        have HP3 := Lib.hid hp3; have HP5 := Lib.hid hp5; have HP7 := Lib.hid hp7; have HP8 := Lib.hid hp8; have HR9 := Lib.hid hR9; have HSS := Lib.hid hS
        obtain ⟨w5, hw5⟩ : ∃ z, z = wr.alloc (.cells #[.int .u8 (ch.toNat : Int)] 5) := ⟨_, rfl⟩
        have b5 : Below wr.heap.size wr w5 := by rw [hw5]; exact below_new wr _
        have O5 : Hid (Dl.Ow w5 w.heap.size (.slice Az Nz cz) pre) := Lib.hid (hO.out.below b5 (Nat.le_refl _))
        have R5 : Hid (Dl.Rb w5 (.slice (some ⟨wr.heap.size, 0, none⟩) 1 1) [ch]) := Lib.hid (by rw [hw5]; exact Dl.rb_one wr ch)
        have HB5 := Lib.hid (hB.out.trans (b5.mono hB.out.size))
        have Q5 : Hid (pre.length + ([ch] : Bs).length ≤ 140737488355328) := Lib.hid (by have := HLs.out; simp; omega)
        have S5 : Hid (w.heap.size ≤ w5.heap.size) := Lib.hid HB5.out.size
        have HW5 := Lib.hid hw5
        have hcl : (ch.toNat : Int) < 256 := by have := ch.toNat_lt; omega
        have hc0 : 0 ≤ (ch.toNat : Int) := by omega
        obtain ⟨q0, q1, q2, q3⟩ := HE.out wr hB.out
        unfold SV at q2 q3
        simp only at q0 q1 q2 q3
        have HE' : Hid (∀ W, Below w.heap.size w W → W.cell? ⟨g, o + k * 4, none⟩ = some (.int .i64 (ch.toNat : Int)) ∧ W.cell? ⟨g, o + k * 4 + 1, none⟩ = some (.int .i64 (bn : Int)) ∧ W.cell? ⟨g, o + k * 4 + 2, none⟩ = some (.string ⟨bs.toArray⟩) ∧ W.cell? ⟨g, o + k * 4 + 3, none⟩ = some (.string ⟨dt.toArray⟩)) := HE
        have hltI : (k : Int) < (l.length : Int) := by omega
        clear hp3 hp5 hp7 hp8 hR9 hS hsu hpl hlens l5 l6 hlm hdl hdb hw5 b5 hx hfit hsz hbn hmem hO hpre HE hb0
        go_wp2_with (rw [← HW5.out]; refine wpList_app' (o := ⟨some 30, _, _, _, _, _⟩) rfl _ _ rfl w.heap.size _ _ pre [ch] rfl rfl O5.out R5.out Q5.out S5.out HP3.out ?_)
        intro v6 w6 o6 f6
        have HB6 := Lib.hid (HB5.out.trans (app_own f6 (fun k hk => (O5.out.lt k hk).1) S5.out))
        obtain ⟨A6, N6, c6, rfl, -⟩ := own_shape o6
        have O6 := Lib.hid o6
        clear o6 f6 O5 R5 Q5 S5 HB5 HW5 q0 q1 q2 q3
        obtain ⟨q0, q1, q2, q3⟩ := HE'.out w6 HB6.out
        go_wp2_with fail
        refine (HPd.out _).mono ?_
        rintro e w7 ⟨A7, c7, rfl, r7, l7⟩
        have HB7 := Lib.hid (HB6.out.trans (l7.mono HB6.out.size)); have O7 := Lib.hid (O6.out.below l7 (Nat.le_refl _)); have R7 := Lib.hid r7
        have Q7 : Hid (p3.length + dl.length ≤ 140737488355328) := Lib.hid (by have := HLs.out; omega)
        have S7 : Hid (w.heap.size ≤ w7.heap.size) := Lib.hid HB7.out.size
        clear r7 l7 O6 HB6 HPd q0 q1 q2 q3
        obtain ⟨q0, q1, q2, q3⟩ := HE'.out w7 HB7.out
        go_wp2_with (refine wpList_app' (o := ⟨some 39, _, _, _, _, _⟩) rfl _ _ rfl w.heap.size _ _ p3 dl rfl rfl O7.out R7.out Q7.out S7.out HP5.out ?_)
        intro v8 w8 o8 f8
        have HB8 := Lib.hid (HB7.out.trans (app_own f8 (fun k hk => (O7.out.lt k hk).1) S7.out))
        obtain ⟨A8, N8, c8, rfl, -⟩ := own_shape o8
        have O8 := Lib.hid o8
        clear o8 f8 O7 R7 Q7 S7 HB7 q0 q1 q2 q3
        obtain ⟨q0, q1, q2, q3⟩ := HE'.out w8 HB8.out
        by_cases h6 : ch = 6
        · have b6 : ((ch.toNat : Int) == 6) = true := by rw [h6]; rfl
          rw [if_pos h6] at HP7
          clear h6
          go_wp2_with fail
          refine (HPb.out _).mono ?_
          rintro e w9 ⟨A9, c9, rfl, r9, l9⟩
          have HB9 := Lib.hid (HB8.out.trans (l9.mono HB8.out.size)); have O9 := Lib.hid (O8.out.below l9 (Nat.le_refl _)); have R9 := Lib.hid r9
          have Q9 : Hid (p5.length + db.length ≤ 140737488355328) := Lib.hid (by have := HLs.out; omega)
          have S9 : Hid (w.heap.size ≤ w9.heap.size) := Lib.hid HB9.out.size
          clear r9 l9 O8 HB8 HPb q0 q1 q2 q3 b6
          obtain ⟨q0, q1, q2, q3⟩ := HE'.out w9 HB9.out
          go_wp2_with (refine wpList_app' (o := ⟨some 53, _, _, _, _, _⟩) rfl _ _ rfl w.heap.size _ _ p5 db rfl rfl O9.out R9.out Q9.out S9.out HP7.out ?_)
          intro v10 w10 o10 f10
          have HB10 := Lib.hid (HB9.out.trans (app_own f10 (fun k hk => (O9.out.lt k hk).1) S9.out))
          obtain ⟨A10, N10, c10, rfl, -⟩ := own_shape o10
          have O10 := Lib.hid o10
          clear o10 f10 O9 R9 Q9 S9 HB9 q0 q1 q2 q3
          obtain ⟨q0, q1, q2, q3⟩ := HE'.out w10 HB10.out
          have Q10 : Hid (p7.length + bs.length ≤ 140737488355328) := Lib.hid (by have := HLs.out; omega)
          have S10 : Hid (w.heap.size ≤ w10.heap.size) := Lib.hid HB10.out.size
          go_wp2_with (refine wpList_apps (o := ⟨some 60, _, _, _, _, _⟩) rfl _ _ rfl w.heap.size _ p7 bs rfl rfl O10.out Q10.out S10.out HP8.out ?_)
          intro v11 w11 o11 f11
          have HB11 := Lib.hid (HB10.out.trans (app_own f11 (fun k hk => (O10.out.lt k hk).1) S10.out))
          obtain ⟨A11, N11, c11, rfl, -⟩ := own_shape o11
          have O11 := Lib.hid o11
          have Q11 : Hid (p8.length + dt.length ≤ 140737488355328) := Lib.hid (by have := HLs.out; omega)
          have S11 : Hid (w.heap.size ≤ w11.heap.size) := Lib.hid HB11.out.size
          clear o11 f11 O10 Q10 S10 HB10 q0 q1 q2 q3
          obtain ⟨q0, q1, q2, q3⟩ := HE'.out w11 HB11.out
          go_wp2_with (refine wpList_apps (o := ⟨some 67, _, _, _, _, _⟩) rfl _ _ rfl w.heap.size _ p8 dt rfl rfl O11.out Q11.out S11.out HR9.out ?_)
          intro v12 w12 o12 f12
          have HB12 := Lib.hid (HB11.out.trans (app_own f12 (fun k hk => (O11.out.lt k hk).1) S11.out))
          rw [HSS.out] at o12
          have O12 := Lib.hid o12
          clear o12 f12 O11 Q11 S11 HB11 q0 q1 q2 q3
          go_wp2_with fail
          go_roundw
          case rel => exact ⟨HB12, k + 1, hlt, by go_num, O12⟩
          case measure => simp [intOf]; omega
        · have b6 : ((ch.toNat : Int) == 6) = false := by
            rw [beq_eq_false_iff_ne]
            exact fun h => h6 ((six ch).1 h)
          rw [if_neg h6, List.append_nil] at HP7
          have HB10 := HB8
          have O10 := O8
          rw [← HP7.out] at O10
          obtain ⟨w10, hw10⟩ : ∃ z, z = w8 := ⟨_, rfl⟩
          subst hw10
          clear h6 HPb HP7 O8 HB8 q0 q1 q2 q3
          obtain ⟨q0, q1, q2, q3⟩ := HE'.out w10 HB10.out
          have Q10 : Hid (p7.length + bs.length ≤ 140737488355328) := Lib.hid (by have := HLs.out; omega)
          have S10 : Hid (w.heap.size ≤ w10.heap.size) := Lib.hid HB10.out.size
          go_wp2_with (refine wpList_apps (o := ⟨some 60, _, _, _, _, _⟩) rfl _ _ rfl w.heap.size _ p7 bs rfl rfl O10.out Q10.out S10.out HP8.out ?_)
          intro v11 w11 o11 f11
          have HB11 := Lib.hid (HB10.out.trans (app_own f11 (fun k hk => (O10.out.lt k hk).1) S10.out))
          obtain ⟨A11, N11, c11, rfl, -⟩ := own_shape o11
          have O11 := Lib.hid o11
          have Q11 : Hid (p8.length + dt.length ≤ 140737488355328) := Lib.hid (by have := HLs.out; omega)
          have S11 : Hid (w.heap.size ≤ w11.heap.size) := Lib.hid HB11.out.size
          clear o11 f11 O10 Q10 S10 HB10 q0 q1 q2 q3
          obtain ⟨q0, q1, q2, q3⟩ := HE'.out w11 HB11.out
          go_wp2_with (refine wpList_apps (o := ⟨some 67, _, _, _, _, _⟩) rfl _ _ rfl w.heap.size _ p8 dt rfl rfl O11.out Q11.out S11.out HR9.out ?_)
          intro v12 w12 o12 f12
          have HB12 := Lib.hid (HB11.out.trans (app_own f12 (fun k hk => (O11.out.lt k hk).1) S11.out))
          rw [HSS.out] at o12
          have O12 := Lib.hid o12
          clear o12 f12 O11 Q11 S11 HB11 q0 q1 q2 q3
          go_wp2_with fail
          go_roundw
          case rel => exact ⟨HB12, k + 1, hlt, by go_num, O12⟩
          case measure => simp [intOf]; omega
      · obtain rfl : k = l.length := by omega
        have hpl := HSn.out l.length
        have hlm := HLen.out
        rw [preB_all] at hO hpl
        have HSum := Lib.hid (RSum_any wr (.slice Az Nz cz) (bodyL l) (by omega) hO.out.rb)
        go_wp2_with fail
        refine HSum.out.mono ?_
        intro e w6 hh
        rw [hh.1, ← sumC_eq]
        have b6 := hh.2
        clear hh
        obtain ⟨w7, hw7⟩ : ∃ w7, w7 = w6.alloc (.cells (u8s 32 (byteV (sumV (bodyL l)))) 68) := ⟨_, rfl⟩
        have b7 : Below w6.heap.size w6 w7 := by rw [hw7]; exact below_new w6 _
        have R7 := Lib.hid (sum_rb (w := w7) (g := w6.heap.size) (s := bodyL l) (by rw [hw7]; exact heap_alloc_new w6 _))
        have O7 := Lib.hid ((hO.out.below b6 (Nat.le_refl _)).below b7 (Nat.le_refl _))
        have HB7 := Lib.hid ((hB.out.trans (b6.mono hB.out.size)).trans (b7.mono (Nat.le_trans hB.out.size b6.size)))
        have Q7 : Hid ((bodyL l).length + (sumL (bodyL l)).length ≤ 140737488355328) := Lib.hid (by rw [sumL_length]; omega)
        have S7 : Hid (w.heap.size ≤ w7.heap.size) := Lib.hid HB7.out.size
        have HPk : Hid (packL l = bodyL l ++ sumL (bodyL l)) := Lib.hid rfl
        obtain ⟨F, hF⟩ : ∃ F, F = byteV (sumV (bodyL l)) := ⟨_, rfl⟩
        rw [← hF] at hw7
        rw [← hF]
        obtain ⟨sm, hsm⟩ : ∃ sm, sm = sumL (bodyL l) := ⟨_, rfl⟩
        rw [← hsm] at R7 Q7 HPk
        have hsl : sm.length = 32 := by rw [hsm, sumL_length]
        obtain ⟨bd, hbd⟩ : ∃ bd, bd = bodyL l := ⟨_, rfl⟩
        rw [← hbd] at O7 Q7 HPk
        have HW7 := Lib.hid hw7
        have hz32 : ∀ W, (zeroValue 68).run Tryz.prog W = .ok (.agg (u8s 32 fun _ => 0)) W := (zero_of_info (n := 32) (by kernel_rfl)).1
        clear hF hw7 b6 b7 hO hpl HSum hsm hbd hsl hlm
        go_upto_region 14 with (refine wpList_store_row rfl 68 _ _ rfl w6.heap.size (u8s 32 F) rfl rfl 68 (u8s 32 fun _ => 0) (by exact Blk.new w6 _ _) (by rw [u8s_size]; kernel_rfl) (by rw [u8s_size, u8s_size]) (u8s_one 32 F) ?_; rw [World.setRow_alloc_new])
        clear hz32
        rw [← HW7.out]
        go_wp2_with (refine wpList_app' (o := ⟨some 72, _, _, _, _, _⟩) rfl _ _ rfl w.heap.size _ _ bd sm rfl rfl O7.out R7.out Q7.out S7.out HPk.out ?_)
        intro v8 w8 o8 f8
        have HB8 := Lib.hid (HB7.out.trans (app_own f8 (fun k hk => (O7.out.lt k hk).1) HB7.out.size))
        obtain ⟨A8, N8, c8, rfl, hN8⟩ := own_shape o8
        have HF : Hid (RPutP l w (.returned (.tuple #[.slice A8 N8 c8, .int .i64 0])) w8) := Lib.hid ⟨HB8.out, .inr ⟨HR.out.symm, A8, N8, c8, rfl, hN8, o8.rb⟩⟩
        obtain ⟨mx, hmx, hmx2⟩ := file_max
        have hN : ¬ mx < (N8 : Int) := by have := HLen.out; omega
        clear o8 f8 hN8 O7 R7 Q7 S7 HPk HW7 hmx2
        go_upto_region 15 with fail
        rw [← hmx]
        clear hmx
        go_wp2_with fail
        go_ret2
        exact HF.out
end Go.Proofs.YtgjddkeogboojaaGreatDoor.Pk
namespace Go.Proofs.YtgjddkeogboojaaGreatDoor.Pk
open Go.Proofs.YtgjddkeogboojaaGreatDoor
open Go Go.RowKit Go.Maps
def outB (l : List Ent) : Bs := if rightL l = true then packL l else []
def outE (l : List Ent) : Int := if rightL l = true then 0 else 1
def PutU (l : List Ent) (w : World) (e : Ending) (w' : World) : Prop := Below w.heap.size w w' ∧ ∃ A N c, e = .returned (.tuple #[.slice A N c, .int .i64 (outE l)]) ∧ Dl.Rb w' (.slice A N c) (outB l)
theorem putU_no {l : List Ent} {w w' : World} (hb : Below w.heap.size w w') (hr : rightL l = false) : PutU l w (.returned (.tuple #[.slice none 0 0, .int .i64 1])) w' := by
  refine ⟨hb, none, 0, 0, by unfold outE; rw [hr]; rfl, ?_⟩
  unfold outB
  rw [hr]
  exact .inl ⟨⟨_, rfl⟩, rfl⟩
theorem putU_yes {l : List Ent} {w w' : World} {A : Option Addr} {N c : Nat} (hb : Below w.heap.size w w') (hr : rightL l = true) (h : Dl.Rb w' (.slice A N c) (packL l)) : PutU l w (.returned (.tuple #[.slice A N c, .int .i64 0])) w' := by
  refine ⟨hb, A, N, c, by unfold outE; rw [hr]; rfl, ?_⟩
  unfold outB
  rw [hr]
  exact h
def gotL (b : Bs) : List Ent := (getP b).getD []
def gotE (b : Bs) : Int := match getP b with | none => 3 | some _ => 0
def GetU (b : Bs) (w : World) (e : Ending) (w' : World) : Prop := Below w.heap.size w w' ∧ ∃ A N c, e = .returned (.tuple #[.slice A N c, .int .i64 (gotE b)]) ∧ EntsR w' (.slice A N c) (gotL b)
theorem getU {b : Bs} {w w' : World} {e : Ending} (h : GetPk b w e w') : GetU b w e w' := by
  obtain ⟨hb, ⟨u, v, hg, rfl, hv⟩ | ⟨hg, rfl⟩⟩ := h
  · have hr := hv.rd
    obtain ⟨A, c, rfl⟩ := hr.shape
    exact ⟨hb, A, _, c, by unfold gotE; rw [hg], by unfold gotL; rw [hg]; exact hr⟩
  · exact ⟨hb, none, 0, 0, by unfold gotE; rw [hg], by unfold gotL; rw [hg]; exact .inl ⟨⟨_, _, rfl⟩, rfl⟩⟩
theorem gotL_len (b : Bs) : (gotL b).length ≤ 1000000 := by
  unfold gotL
  cases hg : getP b with
  | none => simp
  | some u => have := (rightL_iff.1 (getP_iff.1 hg).1).1; simp; omega
set_option maxHeartbeats 8000000 in
set_option maxRecDepth 100000 in
theorem Tells_law (w : World) (hw : Wd w) (v : Value) (l : List Ent) (h : EntsR w v l) (hl : l.length ≤ limW) (vb : Value) (b : Bs) (hb : Dl.Rb w vb b) :
    Calls Tryz.prog 3 #[v, vb] w (RetBelow (.bool true) w) := by
  have HH := Lib.hid (head_any w hw)
  have HG := Lib.hid (fun W (hW : Below w.heap.size w W) => Great_any' (h.below hW (Nat.le_refl _)) hl)
  obtain ⟨A, ca, rfl⟩ := h.shape
  obtain ⟨Ab, cb, rfl, -⟩ := hb.shape
  have Hx := Lib.hid h; have HRb := Lib.hid hb; have Hw := Lib.hid hw
  obtain ⟨M, hM⟩ : ∃ M, M = b.length := ⟨_, rfl⟩
  obtain ⟨nl, hnl⟩ : ∃ M, M = l.length := ⟨_, rfl⟩
  rw [← hM] at HRb ⊢
  rw [← hnl] at Hx HG ⊢
  have HMM := Lib.hid hM
  clear h hb hw hl hM hnl
  go_enter Tryz.func3, Tryz.ntmps3
  go_wp2_with fail
  refine HH.out.mono ?_
  rintro e w1 ⟨rfl, b1⟩
  have H1 := Lib.hid b1
  have HG1 := Lib.hid (HG.out w1 b1)
  clear b1 HH HG
  go_wp2_with fail
  refine HG1.out.mono ?_
  rintro e w2 ⟨gr, rfl, b2, hsm⟩
  have H2 := Lib.hid (H1.out.trans (b2.mono H1.out.size))
  clear b2 HG1
  cases gr with
  | true =>
    clear hsm
    go_wp2_with fail
    go_ret
    exact ⟨rfl, H2.out⟩
  | false =>
  replace hsm := hsm rfl
  by_cases hb2 : 20000 < M
  · have d1 : (20000 : Int) < (M : Int) := by omega
    clear hsm
    go_wp2_with fail
    go_ret
    exact ⟨rfl, H2.out⟩
  have d1 : ¬ (20000 : Int) < (M : Int) := by omega
  have HMb : Hid (b.length ≤ 20000) := Lib.hid (by have := HMM.out; omega)
  have Hsm := Lib.hid hsm
  obtain ⟨X, hX⟩ : ∃ X, X = outB l := ⟨_, rfl⟩
  obtain ⟨E, hE⟩ : ∃ X, X = outE l := ⟨_, rfl⟩
  obtain ⟨U, hU⟩ : ∃ X, X = gotL b := ⟨_, rfl⟩
  obtain ⟨G, hG⟩ : ∃ X, X = gotE b := ⟨_, rfl⟩
  have HUl : Hid (U.length ≤ 1000000) := Lib.hid (by rw [hU]; exact gotL_len b)
  have HP : Hid (∀ W, Below w.heap.size w W → Calls Tryz.prog 12 #[.slice A nl ca] W (fun e w' => Below W.heap.size W w' ∧ ∃ A N c, e = .returned (.tuple #[.slice A N c, .int .i64 E]) ∧ Dl.Rb w' (.slice A N c) X)) := Lib.hid fun W hW => by
    rw [hX, hE]
    refine (Put_any (Hx.out.below hW (Nat.le_refl _)) Hsm.out.smal (fun hr => pack_small Hsm.out hr) (Hw.out.below hW).ob.pr (Hw.out.below hW).et).mono ?_
    rintro e w' ⟨hb, ⟨hr, rfl⟩ | ⟨hr, A, N, c, rfl, hN, ho⟩⟩
    · exact putU_no hb hr
    · exact putU_yes hb hr ho.rb
  have HQ : Hid (∀ W, Below w.heap.size w W → Calls Tryz.prog 13 #[.slice A nl ca] W (fun e w' => Below W.heap.size W w' ∧ ∃ A N c, e = .returned (.tuple #[.slice A N c, .int .i64 E]) ∧ Dl.Rb w' (.slice A N c) X)) := Lib.hid fun W hW => by
    rw [hX, hE]
    refine (RPut_any' (Hx.out.below hW (Nat.le_refl _)) Hsm.out).mono ?_
    rintro e w' ⟨hb, ⟨hr, rfl⟩ | ⟨hr, A, N, c, rfl, hN, ho⟩⟩
    · exact putU_no hb hr
    · exact putU_yes hb hr ho
  have HGp : Hid (∀ W, Below w.heap.size w W → Calls Tryz.prog 14 #[.slice Ab M cb] W (fun e w' => Below W.heap.size W w' ∧ ∃ A N c, e = .returned (.tuple #[.slice A N c, .int .i64 G]) ∧ EntsR w' (.slice A N c) U)) := Lib.hid fun W hW => by
    rw [hU, hG]
    exact (Get_any (HRb.out.below hW (Nat.le_refl _)) (by have := HMb.out; omega) (Hw.out.below hW).ob.pr (Hw.out.below hW).et).mono fun e w' hh => getU hh
  have HGr : Hid (∀ W, Below w.heap.size w W → Calls Tryz.prog 15 #[.slice Ab M cb] W (fun e w' => Below W.heap.size W w' ∧ ∃ A N c, e = .returned (.tuple #[.slice A N c, .int .i64 G]) ∧ EntsR w' (.slice A N c) U)) := Lib.hid fun W hW => by
    rw [hU, hG]
    exact (RGet_any' (HRb.out.below hW (Nat.le_refl _)) (by have := HMb.out; omega)).mono fun e w' hh => getU hh
  obtain ⟨R, hR⟩ : ∃ R, R = rightL l := ⟨_, rfl⟩
  have HR1 : Hid (∀ W, Below w.heap.size w W → Calls Tryz.prog 16 #[.slice A nl ca] W (RetBelow (.bool R) W)) := Lib.hid fun W hW => by rw [hR]; exact Right_any' (Hx.out.below hW (Nat.le_refl _)) Hsm.out.smal
  have HR2 : Hid (∀ W, Below w.heap.size w W → Calls Tryz.prog 17 #[.slice A nl ca] W (RetBelow (.bool R) W)) := Lib.hid fun W hW => by rw [hR]; exact RRight_any' (Hx.out.below hW (Nat.le_refl _)) Hsm.out.smal
  have hRR : (R == R) = true := by cases R <;> rfl
  have hEE : (E == E) = true := by simp
  have hGG : (G == G) = true := by simp
  clear hsm hb2 hX hE hU hG hR HRb Hx Hsm HMM
  go_wp2_with fail
  refine (HP.out _ H2.out).mono ?_
  rintro e w3 ⟨b3, A3, N3, c3, rfl, r3⟩
  have H3 := Lib.hid (H2.out.trans (b3.mono H2.out.size)); have R3 := Lib.hid r3
  clear b3 r3 HP
  go_wp2_with fail
  refine (HQ.out _ H3.out).mono ?_
  rintro e w4 ⟨b4, A4, N4, c4, rfl, r4⟩
  have H4 := Lib.hid (H3.out.trans (b4.mono H3.out.size)); have R34 := Lib.hid (R3.out.below b4 (Nat.le_refl _)); have R4 := Lib.hid r4
  clear b4 r4 HQ R3
  go_wp2_with fail
  refine (HGp.out _ H4.out).mono ?_
  rintro e w5 ⟨b5, A5, N5, c5, rfl, r5⟩
  have H5 := Lib.hid (H4.out.trans (b5.mono H4.out.size)); have R35 := Lib.hid (R34.out.below b5 (Nat.le_refl _)); have R45 := Lib.hid (R4.out.below b5 (Nat.le_refl _)); have R5 := Lib.hid r5
  clear b5 r5 HGp R34 R4
  go_wp2_with fail
  refine (HGr.out _ H5.out).mono ?_
  rintro e w6 ⟨b6, A6, N6, c6, rfl, r6⟩
  have H6 := Lib.hid (H5.out.trans (b6.mono H5.out.size)); have R36 := Lib.hid (R35.out.below b6 (Nat.le_refl _)); have R46 := Lib.hid (R45.out.below b6 (Nat.le_refl _)); have R56 := Lib.hid (R5.out.below b6 (Nat.le_refl _)); have R6 := Lib.hid r6
  clear b6 r6 HGr R35 R45 R5
  go_wp2_with fail
  refine (HR1.out _ H6.out).mono ?_
  rintro e w7 ⟨rfl, b7⟩
  have H7 := Lib.hid (H6.out.trans (b7.mono H6.out.size)); have B7 := Lib.hid b7
  clear b7 HR1
  go_wp2_with fail
  refine (HR2.out _ H7.out).mono ?_
  rintro e w8 ⟨rfl, b8⟩
  have H8 := Lib.hid (H7.out.trans (b8.mono H7.out.size)); have B8 := Lib.hid (B7.out.trans (b8.mono B7.out.size))
  have cv1 := (R36.out.below B8.out (Nat.le_refl _)).conv
  have cv2 := (R46.out.below B8.out (Nat.le_refl _)).conv
  have hsame := Same_any' (R56.out.below B8.out (Nat.le_refl _)) (R6.out.below B8.out (Nat.le_refl _)) HUl.out
  rw [show decide (U = U) = true from decide_eq_true rfl] at hsame
  have HSame := Lib.hid hsame
  clear b8 HR2 B7 B8 hsame R36 R46 R56 R6
  go_wp2_with fail
  refine HSame.out.mono ?_
  rintro e w9 ⟨rfl, b9⟩
  have H9 := Lib.hid (H8.out.trans (b9.mono H8.out.size))
  clear b9 HSame cv1 cv2
  go_wp2_with fail
  go_ret
  exact ⟨rfl, H9.out⟩
end Go.Proofs.YtgjddkeogboojaaGreatDoor.Pk
namespace Go.Proofs.YtgjddkeogboojaaGreatDoor.Pl
open Go.Proofs.YtgjddkeogboojaaGreatDoor Go.Proofs.YtgjddkeogboojaaGreatDoor.Pk
open Go Go.ChangeShapes Go.WideShapes Go.ChangeAt Go.RowKit
theorem own : ownKnob Tryz.prog.godebug = none := by kernel_rfl
theorem gTab : Tryz.prog.globalNamed "internal/strconv.uint64pow10" = some 8 := by kernel_rfl
theorem gPr : Tryz.prog.globalNamed "sacristy/digest.primes" = some 1 := by kernel_rfl
theorem gPrT : (Tryz.prog.globals[1]?).map (·.type) = some 200 := by kernel_rfl
theorem gOther : Tryz.prog.globalNamed "sacristy/object.errOther" = some 7 := by kernel_rfl
theorem gWrong : Tryz.prog.globalNamed "sacristy/object.errWrong" = some 4 := by kernel_rfl
theorem gOver : Tryz.prog.globalNamed "sacristy/object.errOver" = some 3 := by kernel_rfl
theorem etG : Tryz.prog.globalNamed "errors.errorType" = some 0 := by kernel_rfl
theorem etR : (Tryz.prog.cutTypes.find? (·.1 == "internal/reflectlite.rtype")).map (·.2) = some 172 := by kernel_rfl
theorem etT : Tryz.prog.types.size = 364 := by kernel_rfl
theorem etOne : ((List.range 364).filter fun t => Tryz.prog.rowNamed t [101, 114, 114, 111, 114]) = [64] := by kernel_rfl
theorem star : "*" ++ "errors.errorString" = "*errors.errorString" := by decide
theorem rowErr (u : TypeId) (h : Tryz.prog.typeName? 3 u = some "*errors.errorString") : u = 336 :=
  typeName_ptr_named (nm := "errors.errorString") (by rw [star]; kernel_rfl) (by kernel_rfl) (by decide) u (by rw [star]; exact h)
theorem tab_data : (Rows.laid_internal_strconv_uint64pow10 : DataW Unit) = Lib.tabData .u64 Lib.pow10Tab := by rfl
def primesD : List (DataW Unit) := match (Rows.laid_sacristy_digest_primes : DataW Unit) with | .agg ds => ds | _ => []
theorem primesD_eq : (Rows.laid_sacristy_digest_primes : DataW Unit) = .agg primesD := rfl
theorem primes_data : primesD.map (fun d => match d with | .lit (.int .u16 n) => n | _ => 0) = (List.range 64).map fun i => (primeN i : Int) := by decide +kernel
theorem prime_of {i : Nat} {n : Int} (hi : i < 64) (h : primesD[i]? = some (.lit (.int .u16 n))) : n = (primeN i : Int) := by
  have h1 := congrArg (·[i]?) primes_data
  simpa [List.getElem?_map, h, List.getElem?_range hi] using h1
def laidD : List (String × DataW Unit) := [("math/bits.deBruijn32tab", Rows.laid_math_bits_deBruijn32tab), ("math/bits.deBruijn64tab", Rows.laid_math_bits_deBruijn64tab), ("internal/strconv.uint64pow10", Rows.laid_internal_strconv_uint64pow10), ("sacristy/digest.primes", Rows.laid_sacristy_digest_primes), ("sacristy/object.errOther", Rows.laid_sacristy_object_errOther), ("sacristy/object.errWrong", Rows.laid_sacristy_object_errWrong), ("sacristy/object.errOver", Rows.laid_sacristy_object_errOver)]
def laidL : List (String × DataW Unit) := [("math/bits.deBruijn32tab", Rows.laid_math_bits_deBruijn32tab), ("math/bits.deBruijn64tab", Rows.laid_math_bits_deBruijn64tab), ("internal/strconv.uint64pow10", Rows.laid_internal_strconv_uint64pow10), ("sacristy/digest.primes", Rows.laid_sacristy_digest_primes), ("errors.errorType", Rows.laid_errors_errorType), ("sacristy/object.errOther", Rows.laid_sacristy_object_errOther), ("sacristy/object.errWrong", Rows.laid_sacristy_object_errWrong), ("sacristy/object.errOver", Rows.laid_sacristy_object_errOver)]
theorem cell_of_var {W : World} {n : String} {g : Nat} {v : Value} (hg : Tryz.prog.globalNamed n = some g) (h : W.var? Tryz.prog n = some #[v]) : W.cell? ⟨g, 0, none⟩ = some v := by
  simpa using World.var?_cell hg h 0
theorem et_of {W : World} (h : handlesMet Tryz.prog [("errors.errorType", Rows.laid_errors_errorType)] W) : Et W := by
  obtain ⟨name, u, ty, e1, e2, e3, e4, e5⟩ := h _ (List.mem_singleton.2 rfl)
  have en : name = [101, 114, 114, 111, 114] := (Option.some.inj e1).symm
  subst en
  obtain rfl := Option.some.inj (etR.symm.trans e2)
  have hm : ty ∈ (List.range 364).filter fun t => Tryz.prog.rowNamed t [101, 114, 114, 111, 114] := List.mem_filter.2 ⟨List.mem_range.2 (by rw [← etT]; exact e3), e4⟩
  rw [etOne] at hm
  obtain rfl := List.mem_singleton.1 hm
  have hh : typeHandle Tryz.prog 64 = .pointer (some ⟨11, 64, none⟩) := by kernel_rfl
  rw [hh] at e5
  unfold Et
  simpa using World.var?_cell etG e5 0
theorem pr_of {W : World} (h' : laidMet Tryz.prog laidD W) : Pr W := by
  obtain ⟨g, t, cs, fuel, p, h1, h2, h3, h4⟩ := Lib.laidMet.reads h' (n := "sacristy/digest.primes") (d := Rows.laid_sacristy_digest_primes) (.tail _ (.tail _ (.tail _ (.head _))))
  obtain rfl := Option.some.inj (gPr.symm.trans h1)
  obtain rfl := Option.some.inj (gPrT.symm.trans h2)
  rw [primesD_eq] at h4
  intro i hi
  obtain ⟨fuel', d, q, hd, ht⟩ := Lib.array_elem Tryz.underlying200 h4 i hi
  have c1 : Tryz.prog.cellsOf 33 = 1 := by kernel_rfl
  rw [c1, Nat.mul_one] at ht
  obtain ⟨n, hcs, hx, _⟩ := DataW.trod_int Tryz.underlying33 ht
  have hn : d = .lit (.int .u16 n) := congrArg Prod.fst hx
  subst hn
  rw [prime_of hi hd] at hcs
  have hc : cs[i]? = some (.int .u16 (primeN i : Int)) := by
    have h5 := congrArg (·[0]?) hcs
    simpa [List.getElem?_take, List.getElem?_drop] using h5
  have := World.var?_cell gPr h3 i
  rw [this]
  simpa using hc
set_option maxRecDepth 100000 in
theorem ob_of_laid {W : World} (h : laidMetH Tryz.prog laidL W) : Ob W := by
  have h' : laidMet Tryz.prog laidD W ∧ handlesMet Tryz.prog [("errors.errorType", Rows.laid_errors_errorType)] W := h
  have t2 := h'.1.tail.tail
  have t4 := t2.tail.tail
  obtain ⟨ao, aw, so, sw, co, cw, ty0, ty1, ho, hw, _, _, _, _, _, _, hne, hbo, hbw⟩ := laid_sentinels2 (g0 := 7) (g1 := 4) t4 gOther (by kernel_rfl) gWrong (by kernel_rfl) Tryz.underlying64 rowErr Tryz.underlying336 Tryz.underlying354 rfl rfl Tryz.underlying9 (by kernel_rfl) (by kernel_rfl)
  obtain ⟨av, sv, hv, _⟩ := laid_sentinel (g := 3) t4.tail.tail gOver (by kernel_rfl) Tryz.underlying64 rowErr Tryz.underlying336 Tryz.underlying354 rfl rfl Tryz.underlying9 (by kernel_rfl) (by kernel_rfl)
  refine ⟨⟨⟨⟨_, cell_of_var gOver hv⟩, ⟨aw, ao, fun e => hne e.symm, cell_of_var gWrong hw, cell_of_var gOther ho⟩, et_of h'.2⟩, ⟨aw, ao, cw, co, ty1, ty0, fun e => hne e.symm, cell_of_var gWrong hw, cell_of_var gOther ho, hbw, hbo⟩⟩, ?_, pr_of h'.1⟩
  rw [tab_data] at t2
  exact Lib.tabIs_of_head gTab (by kernel_rfl) Tryz.underlying310 Tryz.underlying111 (by kernel_rfl) (by kernel_rfl) t2
theorem wd_of_laid {W : World} (h : laidMetH Tryz.prog laidL W) : Wd W := by
  have h' : laidMet Tryz.prog laidD W ∧ handlesMet Tryz.prog [("errors.errorType", Rows.laid_errors_errorType)] W := h
  exact ⟨ob_of_laid h, et_of h'.2⟩
/-- A world that meets the condition. -/
noncomputable def low : Nat := (World.holding Tryz.prog default ⟨#[], #[], []⟩).heap.size
def litsOf : DataW Unit → List Value
  | .agg ds => ds.map fun d => match d with | .lit (.int k n) => .int k n | _ => .nilIface
  | _ => []
def textOf : DataW Unit → ByteArray
  | .iface _ (.ptr (.agg [.lit (.string s)])) => ⟨s.toArray⟩
  | _ => ⟨#[]⟩
def setCells (cs : List Value) : Obj → Obj
  | .cells _ t frozen => .cells cs.toArray t frozen
  | o => o
noncomputable def laidWorld (os : Os) : World :=
  let w0 := World.holding Tryz.prog os ⟨#[.cells #[.string (textOf Rows.laid_sacristy_object_errOther)] 354, .cells #[.string (textOf Rows.laid_sacristy_object_errWrong)] 354, .cells #[.string (textOf Rows.laid_sacristy_object_errOver)] 354], #[], []⟩
  { w0 with heap := ((((((((w0.heap.modify 7 (setCells [.iface 336 (.pointer (some ⟨low, 0, none⟩))])).modify 4 (setCells [.iface 336 (.pointer (some ⟨low + 1, 0, none⟩))])).modify 3 (setCells [.iface 336 (.pointer (some ⟨low + 2, 0, none⟩))])).modify
      8 (setCells (litsOf Rows.laid_internal_strconv_uint64pow10))).modify 9 (setCells (litsOf Rows.laid_math_bits_deBruijn32tab))).modify 10 (setCells (litsOf Rows.laid_math_bits_deBruijn64tab))).modify 1 (setCells (litsOf Rows.laid_sacristy_digest_primes))).modify 0 (setCells [.iface 172 (.agg #[.pointer (some ⟨11, 64, none⟩)])])) }
theorem laid_met (os : Os) (args : Array Value) : laidMetH Tryz.prog laidL ((laidWorld os).forCall (fun _ _ => 0) ⟨#[], args, []⟩).memory :=
  laidMetH_of_parts (laidMet_of_run' 8 (by kernel_rfl) (by kernel_rfl)) (by kernel_rfl)
theorem laid_out : laidOutB Tryz.prog = true := by kernel_rfl
/-- The arguments read as they did, where nothing below has turned. -/
theorem below_trodAll {H : Type} {enc : TypeId × Value → H} {W W' : World} (hb : Below W.heap.size W W') : ∀ {ts : List TypeId} {vs : List Value} {ds : List (DataW H)} {ps : List MemPlace},
    (∀ t ∈ ts, Tryz.prog.readableRec t = true ∧ t < Tryz.prog.types.size) → DataW.TrodAll enc Tryz.prog W 0 (fun _ => true) true ts vs ds ps → (∀ x ∈ ps, x.block < W.heap.size) → DataW.TrodAll enc Tryz.prog W' 0 (fun b => decide (b < W.heap.size)) true ts vs ds ps
  | [], [], [], _, _, h, _ => h
  | _ :: _, _ :: _, _ :: _, _, hT, ⟨p, q, h1, h2, e⟩, hs =>
    ⟨p, q, Below.trod laid_out (hT _ (List.mem_cons.2 (Or.inl rfl))).1 (hT _ (List.mem_cons.2 (Or.inl rfl))).2 h1 hb (fun x hx => hs x (by rw [e]; exact List.mem_append_left _ hx)),
      below_trodAll hb (fun t ht => hT t (List.mem_cons.2 (Or.inr ht))) h2 (fun x hx => hs x (by rw [e]; exact List.mem_append_right _ hx)), e⟩
theorem fits_of {H : Type} {ts : List TypeId} {ds : List (DataW H)} (h : (DataW.weightsEach Tryz.prog ts ds).all (· ≤ reachBytes) = true) {j : Nat} {t : TypeId} {d : DataW H} (ht : ts[j]? = some t) (hd : ds[j]? = some d) : Fits t d := fun n hn => by
  simpa using List.all_eq_true.1 h _ (DataW.weights_mem_each ht hd n hn)
section
variable {H : Type} {enc : TypeId × Value → H} {W : World} {r : Go.Reach} {b0 : Nat} {v : Value} {d : DataW H} {ps : List MemPlace}
theorem h00sp {g o : Nat} {sp : Option Nat} {x : Value} (h : W.cell? ((⟨g, o, sp⟩ : Addr).add 0) = some x) : W.cell? ⟨g, o, sp⟩ = some x := by
  have : (⟨g, o, sp⟩ : Addr).add 0 = ⟨g, o, sp⟩ := by simp [Addr.add]
  rwa [this] at h
theorem bytes_of (hval : Value.okWide Tryz.prog W r b0 23 v) (hd : DataW.Trod enc Tryz.prog W 0 (fun _ => true) true 23 v d ps) : ∃ l : List UInt8, l.length ≤ maxLen ∧ Dl.Rb W v l := by
  obtain ⟨a, len, cap, rfl⟩ := okWide_slice Tryz.underlying23 hval
  obtain ⟨fuel, h⟩ := hd
  rcases open_ints Tryz.underlying23 Tryz.underlying5 (by kernel_rfl) h with ⟨h0, _⟩ | ⟨a, len, cap, zs, h0, _, hle, hm, hz, _, hc, hw⟩
  · cases h0
    exact ⟨[], by simp, .inl ⟨⟨none, rfl⟩, rfl⟩⟩
  · cases h0
    rw [if_pos rfl] at hz
    by_cases h00 : cap = 0
    · have : len = 0 := by omega
      subst this; subst h00
      exact ⟨[], by simp, .inl ⟨⟨some a, rfl⟩, rfl⟩⟩
    · obtain ⟨g, o, sp⟩ := a
      have hsp : sp = none := cell_spot (h00sp (hc 0 (by omega)))
      subst hsp
      have hcell : ∀ i, i < cap → W.cell? ⟨g, o + i, none⟩ = some (.int .u8 (zs.getD i 0)) := fun i hi => by
        have := hc i (by omega)
        rwa [add_none] at this
      have hby : ∀ i, i < cap → zs.getD i 0 = (((zs.map fun z => UInt8.ofNat z.toNat).getD i 0).toNat : Int) := fun i hi => by
        rw [List.getD_eq_getElem?_getD, List.getD_eq_getElem?_getD, List.getElem?_map, List.getElem?_eq_getElem (by omega)]
        have := bounds_u8 (hw _ (List.getElem_mem (show i < zs.length by omega)))
        simp
        omega
      refine ⟨(zs.map fun z => UInt8.ofNat z.toNat).take len, by rw [List.length_take, List.length_map]; omega, .inr ⟨g, o, cap, ?_, ?_, ?_, fun j hj => ?_⟩⟩
      · rw [List.length_take, List.length_map, hz, Nat.min_eq_left hle]
      · rw [List.length_take, List.length_map]; omega
      · have := block_lt_of_cell (hcell 0 (by omega)); exact this
      · rw [List.length_take, List.length_map] at hj
        rw [hcell j (by omega), hby j (by omega)]
        congr 3
        rw [List.getD_eq_getElem?_getD, List.getD_eq_getElem?_getD, List.getElem?_take, if_pos (by omega)]
theorem ents_of (hval : Value.okWide Tryz.prog W r b0 22 v) (hd : DataW.Trod enc Tryz.prog W 0 (fun _ => true) true 22 v d ps) (hF : Fits 22 d) : ∃ l : List Ent, l.length ≤ limW ∧ EntsR W v l := by
  obtain ⟨a, len, cap, rfl⟩ := okWide_slice Tryz.underlying22 hval
  obtain ⟨fuel, h⟩ := hd
  exact open_ents (v := .slice a len cap) h hF
end
end Go.Proofs.YtgjddkeogboojaaGreatDoor.Pl
