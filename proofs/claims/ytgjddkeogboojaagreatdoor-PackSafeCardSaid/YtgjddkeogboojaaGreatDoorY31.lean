/-
  What is resolved is right, as many as entries, none deeper than may be; what waits for nobody's is lacking.
  What the rows' condition gives; a world that meets it; arguments that read as they did, and what they may be. One entry that comes in.
-/
import Derived.Test.YtgjddkeogboojaaGreatDoorY29
import Derived.Test.YtgjddkeogboojaaGreatDoorY30
import Derived.Test.YtgjddkeogboojaaGreatDoorY21
import Derived.Carry
import Derived.Test.YtgjddkeogboojaaGreatDoorCards
import Derived.Test.YtgjddkeogboojaaGreatDoorTie
import Derived.WalkKit
import Derived.ProofKit
import Derived.OpenShut
import Derived.Deep.DeepHandedRow
import Derived.LaidLaws
import Derived.LaidHandle
import Derived.Stop.LaidErr
import Derived.Stop.LaidTwo
import Derived.Lib.LaidU8
import Derived.Test.YtgjddkeogboojaaGreatDoorY19
import Derived.Test.YtgjddkeogboojaaGreatDoorY25
set_option maxHeartbeats 16000000
set_option maxRecDepth 100000
namespace Go.Proofs.YtgjddkeogboojaaGreatDoor.Pk
open Go.Proofs.YtgjddkeogboojaaGreatDoor
open Go Go.RowKit Go.Maps
theorem at_en (W : World) (g o n c k : Nat) (hk : k < n) : (Instr.indexAt 22 (.slice (some ⟨g, o, none⟩) n c) (.int .i64 (k : Int))).run Tryz.prog W = .ok (.pointer (some ⟨g, o + k * 4, none⟩)) W := by
 have h1 : (k : Int) < (n : Int) := by omega
 simp [go_sem, h1]
theorem fen_0 (W : World) (b o : Nat) : (Instr.fieldAt 51 (.pointer (some ⟨b, o, none⟩)) 0).run Tryz.prog W = .ok (.pointer (some ⟨b, o, none⟩)) W := by simp [go_sem]
theorem lss_n0 (W : World) (d : Nat) : (binOp .lss 3 (.int .i64 (d : Int)) (.int .i64 0)).run Tryz.prog W = .ok (.bool false) W := by
 have h1 : ¬ (d : Int) < 0 := by omega
 simp [go_sem]
theorem gtr_n16 (W : World) (d : Nat) (h : d ≤ 16) : (binOp .gtr 3 (.int .i64 (d : Int)) (.int .i64 16)).run Tryz.prog W = .ok (.bool false) W := by
 simp [go_sem]; omega
theorem eql_i0 (W : World) (d : Nat) (b : Bool) (h : decide (d = 0) = b) : (binOp .eql 3 (.int .i64 (d : Int)) (.int .i64 0)).run Tryz.prog W = .ok (.bool b) W := by
 subst h;exact eql_iI W (d : Int) 0 _ (by rw [Bool.eq_iff_iff, beq_iff_eq, decide_eq_true_eq]; omega)
theorem leq_i4 (W : World) (x : Int) (b : Bool) (h : decide (x ≤ 4) = b) : (binOp .leq 3 (.int .i64 x) (.int .i64 4)).run Tryz.prog W = .ok (.bool b) W := by
 cases b with
 | true =>
   have h1 := of_decide_eq_true h;simp [go_sem, h1]
 | false =>
   have h1 := of_decide_eq_false h;simp [go_sem]; omega
theorem neq_bb (W : World) (b : Bool) : (binOp .neq 4 (.bool b) (.bool b)).run Tryz.prog W = .ok (.bool false) W := by cases b <;> simp [go_sem]
theorem res_err {e : Ent} {b : Md} {n : Int} (h : resE e b = .error n) : n ≠ 0 := by
 unfold resE at h;split at h
 · split at h
   · cases h
   · split at h
     · cases h; decide
     · split at h
       · split at h
         · cases h; decide
         · cases h
       · cases h; decide
 · split at h
   · cases h
   · cases h; decide
theorem zem {l : List Ent} {hv : List Hld} {n : Int} : ∀ {k : Nat} {S : List Md}, z0o l hv k S = .error n → n ≠ 0
 | 0, S, h => by cases h
 | k + 1, S, h => by
   unfold z0o at h;cases hr : z0o l hv k S with
   | error m =>
     rw [hr] at h;cases h;exact zem hr
   | ok p =>
     obtain ⟨S', b⟩ := p;rw [hr] at h;simp only at h;cases hs : stepE l hv k S' with
     | error m =>
       rw [hs] at h;cases h;unfold stepE at hs;split at hs
       · cases hs
       · cases hre : resE (l.getD k z0p) (z2s S' hv k (l.getD k z0p)) with
         | error q =>
           rw [hre] at hs;cases hs;exact res_err hre
         | ok m =>
           rw [hre] at hs;simp only at hs;split at hs <;> cases hs
     | ok q =>
       obtain ⟨S2, c⟩ := q;rw [hs] at h;cases h
theorem zow {l : List Ent} {hv : List Hld} {n : Int} : ∀ {f : Nat} {S : List Md}, allE l hv f S = .error n → n ≠ 0
 | 0, S, h => by cases h
 | f + 1, S, h => by
   unfold allE at h;cases hr : z0o l hv l.length S with
   | error m =>
     rw [hr] at h;cases h;exact zem hr
   | ok p =>
     obtain ⟨S', b⟩ := p;rw [hr] at h;cases b with
     | true => exact zow h
     | false =>
       simp only at h;unfold endE at h;split at h
       · cases h
       · cases h; decide
theorem zga {l : List Ent} {hv : List Hld} {n : Int} (h : z0n l hv = .error n) : n ≠ 0 := by
 unfold z0n at h;split at h
 · exact zow h
 · cases h; decide
def nobL : Bs := [110, 111, 98, 111, 100, 121, 39, 115]
def nobO : Obj := .cells #[.int .u8 110, .int .u8 111, .int .u8 98, .int .u8 111, .int .u8 100, .int .u8 121, .int .u8 39, .int .u8 115] 5 (8, 9)
theorem nob_rb {w w1 : World} (h : w1 = w.alloc nobO) : Dl.Rb w1 (.slice (some ⟨w.heap.size, 0, none⟩) 8 8) nobL := by
 have hk : w1.heap[w.heap.size]? = some nobO := by rw [h]; exact heap_alloc_new w _
 refine .inr ⟨w.heap.size, 0, 8, rfl, Nat.le_refl _, lt_heap hk, fun j hj => ?_⟩;rw [Nat.zero_add, cell_of_row w1 _ j _ _ _ hk];have hj8 : j < 8 := hj
 match j, hj8 with
 | 0, _ => rfl
 | 1, _ => rfl
 | 2, _ => rfl
 | 3, _ => rfl
 | 4, _ => rfl
 | 5, _ => rfl
 | 6, _ => rfl
 | 7, _ => rfl
theorem Safe_law (w : World) (hw : Wd w) (v : Value) (l : List Ent) (h : EntsR w v l) (hl : l.length ≤ limW) {vh : Value} {hv : List Hld} (hh : HldsR w vh hv) (hlh : hv.length ≤ limW) :
 Calls Tryz.prog 7 #[v, vh] w (z06 (.bool true) w) := by
 have HH := zh (head_any w hw);have HG := zh (fun W (hW : Below w.heap.size w W) => zjb (h.below hW zl) hl);have HG2 := zh (fun W (hW : Below w.heap.size w W) => zne (hh.below hW zl) hlh);obtain ⟨A, ca, rfl⟩ := h.shape;obtain ⟨Ah, ch, rfl⟩ := hh.shape;have Hx := zh h; have Hh := zh hh; have Hw := zh hw;obtain ⟨n, hn⟩ := zx l.length;obtain ⟨nh, hnh⟩ := zx hv.length;rw [← hn] at Hx HG ⊢;rw [← hnh] at Hh HG2 ⊢;have Hn := zh hn;clear h hh hw hl hlh hn hnh
 go_enter Tryz.func7, Tryz.ntmps7
 go_wp2_with fail
 refine HH.out.mono ?_;rintro e w1 ⟨rfl, b1⟩;have H1 := zh b1;have HG1 := zh (HG.out w1 b1);clear b1 HH HG
 go_wp2_with fail
 refine HG1.out.mono ?_;rintro e w2 ⟨gr, rfl, b2, hsm⟩;have H2 := zh (H1.out.trans (b2.mono H1.out.size));clear b2 HG1;cases gr with
 | true =>
   clear hsm
   go_wp2_with fail
   go_ret
   exact ⟨rfl, H2.out⟩
 | false =>
 have Hsm := zh (hsm rfl);clear hsm
 go_wp2_with fail
 refine (HG2.out _ H2.out).mono ?_;rintro e w3 ⟨gr, rfl, b3, hsh⟩;have H3 := zh (H2.out.trans (b3.mono H2.out.size));clear b3 HG2;cases gr with
 | true =>
   clear hsh
   go_wp2_with fail
   go_ret
   exact ⟨rfl, H3.out⟩
 | false =>
 have Hsh := zh (hsh rfl);clear hsh
 have HWo : Hid (∀ W, Below w.heap.size w W → ∀ (L : List Ent) (vl : Value), EntsR W vl L → L.length ≤ 512 → (∀ x ∈ z0x L, x.length ≤ 1000000) → Calls Tryz.prog 61 #[vl, .slice Ah nh ch] W (WoH L hv vl W)) := zh fun W hW L vl hL hL5 hLn =>
  zg5 hL (Hh.out.below hW zl) hL5 (by have := Hsh.out.1; omega) (fun x hx => by have := (Hsh.out.2 x hx).1; omega) hLn (fun B v' w' hN => sort_any hN (by have := z9h hv (z0x L); have := Hsh.out.1; omega))
 have HRs : Hid (∀ W, Below w.heap.size w W → ∀ (L : List Ent) (vl : Value), EntsR W vl L → Smal L → (∀ e ∈ L, e.data.length ≤ 10000) → Calls Tryz.prog 21 #[vl, .slice Ah nh ch] W (RsOP L hv W)) := zh fun W hW L vl hL hs hd =>
  z9p hL hs hd (fun x hx => by have := (Hsh.out.2 x hx).2; omega) (Hw.out.below hW).ob (Hw.out.below hW).et (fun hr w1 hb => HWo.out w1 (hW.trans (hb.mono hW.size)) L vl (hL.below hb zl) (z0h.1 hr).1 (z5p fun e he => (hs.2 e he).1))
 have HDs : Hid (∀ W, Below w.heap.size w W → ∀ (L : List Ent) (vl : Value), EntsR W vl L → Smal L → (∀ e ∈ L, e.data.length ≤ 10000) → Calls Tryz.prog 22 #[vl, .slice Ah nh ch] W (RsIP L hv W)) := zh fun W hW L vl hL hs hd =>
  zhl hL hs hd (fun x hx => by have := (Hsh.out.2 x hx).2; omega) (Hw.out.below hW).ob (Hw.out.below hW).et (fun hr w1 hb => HWo.out w1 (hW.trans (hb.mono hW.size)) L vl (hL.below hb zl) (z0h.1 hr).1 (z5p fun e he => (hs.2 e he).1))
 have HR1 := zh (HRs.out _ H3.out l _ (Hx.out.below H3.out zl) Hsm.out.smal (z5q Hsm.out));clear HWo
 go_wp2_with fail
 refine HR1.out.mono ?_;intro e w4 hh;unfold RsOP at hh;obtain ⟨b4, hh⟩ := hh;have H4 := zh (H3.out.trans (b4.mono H3.out.size));have HD1 := zh (HDs.out _ H4.out l _ (Hx.out.below H4.out zl) Hsm.out.smal (z5q Hsm.out));clear HR1 HDs;cases hR : z0n l hv with
 | error q =>
   rw [hR] at hh;simp only at hh;rw [hh];have hq0 := zga hR;have hq1 : (q != 0) = true := by simpa using hq0
   have hq2 : (q == 0) = false := by simpa using hq0
   have hqq : (q != q) = false := by simp
   have hqe : (q == q) = true := by simp
   have HR := zh hR;clear hh b4 hR hq0
   go_wp2_with fail
   refine HD1.out.mono ?_;intro e w5 hh;unfold RsIP at hh;rw [HR.out] at hh;obtain ⟨b5, hh⟩ := hh;simp only at hh;rw [hh];have H5 := zh (H4.out.trans (b5.mono H4.out.size));clear hh b5 HD1 HR
   go_wp2_with fail
   go_ret
   exact ⟨rfl, H5.out⟩
 | ok T =>
 rw [hR] at hh;obtain ⟨v6, rfl, o6⟩ := hh;obtain ⟨hrl, hTl, hsafe⟩ := zdq hR;obtain ⟨A6, c6, rfl⟩ := own_sl o6;have O6 := zh o6;have h6l : (T.map obM).length = n := by rw [List.length_map, hTl, Hn.out]
 have H6l := zh h6l;rw [h6l] at O6 ⊢;have HR := zh hR; have HSf := zh hsafe; have HRl := zh hrl; have HTl := zh hTl;have B4 := zh b4;clear o6 b4 h6l hR hsafe hrl hTl
 go_wp2_with fail
 refine HD1.out.mono ?_;intro e w5 hh;unfold RsIP at hh;rw [HR.out] at hh;obtain ⟨b5, v7, rfl, o7⟩ := hh;have H5 := zh (H4.out.trans (b5.mono H4.out.size));obtain ⟨A7, c7, rfl⟩ := own_sl o7;have O7 := zh o7; have O65 : Hid (NewO w3.heap.size w5 (.slice A6 n c6) (T.map obM)) := zh (OwK.below O6.out b5 zl);have h7l : (T.map dpM).length = n := by rw [List.length_map, HTl.out, Hn.out]
 have H7l := zh h7l;rw [h7l] at O7 ⊢;have HX5 := zh (Hx.out.below H5.out zl);have hn9 : n < 900 := by have := Hsm.out.len; rw [Hn.out]; exact this
 clear o7 b5 h7l HD1 O6 B4
 go_wp2_with fail
 go_loopw [10] (fun iv wr => Hid (Below w5.heap.size w5 wr) ∧ ∃ k : Nat, k ≤ n ∧ iv = .int .i64 k) (fun iv _ => n - (intOf iv).toNat)
 case atStart => exact ⟨zh (Below.refl _ _), 0, Nat.zero_le _, rfl⟩
 case round =>
  obtain ⟨hB, k, hk, rfl⟩ := hrel;by_cases hlt : k < n
  · obtain ⟨ga, rfl, hca⟩ := z7n O65.out H6l.out.symm (by omega);obtain ⟨gd, rfl, hcd⟩ := zbd O7.out H7l.out.symm (by omega);obtain ⟨ge, oe, c', e, _, hg⟩ := HX5.out.pos (by have := Hn.out; omega);obtain rfl : A = some ⟨ge, oe, none⟩ := by rw [← Hn.out] at e; cases e; rfl
    clear e hg;have hkl : k < l.length := by have := Hn.out; omega
    have hkT : k < T.length := by have := HTl.out; omega
    obtain ⟨kd, hkd⟩ := zx ((T.getD k noMd).kd);obtain ⟨dt, hdt⟩ := zx ((T.getD k noMd).dt);obtain ⟨dp, hdp⟩ := zx ((T.getD k noMd).dp);obtain ⟨ek, hek⟩ := zx ((l.getD k z0p).kind);have eT : (T.map obM).getD k (0, []) = (kd, dt) := by rw [getD_map obM T k hkT noMd (0, []), hkd, hdt]; rfl
    have eD : (T.map dpM).getD k 0 = (dp : Int) := by rw [getD_map dpM T k hkT noMd 0, hdp]; rfl
    obtain ⟨hth, hsf⟩ := HSf.out k hkl;obtain ⟨s1, s2, s3, -⟩ := hsf hth;rw [← hkd, ← hdt] at s1;rw [← hdp] at s2 s3;rw [← hek] at s3;have hok := (z0h.1 HRl.out).2 k hkl
    have hkinds : ek = 6 ∨ ek = 7 ∨ (1 ≤ ek ∧ ek ≤ 4) := by
     obtain ⟨-, hf, -⟩ := z87 hok;rw [hek];rcases hf with ⟨h1, h2, _, _⟩ | ⟨h1, _, _⟩ | ⟨h1, _, _⟩
     · exact .inr (.inr ⟨h1, h2⟩)
     · exact .inl h1
     · exact .inr (.inl h1)
    have hdl : dt.length ≤ 100000 := by
     unfold z0g at s1;split at s1
     · cases s1
     · omega
    obtain ⟨b, hb⟩ : ∃ b, decide (dp = 0) = b := ⟨_, rfl⟩
    have hb1 : decide (ek ≤ 4) = b := by
     rw [← hb, Bool.eq_iff_iff, decide_eq_true_eq, decide_eq_true_eq, s3];omega
    have Hb0 := zh hb; have Hb1 := zh hb1; have Hdp := zh s2
    have HRg : Hid (∀ W, Calls Tryz.prog 25 #[.agg #[.int .i64 kd, .string ⟨dt.toArray⟩]] W (z06 (.bool true) W)) := zh fun W => by
     have := zjl kd dt hdl W
     rwa [s1] at this
    have HL1 := zh (fun W (hW : Below w5.heap.size w5 W) => l_obO (W := W) (g := ga) (o := k * 2) (k := kd) (d := dt) (by
     obtain ⟨g', e, hc⟩ := z7n (OwK.below O65.out hW zl) H6l.out.symm (by omega);cases e;have := (hc k hlt).1
     rwa [eT] at this) (by
     obtain ⟨g', e, hc⟩ := z7n (OwK.below O65.out hW zl) H6l.out.symm (by omega);cases e;have := (hc k hlt).2
     rwa [eT] at this))
    have HL2 := zh (fun W (hW : Below w5.heap.size w5 W) => l_I (W := W) (g := gd) (o := k * 1) (k := (dp : Int)) (by
     obtain ⟨g', e, hc⟩ := zbd (OwK.below O7.out hW zl) H7l.out.symm (by omega);cases e;have := hc k hlt
     rwa [eD] at this))
    have HL3 := zh (fun W (hW : Below w5.heap.size w5 W) => l_I (W := W) (g := ge) (o := oe + k * 4) (k := ek) (by
     have := (EntsR.cells (HX5.out.below hW zl) k hkl).1
     rwa [← hek] at this))
    have LD := zh hB.out.drew;have hltI : (k : Int) < (n : Int) := by omega
    clear hca hcd hkd hdt hdp hek eT eD hth s1 s2 s3 hok hkinds hdl hb hb1 hB hkl hkT hsf
    go_upto_region 11 with fail
    refine AnyB.start (by kernel_rfl) ?_;refine AnyB.tm 0 (.slice (some ⟨ga, 0, none⟩) n c6) rfl ?_;refine AnyB.tm 1 (.int .i64 (k : Int)) rfl ?_;refine AnyB.tk 2 (.pointer (some ⟨ga, k * 2, none⟩)) rfl (fun W hW => z0s rfl (by kernel_rfl) (by kernel_rfl) (at_o0 W ga n c6 k hlt)) ?_;refine AnyB.tk 3 (.agg #[.int .i64 kd, .string ⟨dt.toArray⟩]) rfl (fun W hW => z0f rfl (by kernel_rfl) (HL1.out W (LD.out.trans (hW.mono LD.out.size)))) ?_;refine AnyB.call 4 25 #[.agg #[.int .i64 kd, .string ⟨dt.toArray⟩]] (by kernel_rfl) rfl (by kernel_rfl) (by kernel_rfl) ?_;refine (HRg.out _).mono ?_;rintro e w9 ⟨rfl, b9⟩;have LE := zh (LD.out.trans (b9.mono LD.out.size));refine ⟨_, rfl, b9, ?_⟩;clear b9;refine AnyB.tm 5 (.bool false) rfl ?_;refine AnyB.tm 6 (.bool false) rfl ?_;refine AnyB.tm 7 (.slice (some ⟨gd, 0, none⟩) n c7) rfl ?_;refine AnyB.tm 8 (.int .i64 (k : Int)) rfl ?_;refine AnyB.tk 9 (.pointer (some ⟨gd, k * 1, none⟩)) rfl (fun W hW => z0s rfl (by kernel_rfl) (by kernel_rfl) (at_i0 W gd n c7 k hlt)) ?_;refine AnyB.tk 10 (.int .i64 (dp : Int)) rfl (fun W hW => z0f rfl (by kernel_rfl) (HL2.out W (LE.out.trans (hW.mono LE.out.size)))) ?_;refine AnyB.tk 11 (.bool false) rfl (fun W hW => y_bin rfl (by kernel_rfl) (by kernel_rfl) (by kernel_rfl) (lss_n0 W dp)) ?_;refine AnyB.tm 12 (.bool false) rfl ?_;refine AnyB.tm 13 (.bool false) rfl ?_;refine AnyB.tm 14 (.slice (some ⟨gd, 0, none⟩) n c7) rfl ?_;refine AnyB.tm 15 (.int .i64 (k : Int)) rfl ?_;refine AnyB.tk 16 (.pointer (some ⟨gd, k * 1, none⟩)) rfl (fun W hW => z0s rfl (by kernel_rfl) (by kernel_rfl) (at_i0 W gd n c7 k hlt)) ?_;refine AnyB.tk 17 (.int .i64 (dp : Int)) rfl (fun W hW => z0f rfl (by kernel_rfl) (HL2.out W (LE.out.trans (hW.mono LE.out.size)))) ?_;refine AnyB.tk 18 (.bool false) rfl (fun W hW => y_bin rfl (by kernel_rfl) (by kernel_rfl) (by kernel_rfl) (gtr_n16 W dp Hdp.out)) ?_;refine AnyB.tm 19 (.bool false) rfl ?_;refine AnyB.tm 20 (.bool false) rfl ?_;refine AnyB.tm 21 (.slice (some ⟨gd, 0, none⟩) n c7) rfl ?_;refine AnyB.tm 22 (.int .i64 (k : Int)) rfl ?_;refine AnyB.tk 23 (.pointer (some ⟨gd, k * 1, none⟩)) rfl (fun W hW => z0s rfl (by kernel_rfl) (by kernel_rfl) (at_i0 W gd n c7 k hlt)) ?_;refine AnyB.tk 24 (.int .i64 (dp : Int)) rfl (fun W hW => z0f rfl (by kernel_rfl) (HL2.out W (LE.out.trans (hW.mono LE.out.size)))) ?_;refine AnyB.tk 25 (.bool b) rfl (fun W hW => y_bin rfl (by kernel_rfl) (by kernel_rfl) (by kernel_rfl) (eql_i0 W dp b Hb0.out)) ?_;refine AnyB.tm 26 (.slice (some ⟨ge, oe, none⟩) n ca) rfl ?_;refine AnyB.tm 27 (.int .i64 (k : Int)) rfl ?_;refine AnyB.tk 28 (.pointer (some ⟨ge, oe + k * 4, none⟩)) rfl (fun W hW => z0s rfl (by kernel_rfl) (by kernel_rfl) (at_en W ge oe n ca k hlt)) ?_;refine AnyB.tk 29 (.pointer (some ⟨ge, oe + k * 4, none⟩)) rfl (fun W hW => z1i rfl (by kernel_rfl) (fen_0 W ge (oe + k * 4))) ?_;refine AnyB.tk 30 (.int .i64 ek) rfl (fun W hW => z0f rfl (by kernel_rfl) (HL3.out W (LE.out.trans (hW.mono LE.out.size)))) ?_;refine AnyB.tk 31 (.bool b) rfl (fun W hW => y_bin rfl (by kernel_rfl) (by kernel_rfl) (by kernel_rfl) (leq_i4 W ek b Hb1.out)) ?_;refine AnyB.tk 32 (.bool false) rfl (fun W hW => y_bin rfl (by kernel_rfl) (by kernel_rfl) (by kernel_rfl) (neq_bb W b)) ?_;refine AnyB.tm 33 (.bool false) rfl ?_;refine AnyB.done _ (by kernel_rfl) ?_;clear HL1 HL2 HL3 HRg Hb0 Hb1 Hdp;go_simp
    go_wp2_with fail
    go_roundw
    case rel => exact ⟨LE, k + 1, hlt, by go_num⟩
    case measure => simp [intOf]; omega
  · obtain rfl : k = n := by omega
    have hltI : ¬ (k : Int) < (k : Int) := by omega
    have H9 := zh (H5.out.trans (hB.out.mono H5.out.size));obtain ⟨w9, hw9⟩ := zx wr;rw [← hw9] at H9 ⊢;clear hw9 hB;obtain ⟨w10, hw10⟩ := zx (w9.alloc nobO);have b10 : Below w9.heap.size w9 w10 := by rw [hw10]; exact below_new w9 _
    have H10 := zh (H9.out.trans (b10.mono H9.out.size));have HNm := zh (zdu w10 _ nobL (by decide) (nob_rb hw10));have hw10' : w10 = w9.alloc (.cells #[.int .u8 110, .int .u8 111, .int .u8 98, .int .u8 111, .int .u8 100, .int .u8 121, .int .u8 39, .int .u8 115] 5 (8, 9)) := hw10;have HW10 := zh hw10';have hnm := z9s nobL;obtain ⟨nm, hnme⟩ := zx (z3u nobL);rw [← hnme] at HNm hnm;unfold SV at HNm;have Hnm := zh hnm;have kc := fun (w : World) (C : Array Value) (n c : Nat) => Lib.run_convert_bytes_const (P := Tryz.prog) w 23 5 C n c Tryz.underlying23 Tryz.underlying5;clear hw10 b10 hw10' hnm hnme
    go_wp2_with fail
    rw [← HW10.out];refine HNm.out.mono ?_;rintro e w11 ⟨rfl, b11⟩;have H11 := zh (H10.out.trans (b11.mono H10.out.size));clear kc HNm b11 HW10;obtain ⟨w12, hw12⟩ := zx (w11.alloc (.cells #[.int .i64 7, .int .i64 0, .string ⟨nm.toArray⟩, .string ⟨#[63]⟩] 51));have b12 : Below w11.heap.size w11 w12 := by rw [hw12]; exact below_new w11 _
    have k12 : w12.heap[w11.heap.size]? = some (.cells #[.int .i64 7, .int .i64 0, .string ⟨nm.toArray⟩, .string ⟨#[63]⟩] 51 (0, 0)) := by rw [hw12]; exact heap_alloc_new w11 _
    have H12 := zh (H11.out.trans (b12.mono H11.out.size));have HW12 := zh hw12;obtain ⟨p, hp⟩ := zx w11.heap.size;have HP := zh hp;rw [← hp] at k12;have K12 := zh k12;clear hw12 b12 hp k12
    go_upto_region 14 with fail
    rw [← HP.out, ← HW12.out];clear HP HW12;obtain ⟨q0, q1, q2, q3⟩ := cells4 K12.out;obtain ⟨w13, hw13⟩ := zx (w12.alloc (.cells #[.int .i64 7, .int .i64 0, .string ⟨nm.toArray⟩, .string ⟨#[63]⟩] 51));have b13 : Below w12.heap.size w12 w13 := by rw [hw13]; exact below_new w12 _
    have hone : EntsR w13 (.slice (some ⟨w12.heap.size, 0, none⟩) 1 1) [⟨7, 0, nm, [63]⟩] := by rw [hw13]; exact zhn w12 ⟨7, 0, nm, [63]⟩
    have H13 := zh (H12.out.trans (b13.mono H12.out.size));have hnl := named_len Hnm.out;have HR2 := zh (HRs.out _ H13.out _ _ hone ⟨by simp, fun e he => by obtain rfl := List.mem_singleton.1 he; exact ⟨by show nm.length ≤ 1000000; omega, by simp⟩⟩ (fun e he => by obtain rfl := List.mem_singleton.1 he; simp));have HW13 := zh hw13;have k13 := (b13.block p (lt_heap K12.out)).trans K12.out;have K13 := zh k13;have HFd := zh (fun W (hW : Below w.heap.size w W) => zng (Hh.out.below hW zl) (by have := Hsh.out.1; omega) nm);clear hw13 b13 hone hnl k13 HRs
    go_wp2_with fail
    rw [← HW13.out];refine HR2.out.mono ?_;intro e w14 hh;unfold RsOP at hh;obtain ⟨b14, hh⟩ := hh;have H14 := zh (H13.out.trans (b14.mono H13.out.size));have k14 := (b14.block p (lt_heap K13.out)).trans K13.out
    obtain ⟨v14, G, he, hG⟩ : ∃ v14 G, e = .returned (.tuple #[v14, .int .i64 G]) ∧ (thB hv nm = false → G = 51) := by
     cases hR2 : z0n [⟨7, 0, nm, [63]⟩] hv with
     | ok T2 =>
       rw [hR2] at hh;obtain ⟨v14, e14, -⟩ := hh;refine ⟨v14, 0, e14, fun hf => ?_⟩
       have hn : z0t hv nm = none := by
        unfold thB at hf;cases hq : z0t hv nm with
        | none => rfl
        | some x => rw [hq] at hf; cases hf
       rw [zc4 Hnm.out (by simp) hn] at hR2;cases hR2
     | error q =>
       rw [hR2] at hh;refine ⟨_, q, hh, fun hf => ?_⟩
       have hn : z0t hv nm = none := by
        unfold thB at hf;cases hq : z0t hv nm with
        | none => rfl
        | some x => rw [hq] at hf; cases hf
       rw [zc4 Hnm.out (by simp) hn] at hR2;cases hR2;rfl
    rw [he];have K14 := zh k14; have HGG := zh hG;clear hh b14 he k14 hG HR2 HW13 q0 q1 q2 q3;obtain ⟨q0, q1, q2, q3⟩ := cells4 K14.out
    go_wp2_with fail
    refine (HFd.out _ H14.out).mono ?_;rintro e w15 ⟨rfl, b15⟩;have H15 := zh (H14.out.trans (b15.mono H14.out.size));clear b15 HFd q0 q1 q2 q3;unfold zj2
    obtain ⟨ob, hob⟩ : ∃ (kk : Int) , ∃ dd : Bs, objC (z0t hv nm) = .agg #[.int .i64 kk, .string ⟨dd.toArray⟩] := by
     cases z0t hv nm with
     | none => exact ⟨0, [], rfl⟩
     | some x => exact ⟨x.kind, x.data, rfl⟩
    obtain ⟨dd, hob⟩ := hob;rw [hob];clear hob;cases hth : thB hv nm with
    | true =>
      clear hth HGG
      go_wp2_with fail
      go_ret
      exact ⟨rfl, H15.out.alloc H15.out.size _⟩
    | false =>
      obtain rfl := HGG.out hth;clear hth HGG
      go_wp2_with fail
      go_ret
      exact ⟨rfl, H15.out.alloc H15.out.size _⟩
end Go.Proofs.YtgjddkeogboojaaGreatDoor.Pk
namespace Go.Proofs.YtgjddkeogboojaaGreatDoor.Pl
open Go.Proofs.YtgjddkeogboojaaGreatDoor Go.Proofs.YtgjddkeogboojaaGreatDoor.Pk
open Go Go.ChangeShapes Go.WideShapes Go.ChangeAt Go.RowKit
theorem own : ownKnob Tryz.prog.godebug = none := by kernel_rfl
theorem gTab : Tryz.prog.globalNamed "internal/strconv.uint64pow10" = some 8 := by kernel_rfl
theorem gPr : Tryz.prog.globalNamed "sacristy/digest.primes" = some 1 := by kernel_rfl
theorem gPrT : (Tryz.prog.globals[1]?).map (·.type) = some 200 := by kernel_rfl
theorem zox : Tryz.prog.globalNamed "sacristy/object.errOther" = some 7 := by kernel_rfl
theorem zoy : Tryz.prog.globalNamed "sacristy/object.errWrong" = some 4 := by kernel_rfl
theorem gOver : Tryz.prog.globalNamed "sacristy/object.errOver" = some 3 := by kernel_rfl
theorem etG : Tryz.prog.globalNamed "errors.errorType" = some 0 := by kernel_rfl
theorem etR : (Tryz.prog.cutTypes.find? (·.1 == "internal/reflectlite.rtype")).map (·.2) = some 172 := by kernel_rfl
theorem etT : Tryz.prog.types.size = 364 := by kernel_rfl
theorem etOne : ((List.range 364).filter fun t => Tryz.prog.rowNamed t [101, 114, 114, 111, 114]) = [64] := by kernel_rfl
theorem star : "*" ++ "errors.errorString" = "*errors.errorString" := by decide
theorem rowErr (u : TypeId) (h : Tryz.prog.typeName? 3 u = some "*errors.errorString") : u = 336 :=
 typeName_ptr_named (nm := "errors.errorString") (by rw [star]; kernel_rfl) (by kernel_rfl) (by decide) u (by rw [star]; exact h)
theorem tab_data : (Rows.laid_internal_strconv_uint64pow10 : DataW Unit) = Lib.tabData .u64 Lib.pow10Tab := by rfl
def primesD : List (DataW Unit) := match (Rows.laid_sacristy_digest_primes : DataW Unit) with | .agg ds => ds | _ => []
theorem zjx : (Rows.laid_sacristy_digest_primes : DataW Unit) = .agg primesD := rfl
theorem zgb : primesD.map (fun d => match d with | .lit (.int .u16 n) => n | _ => 0) = (List.range 64).map fun i => (primeN i : Int) := by decide +kernel
theorem prime_of {i : Nat} {n : Int} (hi : i < 64) (h : primesD[i]? = some (.lit (.int .u16 n))) : n = (primeN i : Int) := by
 have h1 := congrArg (·[i]?) zgb;simpa [List.getElem?_map, h, List.getElem?_range hi] using h1
def laidD : List (String × DataW Unit) := [("math/bits.deBruijn32tab", Rows.laid_math_bits_deBruijn32tab), ("math/bits.deBruijn64tab", Rows.laid_math_bits_deBruijn64tab), ("internal/strconv.uint64pow10", Rows.laid_internal_strconv_uint64pow10), ("sacristy/digest.primes", Rows.laid_sacristy_digest_primes), ("sacristy/object.errOther", Rows.laid_sacristy_object_errOther), ("sacristy/object.errWrong", Rows.laid_sacristy_object_errWrong), ("sacristy/object.errOver", Rows.laid_sacristy_object_errOver)]
def laidL : List (String × DataW Unit) := [("math/bits.deBruijn32tab", Rows.laid_math_bits_deBruijn32tab), ("math/bits.deBruijn64tab", Rows.laid_math_bits_deBruijn64tab), ("internal/strconv.uint64pow10", Rows.laid_internal_strconv_uint64pow10), ("sacristy/digest.primes", Rows.laid_sacristy_digest_primes), ("errors.errorType", Rows.laid_errors_errorType), ("sacristy/object.errOther", Rows.laid_sacristy_object_errOther), ("sacristy/object.errWrong", Rows.laid_sacristy_object_errWrong), ("sacristy/object.errOver", Rows.laid_sacristy_object_errOver)]
theorem z3h {W : World} {n : String} {g : Nat} {v : Value} (hg : Tryz.prog.globalNamed n = some g) (h : W.var? Tryz.prog n = some #[v]) : W.cell? ⟨g, 0, none⟩ = some v := by
 simpa using World.var?_cell hg h 0
theorem et_of {W : World} (h : handlesMet Tryz.prog [("errors.errorType", Rows.laid_errors_errorType)] W) : Et W := by
 obtain ⟨name, u, ty, e1, e2, e3, e4, e5⟩ := h _ (List.mem_singleton.2 rfl);have en : name = [101, 114, 114, 111, 114] := (Option.some.inj e1).symm;subst en;obtain rfl := Option.some.inj (etR.symm.trans e2);have hm : ty ∈ (List.range 364).filter fun t => Tryz.prog.rowNamed t [101, 114, 114, 111, 114] := List.mem_filter.2 ⟨List.mem_range.2 (by rw [← etT]; exact e3), e4⟩;rw [etOne] at hm;obtain rfl := List.mem_singleton.1 hm;have hh : typeHandle Tryz.prog 64 = .pointer (some ⟨11, 64, none⟩) := by kernel_rfl
 rw [hh] at e5;unfold Et;simpa using World.var?_cell etG e5 0
theorem pr_of {W : World} (h' : laidMet Tryz.prog laidD W) : Pr W := by
 obtain ⟨g, t, cs, fuel, p, h1, h2, h3, h4⟩ := Lib.laidMet.reads h' (n := "sacristy/digest.primes") (d := Rows.laid_sacristy_digest_primes) (.tail _ (.tail _ (.tail _ (.head _))));obtain rfl := Option.some.inj (gPr.symm.trans h1);obtain rfl := Option.some.inj (gPrT.symm.trans h2);rw [zjx] at h4;intro i hi;obtain ⟨fuel', d, q, hd, ht⟩ := Lib.array_elem Tryz.underlying200 h4 i hi;have c1 : Tryz.prog.cellsOf 33 = 1 := by kernel_rfl
 rw [c1, Nat.mul_one] at ht;obtain ⟨n, hcs, hx, _⟩ := DataW.trod_int Tryz.underlying33 ht;have hn : d = .lit (.int .u16 n) := congrArg Prod.fst hx;subst hn;rw [prime_of hi hd] at hcs
 have hc : cs[i]? = some (.int .u16 (primeN i : Int)) := by
  have h5 := congrArg (·[0]?) hcs;simpa [List.getElem?_take, List.getElem?_drop] using h5
 have := World.var?_cell gPr h3 i;rw [this];simpa using hc
theorem zjy {W : World} (h : laidMetH Tryz.prog laidL W) : Ob W := by
 have h' : laidMet Tryz.prog laidD W ∧ handlesMet Tryz.prog [("errors.errorType", Rows.laid_errors_errorType)] W := h;have t2 := h'.1.tail.tail;have t4 := t2.tail.tail;obtain ⟨ao, aw, so, sw, co, cw, ty0, ty1, ho, hw, _, _, _, _, _, _, hne, hbo, hbw⟩ := laid_sentinels2 (g0 := 7) (g1 := 4) t4 zox (by kernel_rfl) zoy (by kernel_rfl) Tryz.underlying64 rowErr Tryz.underlying336 Tryz.underlying354 rfl rfl Tryz.underlying9 (by kernel_rfl) (by kernel_rfl);obtain ⟨av, sv, hv, _⟩ := laid_sentinel (g := 3) t4.tail.tail gOver (by kernel_rfl) Tryz.underlying64 rowErr Tryz.underlying336 Tryz.underlying354 rfl rfl Tryz.underlying9 (by kernel_rfl) (by kernel_rfl);refine ⟨⟨⟨⟨_, z3h gOver hv⟩, ⟨aw, ao, fun e => hne e.symm, z3h zoy hw, z3h zox ho⟩, et_of h'.2⟩, ⟨aw, ao, cw, co, ty1, ty0, fun e => hne e.symm, z3h zoy hw, z3h zox ho, hbw, hbo⟩⟩, ?_, pr_of h'.1⟩;rw [tab_data] at t2;exact Lib.tabIs_of_head gTab (by kernel_rfl) Tryz.underlying310 Tryz.underlying111 (by kernel_rfl) (by kernel_rfl) t2
theorem zjz {W : World} (h : laidMetH Tryz.prog laidL W) : Wd W := by
 have h' : laidMet Tryz.prog laidD W ∧ handlesMet Tryz.prog [("errors.errorType", Rows.laid_errors_errorType)] W := h;exact ⟨zjy h, et_of h'.2⟩
noncomputable def low : Nat := (World.holding Tryz.prog default ⟨#[], #[], []⟩).heap.size
def zhy : DataW Unit → List Value
 | .agg ds => ds.map fun d => match d with | .lit (.int k n) => .int k n | _ => .nilIface
 | _ => []
def textOf : DataW Unit → ByteArray
 | .iface _ (.ptr (.agg [.lit (.string s)])) => ⟨s.toArray⟩
 | _ => ⟨#[]⟩
def setCells (cs : List Value) : Obj → Obj
 | .cells _ t frozen => .cells cs.toArray t frozen
 | o => o
noncomputable def za0 (os : Os) : World :=
 let w0 := World.holding Tryz.prog os ⟨#[.cells #[.string (textOf Rows.laid_sacristy_object_errOther)] 354, .cells #[.string (textOf Rows.laid_sacristy_object_errWrong)] 354, .cells #[.string (textOf Rows.laid_sacristy_object_errOver)] 354], #[], []⟩
 { w0 with heap := ((((((((w0.heap.modify 7 (setCells [.iface 336 (.pointer (some ⟨low, 0, none⟩))])).modify 4 (setCells [.iface 336 (.pointer (some ⟨low + 1, 0, none⟩))])).modify 3 (setCells [.iface 336 (.pointer (some ⟨low + 2, 0, none⟩))])).modify
    8 (setCells (zhy Rows.laid_internal_strconv_uint64pow10))).modify 9 (setCells (zhy Rows.laid_math_bits_deBruijn32tab))).modify 10 (setCells (zhy Rows.laid_math_bits_deBruijn64tab))).modify 1 (setCells (zhy Rows.laid_sacristy_digest_primes))).modify 0 (setCells [.iface 172 (.agg #[.pointer (some ⟨11, 64, none⟩)])])) }
theorem laid_met (os : Os) (args : Array Value) : laidMetH Tryz.prog laidL ((za0 os).forCall (fun _ _ => 0) ⟨#[], args, []⟩).memory :=
 laidMetH_of_parts (laidMet_of_run' 8 (by kernel_rfl) (by kernel_rfl)) (by kernel_rfl)
theorem laid_out : laidOutB Tryz.prog = true := by kernel_rfl
theorem z6y {H : Type} {enc : TypeId × Value → H} {W W' : World} (hb : Below W.heap.size W W') : ∀ {ts : List TypeId} {vs : List Value} {ds : List (DataW H)} {ps : List MemPlace},
 (∀ t ∈ ts, Tryz.prog.readableRec t = true ∧ t < Tryz.prog.types.size) → DataW.TrodAll enc Tryz.prog W 0 (fun _ => true) true ts vs ds ps → (∀ x ∈ ps, x.block < W.heap.size) → DataW.TrodAll enc Tryz.prog W' 0 (fun b => decide (b < W.heap.size)) true ts vs ds ps
 | [], [], [], _, _, h, _ => h
 | _ :: _, _ :: _, _ :: _, _, hT, ⟨p, q, h1, h2, e⟩, hs =>
   ⟨p, q, Below.trod laid_out (hT _ (List.mem_cons.2 (Or.inl rfl))).1 (hT _ (List.mem_cons.2 (Or.inl rfl))).2 h1 hb (fun x hx => hs x (by rw [e]; exact List.mem_append_left _ hx)),
     z6y hb (fun t ht => hT t (List.mem_cons.2 (Or.inr ht))) h2 (fun x hx => hs x (by rw [e]; exact List.mem_append_right _ hx)), e⟩
theorem zoz {H : Type} {ts : List TypeId} {ds : List (DataW H)} (h : (DataW.weightsEach Tryz.prog ts ds).all (· ≤ reachBytes) = true) {j : Nat} {t : TypeId} {d : DataW H} (ht : ts[j]? = some t) (hd : ds[j]? = some d) : Fits t d := fun n hn => by
 simpa using List.all_eq_true.1 h _ (DataW.weights_mem_each ht hd n hn)
section
variable {H : Type} {enc : TypeId × Value → H} {W : World} {r : Go.Reach} {b0 : Nat} {v : Value} {d : DataW H} {ps : List MemPlace}
set_option maxRecDepth 100000
theorem helds_of (hval : Value.okWide Tryz.prog W r b0 38 v) (hd : DataW.Trod enc Tryz.prog W 0 (fun _ => true) true 38 v d ps) (hF : Fits 38 d) : ∃ l : List Hld, l.length ≤ limW ∧ HldsR W v l := by
 obtain ⟨a, len, cap, rfl⟩ := okWide_slice Tryz.underlying38 hval;obtain ⟨fuel, h⟩ := hd;exact zje (v := .slice a len cap) h hF
theorem ents_of (hval : Value.okWide Tryz.prog W r b0 22 v) (hd : DataW.Trod enc Tryz.prog W 0 (fun _ => true) true 22 v d ps) (hF : Fits 22 d) : ∃ l : List Ent, l.length ≤ limW ∧ EntsR W v l := by
 obtain ⟨a, len, cap, rfl⟩ := okWide_slice Tryz.underlying22 hval;obtain ⟨fuel, h⟩ := hd;exact zob (v := .slice a len cap) h hF
end
end Go.Proofs.YtgjddkeogboojaaGreatDoor.Pl
