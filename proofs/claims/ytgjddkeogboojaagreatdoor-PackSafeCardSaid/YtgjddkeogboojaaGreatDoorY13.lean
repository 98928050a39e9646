/-
  written, Put. putInserts, putCopy. A range over an iterator, out of its body. Make. errors.Is at a delta's error.
-/
import Derived.Test.YtgjddkeogboojaaGreatDoorY06
import Derived.Test.YtgjddkeogboojaaGreatDoorY12
import Derived.RangeFuncNested
import Derived.RangeFuncLeaves
import Derived.Shelf.RegionOpen
import Derived.OwnWalkIn
import Derived.TacticsInMore
import Derived.LoopNIn
import Derived.LoopIn
import Derived.Lib.AppendZeros
import Derived.Deep.CutRange
import Derived.LaidEql
import Derived.Stop.Asserts
import Derived.RowKitTokens
set_option maxHeartbeats 16000000
set_option maxRecDepth 100000
namespace Go.Proofs.YtgjddkeogboojaaGreatDoor.Pk
open Go.Proofs.YtgjddkeogboojaaGreatDoor
open Go Go.RowKit
theorem putL_pos (n : Nat) : 0 < (Dl.putL n).length := by
 rw [Dl.putL]; split <;> simp
theorem zdg (a b : List Ent) : z2x (a ++ b) = z2x a ++ z2x b := by unfold z2x; simp
def preB (l : List Ent) (k : Nat) : Bs := (magicL ++ Dl.putL l.length) ++ z2x (l.take k)
theorem zm1 (l : List Ent) : preB l 0 = magicL ++ Dl.putL l.length := by unfold preB; simp [z2x]
theorem preB_all (l : List Ent) : preB l l.length = z1t l := by unfold preB z1t; rw [List.take_length]
theorem zm2 {l : List Ent} {k : Nat} (h : k < l.length) : preB l (k + 1) = preB l k ++ entB (l.getD k z0p) := by
 unfold preB;rw [z0l l z0p k h, zi3, List.append_assoc (magicL ++ _)]
theorem zbx (l : List Ent) (k : Nat) : (preB l k).length + 32 ≤ (z23 l).length := by
 unfold z23;rw [List.length_append, z11];unfold preB z1t;rw [List.length_append, List.length_append (bs := z2x l)];have h2 : (z2x l).length = (z2x (l.take k)).length + (z2x (l.drop k)).length := by rw [← List.length_append, ← zdg, List.take_append_drop]
 omega
theorem neqF (v : Value) (w : World) : (binOp .neq 64 (.iface 107 v) .nilIface).run Tryz.prog w = .ok (.bool true) w := by
 go_simp
theorem sum_rb {w : World} {g : Nat} {s : Bs} (h : w.heap[g]? = some (.cells (u8s 32 (z30 (sumV s))) 68 (0, 0))) : Dl.Rb w (.slice (some ⟨g, 0, none⟩) 32 32) (sumL s) :=
 .inr ⟨g, 0, 32, by rw [z11], by rw [z11]; omega, lt_heap h, fun j hj => by
  rw [z11] at hj;rw [Nat.zero_add, cell_of_row w g j _ _ _ h, z47 _ _ _ hj];unfold sumL;rw [zg, List.getElem?_map, List.getElem?_range hj];rfl⟩
theorem zh0 : ∃ mx : Int, mx = 262144 ∧ 50000 < mx := ⟨_, rfl, by omega⟩
def WrP (l : List Ent) (w : World) (e : Ending) (w' : World) : Prop := Below w.heap.size w w' ∧ ((rightL l = false ∧ ∃ ev, e = .returned (.tuple #[.slice none 0 0, ev]) ∧ FaultIn w' ev 1) ∨
 (rightL l = true ∧ ∃ A N c, e = .returned (.tuple #[.slice A N c, .nilIface]) ∧ N = (z23 l).length ∧ Dl.Ow w' w.heap.size (.slice A N c) (z23 l)))
theorem zfk {w : World} {v : Value} {l : List Ent} (h : EntsR w v l) (hs : Smal l) (hz : rightL l = true → (z23 l).length ≤ 40000) (hp : Pr w) :
 Calls Tryz.prog 30 #[v] w (WrP l w) := by
 have HC := zh (z54 h hs 1);obtain ⟨A, c, rfl⟩ := h.shape;have hl := hs.1;have Hx := zh h; have HS := zh hs.2; have Hz := zh hz; have Hp := zh hp;have q1 := neqF; have kc := fun (w : World) (C : Array Value) (n c : Nat) => Lib.run_convert_bytes_const (P := Tryz.prog) w 23 5 C n c Tryz.underlying23 Tryz.underlying5;clear h hs hz hp
 go_enter Tryz.func30, Tryz.ntmps30
 go_wp2_with fail
 refine HC.out.mono ?_;clear HC;rintro e w1 ⟨b1, ⟨hr, rfl⟩ | ⟨hr, ev, rfl, hf⟩⟩
 · have hR := z0h.1 hr;have hz := Hz.out hr;have HR := zh hr; have HB1 := zh b1;have HAll := zh (z6c hr);have HBk : Hid (∀ j, j < l.length → (l.getD j z0p).back ≤ 1000000) := zh fun j hj => by have := (z87 (hR.2 j hj)).2.2; have := hR.1; omega
   have hl2 := hR.1;clear b1 hr Hz hR
   go_upto_region 4 with fail
   obtain ⟨w2, hw2⟩ := zx (w1.alloc paksO);have b2 : Below w1.heap.size w1 w2 := by rw [hw2]; exact below_new w1 _
   have HPk : Hid (∀ {W : World}, Below w2.heap.size w2 W → ∀ j u, (magicL.map Dl.bv)[j]? = some u → W.cell? ((⟨w1.heap.size, 0, none⟩ : Addr).add j) = some u) := zh fun hb => zi9 hw2 hb;have hw2' : w2 = w1.alloc (.cells #[.int .u8 80, .int .u8 65, .int .u8 75, .int .u8 83] 5 (4, 5)) := hw2;have HW2 := zh hw2'; have HB2 := zh (HB1.out.trans (b2.mono HB1.out.size));have HP := zh (fun W => Dl.Put_any (l.length : Int) W);rw [Dl.putI_nat (by omega)] at HP;have H6 := zh (Dl.putL_len6 (n := l.length) (by omega));have HZ0 := zh (zm1 l);obtain ⟨p0, hp0⟩ := zx (preB l 0);obtain ⟨dl, hdl⟩ := zx (Dl.putL l.length);rw [← hdl] at HP H6 HZ0;rw [← hp0] at HZ0;have HP0 := zh hp0;have H1 : Hid (0 < dl.length) := zh (by rw [hdl]; exact putL_pos _);clear hw2 hw2' b2 hp0 hdl
   go_wp2_with fail
   rw [← HW2.out];refine (HP.out _).mono ?_;rintro e w3 ⟨A3, c3, rfl, r3, l3⟩;have R3 := zh r3; have HB3 := zh (HB2.out.trans (l3.mono HB2.out.size)); have HC3 := zh (HPk.out l3);have Q3 : Hid ((magicL : Bs).length + dl.length ≤ 100000000) := zh (by have := H6.out; unfold magicL; simp; omega);have S3 : Hid (w.heap.size ≤ w3.heap.size) := zh HB3.out.size;clear r3 l3 HW2 HP H6 HPk
   go_wp2_with (refine za5 (o := ⟨some 19, _, _, _, _, _⟩) rfl _ _ rfl w.heap.size _ 4 _ magicL dl rfl rfl rfl HC3.out R3.out H1.out Q3.out S3.out HZ0.out ?_)
   intro v4 w4 o4 f4;have HB4 := zh (HB3.out.trans (f4.mono HB3.out.size));have O4 := zh o4;clear f4 o4 HC3 R3 Q3 S3 HB3 HZ0 H1 kc;obtain ⟨A4, N4, c4, rfl, -⟩ := z1m O4.out;rw [HP0.out] at O4;clear HP0 p0
   go_upto_region 6 with fail
   go_loopw [22, 5] (fun i z wr => Hid (Below w.heap.size w wr) ∧ ∃ k : Nat, k ≤ l.length ∧ i = .int .i64 k ∧ Hid (Dl.Ow wr w.heap.size z (preB l k))) (fun i _ _ => l.length - (intOf i).toNat)
   case atStart => exact ⟨HB4, 0, Nat.zero_le _, rfl, O4⟩
   case round =>
    obtain ⟨hB, k, hk, rfl, hO⟩ := hrel;obtain ⟨Az, Nz, cz, rfl, -⟩ := z1m hO.out;by_cases hlt : k < l.length
    · obtain ⟨g, o, c', e, _, hg⟩ := Hx.out.pos (by omega);cases e;obtain ⟨p0, p1, p2, p3⟩ := EntsR.cells (Hx.out.below hB.out zl) k hlt;have hmem := z1w l z0p k hlt;have hlen := HS.out _ hmem;have hfit := (HAll.out _ hmem).1;have hbk := HBk.out k hlt;have hsu := zm2 hlt;have hpl := zbx l k;have hpl2 := zbx l (k + 1);obtain ⟨x, hx⟩ := zx (l.getD k z0p);rw [← hx] at p0 p1 p2 p3 hlen hfit hbk hsu;obtain ⟨w5, hw5⟩ := zx (wr.alloc (entO x));have b5 : Below wr.heap.size wr w5 := by rw [hw5]; exact below_new wr _
      obtain ⟨q0, q1, q2, q3⟩ := z3x hw5;have o5 := hO.out.below b5 zl;have hB5 := hB.out.trans (b5.mono hB.out.size);have hPE := zcu o5 hB5.size hfit (by omega) hlen hbk;rw [← hsu] at hPE;obtain ⟨p, hp⟩ := zx (preB l (k + 1));rw [← hp] at hPE hpl2;obtain ⟨xk, xb, xs, xd⟩ := x;unfold SV at p2 p3;unfold entV at hPE;unfold entO at hw5;simp only at p0 p1 p2 p3 q0 q1 q2 q3 hPE hw5;have HPE := zh hPE; have HW5 := zh hw5; have HB5 := zh hB5; have HPp := zh hp;have HO5 : Hid (∀ k, (Value.slice Az Nz cz).ownBlock = some k → w.heap.size ≤ k) := zh fun k hk => (o5.lt k hk).1;clear hPE hw5 hB5 hp hx b5 o5 hsu hlen hfit hbk hmem hpl
      go_upto_region 8 with fail
      rw [← HW5.out];clear p0 p1 p2 p3
      go_wp2_with fail
      refine HPE.out.mono ?_;rintro e w6 ⟨A6, N6, c6, rfl, hN6, o6, f6⟩;have HB6 := zh (HB5.out.trans (zl3 f6 HO5.out HB5.out.size));rw [HPp.out] at o6;have O6 := zh o6;obtain ⟨mx, hmx, hmx2⟩ := zh0;have hN : (N6 : Int) + 32 ≤ mx := by omega
      have hN3 : (N6 : Int) ≤ 39968 := by omega
      clear o6 f6 hN6 hpl2 HPE q0 q1 q2 q3 hmx2
      go_upto_region 9 with fail
      rw [← hmx];clear hmx
      go_wp2_with fail
      go_roundw
      case rel => exact ⟨HB6, k + 1, hlt, by go_num, O6⟩
      case measure => simp [intOf]; omega
    · obtain rfl : k = l.length := by omega
      have hpl := zbx l l.length;rw [preB_all] at hO hpl;have hsum := fun (W : World) (hb : Below wr.heap.size wr W) => zfi W (.slice Az Nz cz) (z1t l) (Hp.out.below (hB.out.trans (hb.mono hB.out.size)) Hp.out.lt) (by omega) (hO.out.rb.below hb zl);have HSum := zh hsum;clear hsum
      go_wp2_with fail
      refine (HSum.out _ (Below.refl _ _)).mono ?_;intro e w6 hh;rw [hh.1];have b6 := hh.2;clear hh;obtain ⟨w7, hw7⟩ := zx (w6.alloc (.cells (u8s 32 (z30 (sumV (z1t l)))) 68));have b7 : Below w6.heap.size w6 w7 := by rw [hw7]; exact below_new w6 _
      have R7 := zh (sum_rb (w := w7) (g := w6.heap.size) (s := z1t l) (by rw [hw7]; exact heap_alloc_new w6 _));have O7 := zh ((hO.out.below b6 zl).below b7 zl);have HB7 := zh ((hB.out.trans (b6.mono hB.out.size)).trans (b7.mono (Nat.le_trans hB.out.size b6.size)));have Q7 : Hid ((z1t l).length + (sumL (z1t l)).length ≤ 140737488355328) := zh (by rw [z11]; omega);have S7 : Hid (w.heap.size ≤ w7.heap.size) := zh HB7.out.size;have HPk : Hid (z23 l = z1t l ++ sumL (z1t l)) := zh rfl;obtain ⟨F, hF⟩ := zx (z30 (sumV (z1t l)));rw [← hF] at hw7;rw [← hF];obtain ⟨sm, hsm⟩ := zx (sumL (z1t l));rw [← hsm] at R7 Q7 HPk;have hsl : sm.length = 32 := by rw [hsm, z11]
      obtain ⟨bd, hbd⟩ := zx (z1t l);rw [← hbd] at O7 Q7 HPk;have HW7 := zh hw7;have hz32 := zzzf;clear hF hw7 b6 b7 hO hpl HSum hsm hbd hsl
      go_upto_region 13 with (refine wpList_store_row rfl 68 _ _ rfl w6.heap.size (u8s 32 F) rfl rfl 68 (u8s 32 fun _ => 0) (by exact Blk.new w6 _ _) (by rw [z0a]; kernel_rfl) (by rw [z0a, z0a]) (z3r 32 F) ?_; rw [World.setRow_alloc_new])
      clear hz32;rw [← HW7.out]
      go_wp2_with (refine z4e (o := ⟨some 44, _, _, _, _, _⟩) rfl _ _ rfl w.heap.size _ _ bd sm rfl rfl O7.out R7.out Q7.out S7.out HPk.out ?_)
      intro v8 w8 o8 f8;have HB8 := zh (HB7.out.trans (zl3 f8 (fun k hk => (O7.out.lt k hk).1) HB7.out.size));obtain ⟨A8, N8, c8, rfl, hN8⟩ := z1m o8;have HF : Hid (WrP l w (.returned (.tuple #[.slice A8 N8 c8, .nilIface])) w8) := zh ⟨HB8.out, .inr ⟨HR.out, A8, N8, c8, rfl, hN8, o8⟩⟩;clear o8 f8 hN8 O7 R7 Q7 S7 HPk HW7
      go_wp2_with fail
      go_ret2
      exact HF.out
 · have hf' := hf;obtain ⟨a, x, rfl, -⟩ := hf';have HF : Hid (WrP l w (.returned (.tuple #[.slice none 0 0, .iface 107 (.pointer (some ⟨a, 0, none⟩))])) w1) := zh ⟨b1, .inl ⟨hr, _, rfl, hf⟩⟩;clear b1 hr hf Hz
   go_wp2_with fail
   go_ret2
   exact HF.out
theorem z6n {w w' : World} (h : Et w) (hb : Below w.heap.size w w') : Et w' := by
 have hlt := World.block_lt_of_cell? w _ h;unfold Et at h ⊢;rw [hb.cell hlt];exact h
def PutPk (l : List Ent) (w : World) (e : Ending) (w' : World) : Prop := Below w.heap.size w w' ∧ ((rightL l = false ∧ e = .returned (.tuple #[.slice none 0 0, .int .i64 1])) ∨
 (rightL l = true ∧ ∃ A N c, e = .returned (.tuple #[.slice A N c, .int .i64 0]) ∧ N = (z23 l).length ∧ Dl.Ow w' w.heap.size (.slice A N c) (z23 l)))
theorem Put_any {w : World} {v : Value} {l : List Ent} (h : EntsR w v l) (hs : Smal l) (hz : rightL l = true → (z23 l).length ≤ 40000) (hp : Pr w) (het : Et w) :
 Calls Tryz.prog 12 #[v] w (PutPk l w) := by
 have HW := zh (zfk h hs hz hp);obtain ⟨A, c, rfl⟩ := h.shape;have HE := zh het;clear h hs hz hp het
 go_enter Tryz.func12, Tryz.ntmps12
 go_wp2_with fail
 refine HW.out.mono ?_;rintro e w1 ⟨b1, ⟨hr, ev, rfl, hf⟩ | ⟨hr, A1, N1, c1, rfl, hN, ho⟩⟩
 · have HT := zh (zki (s := .slice none 0 0) w1 (.inr hf) (z6n HE.out b1));have HB := zh b1; have HR := zh hr;obtain ⟨a, x, rfl, -⟩ := hf;clear b1 hr
   go_wp2_with fail
   refine HT.out.mono ?_;rintro e w2 ⟨rfl, b2⟩;have HB2 := zh (HB.out.trans (b2.mono HB.out.size));clear b2
   go_wp2_with fail
   go_ret2
   exact ⟨HB2.out, .inl ⟨HR.out, rfl⟩⟩
 · have HT := zh (zkh (.slice A1 N1 c1) w1);have HB := zh b1; have HR := zh (And.intro hr (And.intro hN ho));clear b1 hr hN ho
   go_wp2_with fail
   refine HT.out.mono ?_;rintro e w2 ⟨rfl, b2⟩;have HB2 := zh (HB.out.trans (b2.mono HB.out.size));have HO2 := zh (HR.out.2.2.below b2 zl);clear b2
   go_wp2_with fail
   go_ret2
   exact ⟨HB2.out, .inr ⟨HR.out.1, A1, N1, c1, rfl, HR.out.2.1, HO2.out⟩⟩
end Go.Proofs.YtgjddkeogboojaaGreatDoor.Pk
namespace Go.Proofs.YtgjddkeogboojaaGreatDoor.Dl
open Go Go.RowKit
theorem conv_u8 (W : World) (a r : Int) (h : IntKind.u8.wrap a = r) : (convert 3 5 (.int .i64 a)).run Tryz.prog W = .ok (.int .u8 r) W := by
 simp [go_sem, h]
theorem bs_u8 (W : World) (a : Int) : (Instr.buildSlice 23 1 #[(0, .int .u8 a)]).run Tryz.prog W = .ok (.slice (some ⟨W.heap.size, 0, none⟩) 1 1) (W.alloc (.cells #[.int .u8 a] 5)) := by
 simp [go_sem]
theorem cut_two (W : World) (s t : zB) (lo hi : Nat) (h1 : lo ≤ hi) (h2 : hi ≤ s.length) (ht : (⟨s.toArray⟩ : ByteArray).extract lo hi = ⟨t.toArray⟩) : (Instr.sliceAt 9 (.string ⟨s.toArray⟩) (some (.int .i64 (lo : Int))) (some (.int .i64 (hi : Int))) none).run Tryz.prog W = .ok (.string ⟨t.toArray⟩) W := by
 rw [run_sliceAt_string W _ _ _ _ _ Tryz.underlying9, run_slice_string W _ _ _ _ _ _ Tryz.underlying9 (by omega) (by omega) (by show (hi : Int) ≤ (s.length : Int); omega), Int.toNat_natCast, Int.toNat_natCast, ht]
theorem cut_from (W : World) (s t : zB) (lo : Nat) (h1 : lo ≤ s.length) (ht : (⟨s.toArray⟩ : ByteArray).extract lo s.length = ⟨t.toArray⟩) : (Instr.sliceAt 9 (.string ⟨s.toArray⟩) (some (.int .i64 (lo : Int))) none none).run Tryz.prog W = .ok (.string ⟨t.toArray⟩) W := by
 rw [run_sliceAt_string W _ _ _ _ _ Tryz.underlying9, run_slice_string_from_if W _ _ _ _ Tryz.underlying9, if_pos ⟨by omega, by show (lo : Int) ≤ (s.length : Int); omega⟩, Int.toNat_natCast, show (⟨s.toArray⟩ : ByteArray).size = s.length from rfl, ht]
theorem cut_to (W : World) (s : zB) (k : Nat) (h : k ≤ s.length) : (Instr.sliceAt 9 (.string ⟨s.toArray⟩) none (some (.int .i64 (k : Int))) none).run Tryz.prog W = .ok (.string ⟨(s.take k).toArray⟩) W := by
 rw [run_sliceAt_string W _ _ _ _ _ Tryz.underlying9, run_slice_string_to_if W _ _ _ _ Tryz.underlying9, if_pos ⟨by omega, by show (k : Int) ≤ (s.length : Int); omega⟩, Int.toNat_natCast, extract_S];simp
section
variable {P : Program} {a : Go.Act} {o : Oper} {W W' : World}
theorem y_app2 {t u : TypeId} {s y : Operand} {sv yv r : Value} (ho : o.op = .call { callee := .builtin .append, args := #[s, y], argTypes := #[t, u] }) (hs : a.eval s = sv) (hy : a.eval y = yv)
 (h : (Builtin.append_ #[t, u] o.type #[sv, yv]).run P W = .ok r W') : (execOp a.eval o).run P W = .ok (.value r) W' := by
 subst hs hy;simp [execOp, ho, resolve, invoke, builtin, h, Result.andThen]
end
def szV : Value → Nat | .string s => s.size | _ => 0
end Go.Proofs.YtgjddkeogboojaaGreatDoor.Dl
namespace Go.Proofs.YtgjddkeogboojaaGreatDoor.Dl
open Go Go.RowKit Go.Shelf
def bpost {σ : Type} (I : σ → (Nat → Prop) → World → Prop) (Ix : (Nat → Prop) → World → Prop) (s : σ) (C : Nat → Prop) (W : World) : Exit → Go.Act → World → Prop
 | .normal, _, W' => ∃ C', I s C' W' ∧ But C W W' ∧ ∀ k, C' k → C k ∨ W.heap.size ≤ k
 | .ret, _, W' => ∃ C', Ix C' W' ∧ But C W W' ∧ ∀ k, C' k → C k ∨ W.heap.size ≤ k
 | _, _, _ => False
structure Rnd {σ : Type} (Step : σ → Array Value → σ → World → Prop) (l B : Nat) (J : σ → (Nat → Prop) → World → Prop) (Jx : World → Prop) : Prop where
 st : ∀ s C w w', J s C w → But (fun k => B ≤ k ∧ ¬ C k) w w' → J s C w'
 lt : ∀ s C w, J s C w → ∀ k, C k → k < w.heap.size
 rd : ∀ s C vs s' W, J s C W → Step s vs s' W → YieldAt Fence.wide 5 Tryz.prog l vs W fun e W' =>
  (e = .returned (.bool true) ∧ ∃ C', J s' C' W' ∧ But C W W' ∧ ∀ k, C' k → C k ∨ W.heap.size ≤ k) ∨ (e = .returned (.bool false) ∧ Jx W')
def Iter {σ : Type} (Step : σ → Array Value → σ → World → Prop) (End : σ → Prop) (s0 : σ) (f : FuncId) (caps : Array Value) (w : World) (C0 : Nat → Prop) : Prop :=
 ∀ (l : Nat) (W : World) (C1 : Nat → Prop) (J : σ → (Nat → Prop) → World → Prop) (Jx : World → Prop), Rnd Step l W.heap.size J Jx → Below w.heap.size w W → (∀ k, C1 k → C0 k ∨ w.heap.size ≤ k) → J s0 C1 W →
   Calls Tryz.prog f (#[.func (.yield l) #[] #[]] ++ caps) W fun e W' => (∃ v, e = .returned v) ∧ ((∃ s C, End s ∧ J s C W') ∨ Jx W')
theorem zdh {σ : Type} {Step : σ → Array Value → σ → World → Prop} {End : σ → Prop} {s0 : σ} {f : FuncId} {caps : Array Value} {w : World} {C0 : Nat → Prop} {g : Operand} {ps : Array Tmp} {assign body : Code} {Q : Exit → Go.Act → World → Prop} {a : Go.Act}
 (hg : a.eval g = .func (.func f) #[] caps) (ef : ∀ args w, (callFunc f args).run Tryz.prog w = .ok (.enter f args) w) (hps : ∀ s vs s' W, Step s vs s' W → vs.size = ps.size) (hit : Iter Step End s0 f caps w C0)
 (I : σ → (Nat → Prop) → World → Prop) (Ix : (Nat → Prop) → World → Prop)
 (hst : ∀ s C W W', I s C W → But (fun k => w.heap.size ≤ k ∧ ¬ C k) W W' → I s C W') (hstx : ∀ C W W' (l : Nat), w.heap.size ≤ l → Ix C W → (∃ r, W.heap[l]? = some (.loop r)) → But (fun k => k = l) W W' → Ix C W')
 (hlt : ∀ s C W, I s C W → ∀ k, C k → k < W.heap.size) (h0 : I s0 C0 w)
 (hround : ∀ (l : Nat) (s : σ) (C : Nat → Prop) (vs : Array Value) (s' : σ) (W : World), I s C W → Step s vs s' W → w.heap.size ≤ l → l < W.heap.size → ¬ C l → (∃ r, W.heap[l]? = some (.loop r)) →
   assign.wpIn (Fence.wide.inRound l) 5 Tryz.prog (Exit.then (fun a1 Wa => Below W.heap.size W Wa ∧ ∀ Wb, But (fun k => k = l) Wa Wb → body.wpIn (Fence.wide.inRound l) 5 Tryz.prog (bpost I Ix s' C Wb) a1 Wb) (fun _ _ _ => False)) { tmps := (ps.zip vs).foldl (fun tmps (t, a) => tmps.setIfInBounds t a) a.tmps, defers := [] } W)
 (hdone : ∀ (D : Nat) (s : σ) (C : Nat → Prop) (W : World), w.heap.size ≤ D → ¬ C D → End s → I s C W → W.heap[D]? = some (.deferred (some [])) → Q .normal { a with defers := { target := .collected D, args := #[] } :: a.defers } W)
 (hstop : ∀ (D : Nat) (C : Nat → Prop) (W : World), w.heap.size ≤ D → ¬ C D → Ix C W → W.heap[D]? = some (.deferred (some [])) → Code.ret.wp Tryz.prog Q { a with defers := { target := .collected D, args := #[] } :: a.defers } W) :
 (Code.rangeFunc g ps assign body).wp Tryz.prog Q a w := by
 refine (wpIn_wide (n := 7)).1 (wpIn_rangeFunc fun fn hfn => ?_);obtain ⟨rec, hrec⟩ : ∃ rec : LoopState → Option Code → Loop, rec = fun st pe => { state := st, pending := pe, fn, tmps := a.tmps, params := ps, assign, body, defers := w.heap.size } := ⟨_, rfl⟩
 obtain ⟨l, hl⟩ := zx (w.heap.size + 1);obtain ⟨W1, hW1⟩ := zx ((w.alloc (.deferred (some []))).alloc (.loop (rec .ready none)));have hz1 : W1.heap.size = l + 1 := by rw [hW1, hl]; simp
 have hbW : Below w.heap.size w W1 := by rw [hW1]; exact (below_new w _).alloc (by simp) _
 have hL1 : W1.heap[l]? = some (.loop (rec .ready none)) := by
  rw [hW1, hl]; have := World.alloc_heap_new (w.alloc (.deferred (some []))) (.loop (rec .ready none)); rwa [World.size_alloc] at this
 have hD1 : W1.heap[w.heap.size]? = some (.deferred (some [])) := by
  rw [hW1]; exact (Below.heap_alloc _ _ _ (by simp)).trans (World.alloc_heap_new w _)
 have hC0 : ∀ k, C0 k → k < w.heap.size := fun k hk => hlt _ _ _ h0 k hk;refine ⟨l, [{ target := .collected w.heap.size, args := #[] }], W1, { target := .fn (.func f) caps, args := #[.func (.yield l) #[] #[]] }, W1, f, #[.func (.yield l) #[] #[]] ++ caps, W1, ?_, ?_, fun _ _ => trivial, ?_, fun _ => by omega, callsIn_wide.2 ?_⟩
 · rw [hW1, hrec, hl]; exact run_enterLoop_outer _ _ _ _ _
 · simp only [resolve, hg];simp [go_sem]
 · simp [invoke, go_sem, ef]
 have hrd : Rnd Step l W1.heap.size
  (fun pre C' W => ∃ C, (∀ k, C' k ↔ C k ∨ k = l) ∧ I pre C W ∧ W.heap[l]? = some (.loop (rec .ready none)) ∧ W.heap[w.heap.size]? = some (.deferred (some [])) ∧ ¬ C l ∧ ¬ C w.heap.size)
  (fun W => ∃ C, Ix C W ∧ W.heap[l]? = some (.loop (rec .done (some .ret))) ∧ W.heap[w.heap.size]? = some (.deferred (some [])) ∧ ¬ C l ∧ ¬ C w.heap.size) := by
  refine ⟨?_, ?_, ?_⟩
  · rintro pre C' W W' ⟨C, h1, h2, h3, h4, h5, h6⟩ hb;have hlW := lt_heap h3;have hDW := lt_heap h4;refine ⟨C, h1, hst _ _ _ _ h2 (hb.mono fun k _ hk => ⟨by omega, fun hc => hk.2 ((h1 k).2 (.inl hc))⟩), (hb.block l hlW (fun hk => by omega)).trans h3, (hb.block _ hDW (fun hk => by omega)).trans h4, h5, h6⟩
  · rintro pre C' W ⟨C, h1, h2, h3, _⟩ k hk;rcases (h1 k).1 hk with hk | rfl
    · exact hlt _ _ _ h2 k hk
    · exact lt_heap h3
  · rintro s C' vs s' W ⟨C, h1, h2, h3, h4, h5, h6⟩ hstep;have hlW := lt_heap h3;have hDW := lt_heap h4
    have hy : (Instr.yield l vs).run Tryz.prog W = .ok (.round l fn ((ps.zip vs).foldl (fun tmps (t, a) => tmps.setIfInBounds t a) a.tmps) assign body) W := by
     have := run_yield (P := Tryz.prog) (args := vs) h3 (by rw [hrec]; exact hps _ _ _ _ hstep);rw [hrec] at this;exact this
    refine ⟨fn, _, assign, body, hy, roundIn_of_wpIn hfn ?_⟩;refine wpIn_mono (hround l s C vs s' W h2 hstep (by rw [hl]; omega) hlW h5 ⟨_, h3⟩) ?_;rintro e1 a1 Wa hp1;cases e1 with
    | normal => ?_
    | ret => exact hp1.elim
    | exit id => exact hp1.elim
    | goto t => exact hp1.elim
    | panic ch => exact hp1.elim
    | outgrown => exact hp1.elim
    obtain ⟨hba, hbod⟩ := hp1;have hla : Wa.heap[l]? = some (.loop (rec .ready none)) := (hba.block l hlW).trans h3;have hDa : Wa.heap[w.heap.size]? = some (.deferred (some [])) := (hba.block _ hDW).trans h4;have hbr := run_beginRound (P := Tryz.prog) hla (by rw [hrec]);obtain ⟨Wb, hWb⟩ : ∃ Wb, Wb = Wa.putObj l (.loop { rec .ready none with state := .busy }) := ⟨_, rfl⟩
    refine ⟨Wb, by rw [hWb]; exact hbr, ?_⟩;have hbb : But (fun k => k = l) Wa Wb := by rw [hWb]; exact z2h Wa l _ rfl
    have hbab : But (fun k => k = l) W Wb := (But.of_new hba).trans hbb;have hlb : Wb.heap[l]? = some (.loop { rec .ready none with state := .busy }) := by rw [hWb]; exact World.putObj_heap_same (lt_heap hla)
    have hDb : Wb.heap[w.heap.size]? = some (.deferred (some [])) := (hbb.block _ (lt_heap hDa) (by omega)).trans hDa;refine wpIn_mono (hbod Wb hbb) ?_
    have fin : ∀ (jump : Option Code) (W3 : World), But C Wb W3 →
     (Instr.endRound l jump).run Tryz.prog W3 = .ok (.bool jump.isNone) (W3.putObj l (.loop (rec (if jump.isNone then .ready else .done) jump))) ∧
     (W3.putObj l (.loop (rec (if jump.isNone then .ready else .done) jump))).heap[l]? = some (.loop (rec (if jump.isNone then .ready else .done) jump)) ∧
     (W3.putObj l (.loop (rec (if jump.isNone then .ready else .done) jump))).heap[w.heap.size]? = some (.deferred (some [])) := fun jump W3 h => by
     have hl3 := (h.block l (lt_heap hlb) h5).trans hlb;have := run_endRound (P := Tryz.prog) jump hl3;rw [hrec] at this ⊢;exact ⟨this, World.putObj_heap_same (lt_heap hl3), (World.putObj_heap_other (by omega)).trans ((h.block _ (lt_heap hDb) h6).trans hDb)⟩
    rintro e a3 W3 hp;cases e with
    | normal =>
      obtain ⟨C2, hi3, hb3, hc3⟩ := hp;obtain ⟨hr, hl4, hk4⟩ := fin none W3 hb3;have hn2 : ∀ k, k < Wb.heap.size → ¬ C k → ¬ C2 k := fun k hk hn hc => (hc3 k hc).elim hn (fun h => by omega);have hl5 := hn2 l (lt_heap hlb) h5;have hD5 := hn2 _ (lt_heap hDb) h6;have hbe : But (fun k => k = l) W3 (W3.putObj l (.loop (rec (if (none : Option Code).isNone then .ready else .done) none))) := z2h W3 l _ rfl;refine ⟨_, _, hr, .inl ⟨rfl, fun k => C2 k ∨ k = l, ⟨C2, fun k => Iff.rfl, hst _ _ _ _ hi3 (hbe.mono fun k _ hk => ⟨by omega, by rw [hk]; exact hl5⟩), hl4, hk4, hl5, hD5⟩, ?_, ?_⟩⟩
      · exact ((hbab.mono fun k _ hk => (h1 k).2 (.inr hk)).trans (hb3.mono fun k _ hk => (h1 k).2 (.inl hk))).trans (hbe.mono fun k _ hk => (h1 k).2 (.inr hk))
      · rintro k (hk | hk)
        · rcases hc3 k hk with h | h
          · exact .inl ((h1 k).2 (.inl h))
          · exact .inr (Nat.le_trans hbab.size h)
        · exact .inl ((h1 k).2 (.inr hk))
    | ret =>
      obtain ⟨C2, hi3, hb3, hc3⟩ := hp;obtain ⟨hr, hl4, hk4⟩ := fin (some .ret) W3 hb3;have hn2 : ∀ k, k < Wb.heap.size → ¬ C k → ¬ C2 k := fun k hk hn hc => (hc3 k hc).elim hn (fun h => by omega);have hl5 := hn2 l (lt_heap hlb) h5;have hbe : But (fun k => k = l) W3 (W3.putObj l (.loop (rec (if (some Code.ret).isNone then .ready else .done) (some .ret)))) := z2h W3 l _ rfl;exact ⟨_, _, hr, .inr ⟨rfl, C2, hstx _ _ _ l (by omega) hi3 ⟨_, (hb3.block l (lt_heap hlb) h5).trans hlb⟩ hbe, hl4, hk4, hl5, hn2 _ (lt_heap hDb) h6⟩⟩
    | exit id => exact hp.elim
    | goto t => exact hp.elim
    | panic ch => exact hp.elim
    | outgrown => exact hp.elim
 refine (hit l W1 (fun k => C0 k ∨ k = l) _ _ hrd hbW (fun k hk => hk.elim .inl (fun e => .inr (by omega))) ⟨C0, fun k => Iff.rfl, hst _ _ _ _ h0 (But.of_new hbW), hL1, hD1, fun h => by have := hC0 _ h; omega, fun h => by have := hC0 _ h; omega⟩).mono ?_;rintro e W2 ⟨⟨v, rfl⟩, ⟨s, C', hrow, C, h1, h2, h3, h4, h5, h6⟩ | ⟨C, h2, h3, h4, h5, h6⟩⟩
 · have hbe : But (fun k => k = l) W2 (W2.putObj l (.loop { rec .ready none with state := .exhausted })) := z2h W2 l _ rfl;refine ⟨none, W2.putObj l (.loop { rec .ready none with state := .exhausted }), by have := run_endLoop (P := Tryz.prog) h3 (by rw [hrec]; simp); rw [hrec] at this ⊢; exact this, ?_⟩;exact hdone w.heap.size s C _ zl h6 hrow (hst _ _ _ _ h2 (hbe.mono fun k _ hk => ⟨by omega, by rw [hk]; exact h5⟩)) ((World.putObj_heap_other (by omega)).trans h4)
 · have hbe : But (fun k => k = l) W2 (W2.putObj l (.loop { rec .done (some .ret) with state := .exhausted })) := z2h W2 l _ rfl;refine ⟨some .ret, W2.putObj l (.loop { rec .done (some .ret) with state := .exhausted }), by have := run_endLoop (P := Tryz.prog) h3 (by rw [hrec]; simp); rw [hrec] at this ⊢; exact this, ?_⟩;exact wpIn_wide.2 (hstop w.heap.size C _ zl h6 (hstx _ _ _ l (by omega) h2 ⟨_, h3⟩ hbe) ((World.putObj_heap_other (by omega)).trans h4))
end Go.Proofs.YtgjddkeogboojaaGreatDoor.Dl
namespace Go.Proofs.YtgjddkeogboojaaGreatDoor.Dl
open Go Go.RowKit Go.Shelf
attribute [local go_sem] Oper.semAt_some
theorem but_setCell (W : World) (A i : Nat) (v : Value) : But (fun k => k = A) W (W.setCell ⟨A, i, none⟩ v) := (But.refl (fun k => k = A) W).setCell (p := ⟨A, i, none⟩) rfl v
theorem zdi {b A i : Nat} {w W : World} {v : Value} (h : Below b w W) (hA : b ≤ A) : Below b w (W.setCell ⟨A, i, none⟩ v) :=
 h.trans ⟨rfl, rfl, rfl, by rw [size_setCell]; exact Nat.le_refl _, fun k hk => setCell_other _ _ _ _ _ (by omega)⟩
theorem zm3 (base text : Bs) (hb : base.length ≤ 10000) (ht : text.length ≤ 10000) : (makeL base text).length ≤ 10000000 := by
 have h1 := putL_len6 (n := base.length) (by omega);have h2 := putL_len6 (n := text.length) (by omega);have h3 := mkS_len (base := base) (by omega) text.length [] text zl (by omega);unfold makeL;rw [List.length_append, List.length_append];simp only [List.length_nil] at h3;omega
end Go.Proofs.YtgjddkeogboojaaGreatDoor.Dl
namespace Go.Proofs.YtgjddkeogboojaaGreatDoor.Dl
open Go Go.RowKit Go.Extern.Stop Go.Stop Go.Extern
theorem mUnwrap (a : Addr) (w : World) : (Go.method 464 271 (.pointer (some a)) "Unwrap").run Tryz.prog w = .ok (289, .pointer (some a)) w := by kernel_rfl
theorem unwrapF (v : Value) (xT : TypeId) (w : World) : (Instr.typeAssert (.iface 271 v) xT 180 true).run Tryz.prog w = .ok (.tuple #[.iface 271 v, .bool true]) w := run_typeAssert_hasB Tryz.underlying180 (by kernel_rfl) v xT w
theorem typeOfE (v : Value) (w : World) : (ReflectliteType.typeOf #[.iface 26 v]).run Tryz.prog w = .ok (.iface 172 (.agg #[.pointer (some ⟨11, 26, none⟩)])) w := by kernel_rfl
theorem unwrap_any (a : Nat) (x : ByteArray) (n : Int) (w : World) (h : w.heap[a]? = some (.cells #[.string x, .iface 26 (.int .i64 n)] 273 (0, 0))) :
 Calls Tryz.prog 289 #[.pointer (some ⟨a, 0, none⟩)] w fun e w' => e = .returned (.iface 26 (.int .i64 n)) ∧ w = w' := by
 have c1 : w.cell? ⟨a, 1, none⟩ = some (.iface 26 (.int .i64 n)) := by simp [World.cell?, h]
 go_enter Tryz.func289, Tryz.ntmps289
 go_wp2
 go_ret
 exact ⟨rfl, rfl⟩
def FaultIn (w : World) (ev : Value) (n : Int) : Prop := ∃ a x, ev = .iface 271 (.pointer (some ⟨a, 0, none⟩)) ∧ w.heap[a]? = some (.cells #[.string x, .iface 26 (.int .i64 n)] 273 (0, 0))
theorem mComparable (h : Value) (w : World) : (Go.method 464 172 (.agg #[h]) "Comparable").run Tryz.prog w = .ok (276, .agg #[h]) w := by kernel_rfl
theorem noIsF (v : Value) (xT : TypeId) (w : World) : (Instr.typeAssert (.iface 271 v) xT 275 true).run Tryz.prog w = .ok (.tuple #[.nilIface, .bool false]) w := run_typeAssert_lacksB Tryz.underlying275 (by kernel_rfl) (by kernel_rfl) v xT w
theorem noIsE (v : Value) (xT : TypeId) (w : World) : (Instr.typeAssert (.iface 26 v) xT 275 true).run Tryz.prog w = .ok (.tuple #[.nilIface, .bool false]) w := run_typeAssert_lacksB Tryz.underlying275 (by kernel_rfl) (by kernel_rfl) v xT w
theorem noUnwrapE (v : Value) (xT : TypeId) (w : World) : (Instr.typeAssert (.iface 26 v) xT 180 true).run Tryz.prog w = .ok (.tuple #[.nilIface, .bool false]) w := run_typeAssert_lacksB Tryz.underlying180 (by kernel_rfl) (by kernel_rfl) v xT w
theorem noUnwrapsE (v : Value) (xT : TypeId) (w : World) : (Instr.typeAssert (.iface 26 v) xT 181 true).run Tryz.prog w = .ok (.tuple #[.nilIface, .bool false]) w := run_typeAssert_lacksB Tryz.underlying181 (by kernel_rfl) (by kernel_rfl) v xT w
theorem eqlFE (vx vy : Value) (w : World) : (binOp .eql 64 (.iface 271 vx) (.iface 26 vy)).run Tryz.prog w = .ok (.bool false) w := run_eql_iface_types _ _ vx vy Tryz.underlying64 (by decide) w
theorem z56 {P : Program} (w : World) (d : Nat) {ti tn : TypeId} {ms : Array (String × TypeId)} {i : TypeInfo} {k : IntKind} (a b : Int)
 (hi : P.underlying ti = some (.interface ms)) (hn : P.underlying tn = some (.int k)) (hinfo : P.info? tn = some i) (hcomp : i.comparable = true) :
 (Op.equalIn (d + 2) ti (.iface tn (.int k a)) (.iface tn (.int k b))).run P w = .ok (a == b) w := by
 simp [Op.equalIn, run_underlying hi, run_underlying hn, typeInfo, hinfo, hcomp]
theorem run_eql_iface_int {P : Program} (w : World) {ti tn : TypeId} {ms : Array (String × TypeId)} {i : TypeInfo} {k : IntKind} (a b : Int)
 (hi : P.underlying ti = some (.interface ms)) (hn : P.underlying tn = some (.int k)) (hinfo : P.info? tn = some i) (hcomp : i.comparable = true) :
 (binOp .eql ti (.iface tn (.int k a)) (.iface tn (.int k b))).run P w = .ok (.bool (a == b)) w := by
 simp only [binOp];simp [Op.equal, Op.maxDepth, z56 w 9998 a b hi hn hinfo hcomp]
theorem zm4 : (Tryz.prog.info? 26).map (·.comparable) = some true := by kernel_rfl
theorem eqlEE (a b : Int) (w : World) : (binOp .eql 64 (.iface 26 (.int .i64 a)) (.iface 26 (.int .i64 b))).run Tryz.prog w = .ok (.bool (a == b)) w := by
 obtain ⟨i, hi, hc⟩ := Option.map_eq_some_iff.1 zm4;exact run_eql_iface_int w a b Tryz.underlying64 Tryz.underlying26 hi hc
theorem comparableE (w : World) : (ReflectliteType.method (fun t => do Rtype.noPackHeld "Comparable" t; (fun a => Value.bool a.comparable) <$> typeInfo t) #[.agg #[.pointer (some ⟨11, 26, none⟩)]]).run Tryz.prog w = .ok (.bool true) w := by kernel_rfl
theorem eqlNE (w : World) : (binOp .eql 64 .nilIface (.iface 26 (.int .i64 3))).run Tryz.prog w = .ok (.bool false) w := by kernel_rfl
def BoolPost (b : Bool) (w : World) (e : Ending) (w' : World) : Prop := e = .returned (.bool b) ∧ w = w'
theorem is_fault (a : Nat) (x : ByteArray) (n : Int) (w : World) (h : w.heap[a]? = some (.cells #[.string x, .iface 26 (.int .i64 n)] 273 (0, 0))) :
 Calls Tryz.prog 167 #[.iface 271 (.pointer (some ⟨a, 0, none⟩)), .iface 26 (.int .i64 3), .bool true] w (BoolPost (n == 3) w) := by
 have q1 := noIsF; have q2 := noIsE; have q3 := noUnwrapE; have q4 := noUnwrapsE; have q5 := eqlFE; have q6 := mUnwrap; have q7 := unwrapF; have q8 := eqlEE
 go_enter Tryz.func167, Tryz.ntmps167
 go_wp2
 refine wp_loop_rounds 2 ?_;rw [rounds_succ]
 go_wp2_with fail
 refine (unwrap_any a x n _ h).mono ?_;rintro e w' ⟨rfl, rfl⟩
 go_wp2_with fail
 rw [rounds_succ];by_cases hn : n = 3
 · subst hn
   go_wp2_with fail
   go_ret
   exact ⟨rfl, rfl⟩
 · have hb : (n == 3) = false := by simpa using hn
   go_wp2_with fail
   go_ret
   exact ⟨by rw [hb]; rfl, rfl⟩
theorem errIs_nil (w : World) : Calls Tryz.prog 154 #[.nilIface, .iface 26 (.int .i64 3)] w (BoolPost false w) := by
 have q1 := eqlNE
 go_enter Tryz.func154, Tryz.ntmps154
 go_wp2
 go_ret
 exact ⟨rfl, rfl⟩
theorem zfl (ev : Value) (n : Int) (w : World) (h : FaultIn w ev n) : Calls Tryz.prog 154 #[ev, .iface 26 (.int .i64 3)] w (BoolPost (n == 3) w) := by
 obtain ⟨a, x, rfl, h⟩ := h;have hTO := zzzc.1;have hCo := zzzm.1;have q1 := typeOfE; have q2 := mComparable; have q3 := comparableE;have hin := is_fault a x n w h;have Hin := zh hin; clear hin
 go_enter Tryz.func154, Tryz.ntmps154
 go_wp2_with fail
 refine Hin.out.mono ?_;rintro e w' ⟨rfl, rfl⟩
 go_wp2
 go_ret
 exact ⟨rfl, rfl⟩
theorem zip {w : World} {ev : Value} (h : FaultIn w ev 3) : Calls Tryz.prog 138 #[ev] w fun e w' => e = .returned (.int .i64 3) ∧ w = w' := by
 have H := zh (zfl ev 3 w h);clear h
 go_enter Tryz.func138, Tryz.ntmps138
 go_wp2_with fail
 refine H.out.mono ?_;rintro e w' ⟨rfl, rfl⟩
 go_wp2
 go_ret
 exact ⟨rfl, rfl⟩
theorem told_nil (w : World) : Calls Tryz.prog 138 #[.nilIface] w fun e w' => e = .returned (.int .i64 0) ∧ w = w' := by
 have H := zh (errIs_nil w)
 go_enter Tryz.func138, Tryz.ntmps138
 go_wp2_with fail
 refine H.out.mono ?_;rintro e w' ⟨rfl, rfl⟩
 go_wp2
 go_ret
 exact ⟨rfl, rfl⟩
theorem z58 (s : Bs) (w : World) : Calls Tryz.prog 162 #[.string ⟨s.toArray⟩] w fun e w' => ∃ ev, e = .returned ev ∧ FaultIn w' ev 3 ∧ Below w.heap.size w w' := by
 have HB := zh (below_new w (.cells #[.string ⟨s.toArray⟩, .iface 26 (.int .i64 3)] 273));have HK : Hid ((w.alloc (.cells #[.string ⟨s.toArray⟩, .iface 26 (.int .i64 3)] 273)).heap[w.heap.size]? = some (.cells #[.string ⟨s.toArray⟩, .iface 26 (.int .i64 3)] 273 (0, 0))) := zh (z14 rfl rfl)
 go_enter Tryz.func162, Tryz.ntmps162
 go_wp2
 go_ret
 exact ⟨_, rfl, ⟨_, _, rfl, HK.out⟩, HB.out⟩
end Go.Proofs.YtgjddkeogboojaaGreatDoor.Dl
