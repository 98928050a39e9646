/-
  The document's digest: Sum, Name. The plain side of layer 4's laws. writeChange, PutChange. head: a live question, whose answer is fixed. Objects and maps as they lie in memory; a world that is as it was but for some blocks.
-/
import Derived.Deep.RegionHeld3
import Derived.Deep.MidRow
import Derived.Laws.AppendOwnNone
import Derived.Laws.OwnMore
import Derived.Test.YtgjddkeogboojaaGreatDoorY12
import Derived.Test.YtgjddkeogboojaaGreatDoorY18
import Derived.WideAt
import Derived.WideShapes
import Derived.Test.YtgjddkeogboojaaGreatDoorY03
import Derived.Test.YtgjddkeogboojaaGreatDoorY08
import Derived.Test.YtgjddkeogboojaaGreatDoorY09
import Derived.Lib.SlBytesConst
import Derived.Test.YtgjddkeogboojaaGreatDoorY16
import Derived.Maps.OwnSet
import Derived.Maps.OwnIn
import Derived.Maps.Views
import Derived.Maps.AppendAt
import Derived.RangeFuncBox
set_option maxHeartbeats 16000000
set_option maxRecDepth 100000
namespace Go.Proofs.YtgjddkeogboojaaGreatDoor
open Go Go.RowKit
theorem Rb.shape {w : World} {v : Value} {l : zB} (h : Rb w v l) : ∃ A c, v = .slice A l.length c := by
 rcases h with ⟨⟨A, rfl⟩, rfl⟩ | ⟨g, o, c, rfl, _⟩
 · exact ⟨A, 0, rfl⟩
 · exact ⟨_, _, rfl⟩
theorem Rb.conv {w : World} {v : Value} {l : zB} (h : Rb w v l) : (convert 23 9 v).run Tryz.prog w = .ok (.string ⟨l.toArray⟩) w := by
 rcases h with ⟨⟨A, rfl⟩, rfl⟩ | ⟨g, o, c, rfl, _, _, hc⟩
 · cases A with
   | none =>
     rw [run_convert_bytes_string w _ _ _ none 0 0 Tryz.underlying23 Tryz.underlying5 Tryz.underlying9];simp [Conv.bytesToString]; rfl
   | some a => exact run_convert_bytes_back w _ _ _ a 0 [] Tryz.underlying23 Tryz.underlying5 Tryz.underlying9 fun j hj => absurd hj (Nat.not_lt_zero _)
 · refine run_convert_bytes_back w _ _ _ ⟨g, o, none⟩ c l Tryz.underlying23 Tryz.underlying5 Tryz.underlying9 fun j hj => ?_;rw [add_none, hc j hj, zg, zj hj]; rfl
def Ow (w : World) (base : Nat) (v : Value) (l : zB) : Prop := w.ownsRow base 5 1 v l.length (l.map bv)
theorem Ow.rb {w : World} {base : Nat} {v : Value} {l : zB} (h : Ow w base v l) : Rb w v l := by
 obtain ⟨h1, h2⟩ := h;rcases h2 with ⟨rfl, h2⟩ | ⟨g, cap, cur, rfl, hb, hg, hn, hm, hs, ht⟩
 · exact .inl ⟨⟨_, rfl⟩, List.length_eq_zero_iff.1 h2⟩
 · refine .inr ⟨g, 0, cap, rfl, hn, ?_, fun j hj => ?_⟩
   · have hb' : Go.Proofs.YtgjddkeogboojaaGreatDoor.Blk w g 5 cur := hg;exact hb'.lt
   · rw [Nat.zero_add, cell_of_row w g j _ _ _ hg];have h3 : (cur.toList.take (l.length * 1))[j]? = (l.map bv)[j]? := by rw [ht]
     rw [List.getElem?_take, if_pos (by omega), Array.getElem?_toList] at h3;rw [h3, List.getElem?_map, zj hj, zg, zj hj]; rfl
theorem Ow.below {w w' : World} {base b : Nat} {v : Value} {l : zB} (h : Ow w base v l) (hb : Below b w w') (hlt : w.heap.size ≤ b) : Ow w' base v l := by
 obtain ⟨h1, h2⟩ := h;refine ⟨h1, ?_⟩;rcases h2 with h2 | ⟨g, cap, cur, rfl, hbg, hg, r⟩
 · exact .inl h2
 · have hb' : Go.Proofs.YtgjddkeogboojaaGreatDoor.Blk w g 5 cur := hg;exact .inr ⟨g, cap, cur, rfl, hbg, (hb.block g (Nat.lt_of_lt_of_le hb'.lt hlt)).trans hg, r⟩
theorem Ow.new0 (w : World) (base : Nat) (hb : base ≤ w.heap.size) : Ow (w.alloc (.cells #[] 5)) base (.slice (some ⟨w.heap.size, 0, none⟩) 0 0) [] :=
 World.ownsRow_made w #[] 0 hb (Nat.zero_le _) rfl
theorem Ow.nil (w : World) (base : Nat) : Ow w base (.slice none 0 0) [] := World.ownsRow_nil w base _ _
theorem rb_one (w : World) (c : UInt8) : Rb (w.alloc (.cells #[.int .u8 (c.toNat : Int)] 5)) (.slice (some ⟨w.heap.size, 0, none⟩) 1 1) [c] :=
 .inr ⟨w.heap.size, 0, 1, rfl, Nat.le_refl _, by simp, fun j hj => by
  have h0 : j = 0 := by simpa using hj
  subst h0;rw [Nat.zero_add, (Go.Proofs.YtgjddkeogboojaaGreatDoor.Blk.new w 5 #[.int .u8 (c.toNat : Int)]).cell]; rfl⟩
theorem bv_one (l : zB) : ∀ u ∈ l.map bv, u.oneCell' = true := by
 intro u hu;obtain ⟨b, _, rfl⟩ := List.mem_map.1 hu;rfl
theorem run_app {w : World} {base : Nat} {v sv : Value} {l m : zB} (h : Ow w base v l) (hs : Rb w sv m) (hl : l.length + m.length ≤ 140737488355328) (hb : base ≤ w.heap.size) (ty : TypeId) :
 ∃ v' w', (Builtin.append_ #[23, 23] ty #[v, sv]).run Tryz.prog w = .ok v' w' ∧ Ow w' base v' (l ++ m) ∧ Below base w w' := by
 have key : ∀ (a : Addr) (c : Nat), sv = .slice (some a) m.length c → (∀ j u, (m.map bv)[j]? = some u → w.cell? (a.add j) = some u) →
  ∃ v' w', (Builtin.append_ #[23, 23] ty #[v, sv]).run Tryz.prog w = .ok v' w' ∧ Ow w' base v' (l ++ m) ∧ Below base w w' := by
  rintro a c rfl hcell;obtain ⟨i, hi⟩ : ∃ i, Tryz.prog.info? 5 = some i := Option.isSome_iff_exists.1 (by kernel_rfl);have hi0 : (Tryz.prog.info? 5).map (fun i => (i.zero, i.size, i.bytes)) = some (some (.int .u8 0), 1, 1) := by kernel_rfl
  rw [hi] at hi0;simp only [Option.map_some, Option.some.injEq, Prod.mk.injEq] at hi0;obtain ⟨v', w', h1, h2, h3, _⟩ := run_append_own (P := Tryz.prog) w base 23 ty 5 i (.int .u8 0) 1 1 Tryz.underlying23 hi hi0.1 hi0.2.1 hi0.2.2 rfl (by omega) v l.length (l.map bv) h a m.length c (m.map bv) (by simp) hcell (bv_one m) (by unfold maxLen; omega) (by omega) hb;refine ⟨v', w', h1, by unfold Ow; rw [List.length_append, List.map_append]; exact h2, ⟨h3.os, h3.tape, h3.output, h3.size, fun k hk => h3.block k (by omega) ?_⟩⟩;intro e;have := (h.lt k e.symm).1;omega
 rcases hs with ⟨⟨A, rfl⟩, rfl⟩ | ⟨g, o, c, rfl, hc, hg, hcell⟩
 · cases A with
   | some a => exact key a 0 rfl fun j u hj => by simp at hj
   | none =>
     obtain ⟨i, hi⟩ : ∃ i, Tryz.prog.info? 5 = some i := Option.isSome_iff_exists.1 (by kernel_rfl);refine ⟨v, w, run_append_owned_none (P := Tryz.prog) (w := w) base 23 ty 5 i 1 Tryz.underlying23 hi v l.length (l.map bv) h, by rw [List.append_nil]; exact h, Below.refl _ _⟩
 · refine key ⟨g, o, none⟩ c rfl fun j u hj => ?_;rw [List.getElem?_map] at hj;by_cases hjm : j < m.length
   · rw [zj hjm] at hj;rw [add_none, hcell j hjm, zg, zj hjm];exact hj
   · rw [List.getElem?_eq_none (by omega)] at hj; cases hj
theorem wpList_app {ops : Array Oper} {rest : List Oper} {o : Oper} {a : Act} {w : World} {Q : Exit → Act → World → Prop} (hgd : o.guard = none) (s x : Operand)
 (ho : o.op = .call { callee := .builtin .append, args := #[s, x], argTypes := #[23, 23] }) (base : Nat) (v sv : Value) (l m : zB) (hs : a.eval s = v) (hx : a.eval x = sv)
 (h : Ow w base v l) (hr : Rb w sv m) (hl : l.length + m.length ≤ 140737488355328) (hb : base ≤ w.heap.size)
 (k : ∀ v' w', Ow w' base v' (l ++ m) → Below base w w' → wpList Tryz.prog ops Q rest (a.put o.dst v') w') : wpList Tryz.prog ops Q (o :: rest) a w := by
 refine wpList_plain hgd fun K hK => ?_;obtain ⟨v', w', h1, h2, h3⟩ := run_app h hr hl hb o.type;unfold Oper.wp;simp [execOp, ho, resolve, invoke, builtin, hs, hx, h1, Result.andThen];exact hK _ _ (k v' w' h2 h3)
def zc (n : Nat) : Nat := (119 - n % 64) % 64
theorem zc_lt (n : Nat) : zc n < 64 := Nat.mod_lt _ (by decide)
theorem zmy (n : Nat) : tot n = n + 1 + zc n + 8 := by unfold tot zc; omega
theorem zc_stop (n z : Nat) (hz : z ≤ zc n) : (n + 1 + z) % 64 = 56 ↔ z = zc n := by
 have := zc_lt n;unfold zc at *;omega
def padL (l : zB) : zB := l ++ [128] ++ List.replicate (zc l.length) 0 ++ (List.range 8).map fun i => UInt8.ofNat (8 * l.length / 2 ^ (8 * (7 - i)))
theorem z68 (l : zB) : (padL l).length = tot l.length := by
 unfold padL; rw [zmy]; simp only [List.length_append, List.length_replicate, List.length_map, List.length_range, List.length_cons, List.length_nil]
theorem padL_get (l : zB) (j : Nat) (hj : j < tot l.length) : (padL l).getD j 0 = z4n l j := by
 have ht := zmy l.length;unfold padL z4n;rw [zg];by_cases h1 : j < l.length
 · rw [if_pos h1, List.append_assoc, List.append_assoc, List.getElem?_append_left h1, zg]
 · rw [if_neg h1];by_cases h2 : j = l.length
   · rw [if_pos h2, List.append_assoc, List.append_assoc, List.getElem?_append_right (by omega), show j - l.length = 0 by omega]; rfl
   · rw [if_neg h2];by_cases h3 : j < tot l.length - 8
     · rw [if_pos h3, List.getElem?_append_left (by simp only [List.length_append, List.length_replicate, List.length_cons, List.length_nil]; omega),
        List.getElem?_append_right (by simp only [List.length_append, List.length_cons, List.length_nil]; omega), List.getElem?_replicate, if_pos (by simp only [List.length_append, List.length_cons, List.length_nil]; omega)]; rfl
     · rw [if_neg h3, List.getElem?_append_right (by simp only [List.length_append, List.length_replicate, List.length_cons, List.length_nil]; omega), List.getElem?_map];simp only [List.length_append, List.length_replicate, List.length_cons, List.length_nil];rw [List.getElem?_range (by omega)];have e : 7 - (j - (l.length + (0 + 1) + zc l.length)) = tot l.length - 1 - j := by omega
       rw [Option.map_some, e]; rfl
def lenB (n k : Nat) : zB := (List.range k).map fun i => UInt8.ofNat (8 * n / 2 ^ (8 * (7 - i)))
theorem zmz (n k : Nat) : lenB n (k + 1) = lenB n k ++ [UInt8.ofNat (8 * n / 2 ^ (8 * (7 - k)))] := by
 unfold lenB; rw [List.range_succ, List.map_append]; rfl
theorem z9e (n k : Nat) : (lenB n k).length = k := by simp [lenB]
theorem Ow.pos {w : World} {base : Nat} {v : Value} {l : zB} (h : Ow w base v l) (hl : 0 < l.length) : ∃ g cap, v = .slice (some ⟨g, 0, none⟩) l.length cap ∧ l.length ≤ cap ∧ g < w.heap.size ∧ ∀ j, j < l.length → w.cell? ⟨g, j, none⟩ = some (.int .u8 ((l.getD j 0).toNat : Int)) := by
 obtain ⟨h1, h2⟩ := h;rcases h2 with ⟨_, h2⟩ | ⟨g, cap, cur, rfl, hb, hg, hn, hm, hs, ht⟩
 · omega
 · refine ⟨g, cap, rfl, hn, ?_, fun j hj => ?_⟩
   · have hb' : Go.Proofs.YtgjddkeogboojaaGreatDoor.Blk w g 5 cur := hg;exact hb'.lt
   · rw [cell_of_row w g j _ _ _ hg];have h3 : (cur.toList.take (l.length * 1))[j]? = (l.map bv)[j]? := by rw [ht]
     rw [List.getElem?_take, if_pos (by omega), Array.getElem?_toList] at h3;rw [h3, List.getElem?_map, zj hj, zg, zj hj]; rfl
def zs (l : zB) (z : Nat) : zB := l ++ [128] ++ List.replicate z 0
theorem zs_succ (l : zB) (z : Nat) : zs l z ++ [0] = zs l (z + 1) := by unfold zs; rw [List.replicate_succ', List.append_assoc]
theorem z6r (l : zB) (z : Nat) : (zs l z).length = l.length + 1 + z := by simp [zs]; omega
theorem pad_eq (l : zB) : zs l (zc l.length) ++ lenB l.length 8 = padL l := rfl
theorem RSum_any (w : World) (v : Value) (l : zB) (hl : l.length ≤ 80000) (hr : Rb w v l) :
 Calls Tryz.prog 32 #[v] w fun e w' => e = .returned (.agg (sumC l).toArray) ∧ Below w.heap.size w w' := by
 obtain ⟨A, c, rfl⟩ := hr.shape;have hz32 := zzzf;obtain ⟨w0, hw0⟩ := zx (w.alloc (Obj.cells (u8s 32 fun _ => 0) 68));have sz0 : w0.heap.size = w.heap.size + 1 := by rw [hw0]; simp
 have l0 : Below w.heap.size w w0 := by rw [hw0]; exact below_new w _
 have r0 : Blk w0 w.heap.size 68 (u8s 32 fun _ => 0) := by rw [hw0]; exact Blk.new w _ _
 have rb0 : Rb w0 (.slice A l.length c) l := hr.below l0 zl;have R0 := zh rb0; have Hw0 := zh hw0; have Sz0 := zh sz0;obtain ⟨n, hn⟩ := zx l.length;have Hn := zh hn;rw [← hn] at hl R0 ⊢;clear hr rb0 hw0 sz0 hn;have o0 : Ow (w0.alloc (.cells #[] 5)) w0.heap.size (.slice (some ⟨w0.heap.size, 0, none⟩) 0 0) [] := Ow.new0 w0 _ zl;have q0 : Rb (w0.alloc (.cells #[] 5)) (.slice A n c) l := R0.out.below (below_new w0 _) zl;have ql : ([] : zB).length + l.length ≤ 140737488355328 := by rw [← Hn.out]; simp; omega
 have Q0 := zh q0; have O0 := zh o0; have QL := zh ql;clear q0 o0 ql
 go_enter Tryz.func32, Tryz.ntmps32
 go_upto_region 1 with fail
 rw [← Hw0.out]
 go_wp2_with (refine wpList_app (o := ⟨some 13, _, _, _, _, _⟩) rfl _ _ rfl w0.heap.size _ _ _ _ rfl rfl O0.out Q0.out QL.out (by simp) ?_)
 intro v1 w1 o1 l1;have l1' : Below w0.heap.size w0 w1 := ((Below.refl _ w0).alloc zl _).trans l1;obtain ⟨A1, c1, rfl⟩ := o1.rb.shape;rw [← Hn.out] at o1 ⊢;have O1 : Hid (Ow (w1.alloc (.cells #[.int .u8 128] 5)) w0.heap.size (.slice A1 n c1) l) := zh (o1.below (below_new w1 _) zl);have R1 : Hid (Rb (w1.alloc (.cells #[.int .u8 128] 5)) (.slice (some ⟨w1.heap.size, 0, none⟩) 1 1) [128]) := zh (rb_one w1 128);have QL1 : Hid (l.length + ([128] : zB).length ≤ 140737488355328) := zh (by rw [← Hn.out]; simp; omega);have S1 : Hid (w0.heap.size ≤ (w1.alloc (.cells #[.int .u8 128] 5)).heap.size) := zh (by have := l1'.size; simp; omega);have L1 : Hid (Below w0.heap.size w0 (w1.alloc (.cells #[.int .u8 128] 5))) := zh (l1'.alloc l1'.size _);clear o1 l1 l1' O0 Q0 QL
 go_wp2_with (refine wpList_app (o := ⟨some 15, _, _, _, _, _⟩) rfl _ _ rfl w0.heap.size _ _ _ _ rfl rfl O1.out R1.out QL1.out S1.out ?_)
 intro v2 w2 o2 l2;have L2 := L1.out.trans l2;obtain ⟨A2, c2, rfl⟩ := o2.rb.shape;have o2' : Ow w2 w0.heap.size (.slice A2 (l ++ [128]).length c2) (zs l 0) := by have e : zs l 0 = l ++ [128] := List.append_nil _; rw [e]; exact o2
 have hK : (l ++ [128]).length = n + 1 := by rw [List.length_append, ← Hn.out]; rfl
 rw [hK] at o2' ⊢;clear o2 l2 hK O1 R1 QL1 S1 L1;have hzc := zc_lt n
 go_wp2
 go_loopw [3] (fun a wr => ∃ (z K : Nat) (A : Option Addr) (c : Nat), z ≤ zc n ∧ a = .slice A K c ∧ K = n + 1 + z ∧ Ow wr w0.heap.size (.slice A K c) (zs l z) ∧ Below w0.heap.size w0 wr) (fun a _ => match a with | .slice _ K _ => n + 1 + zc n - K | _ => 0)
 case atStart => exact ⟨0, n + 1, A2, c2, Nat.zero_le _, rfl, rfl, o2', L2⟩
 case round =>
  clear o2' L2;obtain ⟨z, K, A, c, hz, rfl, hK, ho, hb⟩ := hrel;have HK := zh hK;have hK2 : K ≤ 90000 := by omega
  have hst := zc_stop n z hz;rw [← hK] at hst;clear hK;have Hst := zh hst; clear hst;by_cases hlt : z < zc n
  · have t1 : ((K : Int) % 64 != 56) = true := by
     have := Hst.out;simp; omega
    have O1 : Hid (Ow (wr.alloc (.cells #[.int .u8 0] 5)) w0.heap.size (.slice A K c) (zs l z)) := zh (ho.below (below_new wr _) zl);have R1 : Hid (Rb (wr.alloc (.cells #[.int .u8 0] 5)) (.slice (some ⟨wr.heap.size, 0, none⟩) 1 1) [0]) := zh (rb_one wr 0);have QL1 : Hid ((zs l z).length + ([0] : zB).length ≤ 140737488355328) := zh (by rw [z6r, ← Hn.out]; simp; omega);have S1 : Hid (w0.heap.size ≤ (wr.alloc (.cells #[.int .u8 0] 5)).heap.size) := zh (by have := hb.size; simp; omega);have L1 : Hid (Below w0.heap.size w0 (wr.alloc (.cells #[.int .u8 0] 5))) := zh (hb.alloc hb.size _);clear ho hb
    go_wp2_with (refine wpList_app (o := ⟨some 22, _, _, _, _, _⟩) rfl _ _ rfl w0.heap.size _ _ _ _ rfl rfl O1.out R1.out QL1.out S1.out ?_)
    intro v2 w2 o2 l2;rw [zs_succ] at o2;have L2 := L1.out.trans l2;obtain ⟨A2, c2, rfl⟩ := o2.rb.shape;have hk2 : (zs l (z + 1)).length = K + 1 := by rw [z6r, ← Hn.out, HK.out]; omega
    rw [hk2] at o2 ⊢;clear O1 R1 QL1 S1 L1 l2 hk2
    go_wp2
    go_roundw
    case rel => exact ⟨z + 1, K + 1, A2, c2, by omega, rfl, by have := HK.out; omega, o2, L2⟩
    case measure => have := HK.out; show n + 1 + zc n - (K + 1) < n + 1 + zc n - K; omega
  · have t1 : ((K : Int) % 64 != 56) = false := by
     have := Hst.out;simp; omega
    have ho' : Hid (Ow wr w0.heap.size (.slice A K c) (zs l (zc n))) := zh (by rw [show zc n = z by omega]; exact ho);have Hb := zh hb;have HK' : Hid (K = n + 1 + zc n) := zh (by have := HK.out; omega);clear ho hb HK Hst
    go_wp2
    go_loopw [3, 5] (fun a i wr => ∃ (k K : Nat) (A : Option Addr) (c : Nat), k ≤ 8 ∧ i = .int .i64 (7 - (k : Int)) ∧ a = .slice A K c ∧ K = n + 1 + zc n + k ∧ Ow wr w0.heap.size (.slice A K c) (zs l (zc n) ++ lenB n k) ∧ Below w0.heap.size w0 wr) (fun _ i _ => (intOf i + 1).toNat)
    case atStart => exact ⟨0, K, A, c, Nat.zero_le _, rfl, rfl, HK'.out, by have e : lenB n 0 = [] := rfl; rw [e, List.append_nil]; exact ho'.out, Hb.out⟩
    case round =>
     clear ho' Hb HK' hK2 t1 hz hlt;clear z;obtain ⟨k, K, A, c, hk, rfl, rfl, hK, ho, hb⟩ := hrel;have HK := zh hK; clear hK;by_cases hk8 : k < 8
     · obtain ⟨D, hD⟩ := zx (8 * n / 2 ^ (8 * (7 - k)));obtain ⟨z, hz8⟩ := zx (UInt8.ofNat D);have gD : ((8 * n : Nat) : Int) / 2 ^ (8 * (7 - k)) = (D : Int) := by rw [hD]; simp
       have gD' : (n : Int) * 8 / 2 ^ (8 * (7 - k)) = (D : Int) := by rw [hD, show (n : Int) * 8 = ((8 * n : Nat) : Int) by omega]; simp
       have gz : IntKind.u8.wrap (D : Int) = (z.toNat : Int) := by rw [IntKind.wrap_u8', hz8, UInt8.toNat_ofNat']; omega
       have Hz : Hid (lenB n k ++ [z] = lenB n (k + 1)) := zh (by rw [zmz, hz8, hD]);have e1 : (8 * (7 - (k : Int))).toNat = 8 * (7 - k) := by omega
       have e2 : 0 ≤ 8 * (7 - (k : Int)) := by omega
       have e3 : 0 ≤ 7 - (k : Int) := by omega
       have e4 : (k : Int) ≤ 7 := by omega
       have O1 : Hid (Ow (wr.alloc (.cells #[.int .u8 (z.toNat : Int)] 5)) w0.heap.size (.slice A K c) (zs l (zc n) ++ lenB n k)) := zh (ho.below (below_new wr _) zl);have R1 : Hid (Rb (wr.alloc (.cells #[.int .u8 (z.toNat : Int)] 5)) (.slice (some ⟨wr.heap.size, 0, none⟩) 1 1) [z]) := zh (rb_one wr z);have QL1 : Hid ((zs l (zc n) ++ lenB n k).length + ([z] : zB).length ≤ 140737488355328) := zh (by rw [List.length_append, z6r, z9e, ← Hn.out]; simp; omega);have S1 : Hid (w0.heap.size ≤ (wr.alloc (.cells #[.int .u8 (z.toNat : Int)] 5)).heap.size) := zh (by have := hb.size; simp; omega);have L1 : Hid (Below w0.heap.size w0 (wr.alloc (.cells #[.int .u8 (z.toNat : Int)] 5))) := zh (hb.alloc hb.size _);clear ho hb hD hz8
       go_wp2_with (refine wpList_app (o := ⟨some 38, _, _, _, _, _⟩) rfl _ _ rfl w0.heap.size _ _ _ _ rfl rfl O1.out R1.out QL1.out S1.out ?_)
       intro v2 w2 o2 l2;rw [Hz.out] at o2;have L2 := L1.out.trans l2;obtain ⟨A2, c2, rfl⟩ := o2.rb.shape;have hk2 : (zs l (zc n) ++ lenB n (k + 1)).length = K + 1 := by rw [List.length_append, z6r, z9e, ← Hn.out, HK.out]; omega
       rw [hk2] at o2 ⊢;clear O1 R1 QL1 S1 L1 l2 hk2 gD gD' gz e1 e2 e3 e4
       go_wp2
       go_roundw
       case rel => exact ⟨k + 1, K + 1, A2, c2, by omega, congrArg (Value.int .i64) (by omega), rfl, by have := HK.out; omega, o2, L2⟩
       case measure => simp [intOf]; omega
     · obtain ⟨wz, hwz⟩ := zx wr;subst hwz;have e4 : ¬ (k : Int) ≤ 7 := by omega
       have e5 : ¬ 0 ≤ 7 - (k : Int) := by omega
       have hop : Ow wz w0.heap.size (.slice A K c) (padL l) := by rw [← pad_eq, ← Hn.out, show 8 = k by omega]; exact ho
       have hKt : (padL l).length = K := by rw [z68, zmy, ← Hn.out]; have := HK.out; omega
       obtain ⟨g, cap, hv, hcap, hgl, hcells⟩ := hop.pos (by have := HK.out; omega);rw [hKt] at hv hcap;simp only [Value.slice.injEq, true_and] at hv;obtain ⟨rfl, rfl⟩ := hv;obtain ⟨T, hT⟩ : ∃ T, K = 64 * T := ⟨K / 64, by have h1 := z68 l; rw [hKt] at h1; rw [h1]; unfold tot; omega⟩
       have HTk := zh hT;have hKb : K ≤ 90000 := by have := HK.out; omega
       have Hc := zh hcells; have HKt := zh hKt; have Hb := zh hb;clear ho hop hcells hKt hb hT HK;have b6 : Blk (wz.alloc (Obj.cells (u32s 8 H0.get) 113)) wz.heap.size 113 (u32s 8 H0.get) := Blk.new wz _ _;have z6 : Blk (wz.alloc (Obj.cells (u32s 8 fun _ => 0) 113)) wz.heap.size 113 (u32s 8 fun _ => 0) := Blk.new wz _ _;have B6 := zh b6; have Z6 := zh z6; clear b6 z6
       go_wp2_with (first
        | (refine z59 (o := ⟨some 39, _, _, _, _, _⟩) rfl 113 _ rfl (u32s 8 H0.get) (by kernel_rfl) ?_)
        | (refine wpList_store_row (o := ⟨none, .store 113 (.tmp 6) (.tmp 39), _, _, _, _⟩) rfl 113 _ _ rfl wz.heap.size (u32s 8 H0.get) rfl rfl 113 (u32s 8 fun _ => 0) (by exact Z6.out) (by rw [z0d]; kernel_rfl) (by rw [z0d, z0d]) (z34 8 _) ?_; rw [World.setRow_alloc_new]))
       obtain ⟨M, hM⟩ := zx (fun j => (padL l).getD j 0);have HM := zh hM
       go_loopw [7] (fun a wx => ∃ (k a' : Nat), k ≤ T ∧ a = .int .i64 (a' : Int) ∧ a' = 64 * k ∧ Blk wx wz.heap.size 113 (u32s 8 (z2z KF H0 M k).get) ∧ Below wz.heap.size wz wx) (fun a _ => K - (intOf a).toNat)
       case atStart => exact ⟨0, 0, Nat.zero_le _, rfl, rfl, B6.out, below_new wz _⟩
       case round =>
        clear B6;obtain ⟨q, a', hq, rfl, ha', hb6, hbl⟩ := hrel;by_cases hlt : a' < K
        · have hqT : q < T := by have := HTk.out; omega
          have h64 : a' + 64 ≤ K := by have := HTk.out; omega
          obtain ⟨H, hH⟩ := zx (z2z KF H0 M q);rw [← hH] at hb6;have HH := zh hH; clear hH;have c0 := hb6.word 0 (by decide);have c1 := hb6.word 1 (by decide);have c2 := hb6.word 2 (by decide);have c3 := hb6.word 3 (by decide);have c4 := hb6.word 4 (by decide);have c5 := hb6.word 5 (by decide);have c6 := hb6.word 6 (by decide);have c7 := hb6.word 7 (by decide);have e1 : (a' : Int) < (K : Int) := by omega
          obtain ⟨b', hb'⟩ := zx (a' + 64);have e2 : IntKind.i64.wrap ((a' : Int) + 64) = (b' : Int) := by rw [IntKind.wrap_i64]; omega
          have j1 : 0 ≤ (b' : Int) := by omega
          have j2 : b' ≤ c := by omega
          have j3 : a' ≤ b' := by omega
          have j4 : ¬ c = a' := by omega
          have j5 : b' - a' = 64 := by omega
          have hrd : ∀ j, j < 64 → wr.drew.cell? ⟨g, a' + j, none⟩ = some (.int .u8 ((M (a' + j)).toNat : Int)) := fun j hj => by
           show wr.cell? _ = _;rw [hbl.cell (p := ⟨g, a' + j, none⟩) hgl, Hc.out (a' + j) (by rw [HKt.out]; omega), HM.out]
          have HB : Hid (Calls Tryz.prog 56 #[.agg #[wv (H.get 0), wv (H.get 1), wv (H.get 2), wv (H.get 3), wv (H.get 4), wv (H.get 5), wv (H.get 6), wv (H.get 7)], .slice (some ⟨g, a', none⟩) 64 (c - a')] wr.drew fun e w' => e = .returned (.agg (u32s 8 (mixV KF H (fun j => M (a' + j))).get)) ∧ Below wr.drew.heap.size wr.drew w') := zh (zmx wr.drew H g a' (c - a') 64 (fun j => M (a' + j)) (by decide) (by decide) hrd);obtain ⟨X, hX⟩ := zx (mixV KF H (fun j => M (a' + j)));rw [← hX] at HB;have HX : Hid (X = z2z KF H0 M (q + 1)) := zh (by rw [hX, HH.out, ha']; rfl);have Hh64 := zh h64;have Hb6 := zh hb6; have Hbl := zh hbl; have Ha := zh ha';have Hb' := zh hb';have HqT := zh hqT;clear hb6 hbl ha' hqT hrd hX hb' h64
          go_wp2
          go_still_tail 6, (by kernel_rfl)
          clear c0 c1 c2 c3 c4 c5 c6 c7 e2 j1 j2 j3 j4 j5
          go_wp2_with fail
          refine HB.out.mono ?_;rintro e wA ⟨rfl, hbA⟩
          have bA : Blk wA wz.heap.size 113 (u32s 8 H.get) := by
           have h1 : Blk wr.drew wz.heap.size 113 (u32s 8 H.get) := Hb6.out;exact h1.below hbA h1.lt
          have lA : Below wz.heap.size wz wA := Hbl.out.drew.trans (hbA.mono (by have := Hbl.out.size; show wz.heap.size ≤ wr.heap.size; exact this));clear Hbl Hb6 hbA HB
          go_wp2_with (refine wpList_store_row (o := ⟨none, .store 113 (.tmp 6) (.tmp 52), _, _, _, _⟩) rfl 113 _ _ rfl wz.heap.size (u32s 8 X.get) rfl rfl 113 (u32s 8 H.get) (by exact bA) (by rw [z0d]; kernel_rfl) (by rw [z0d, z0d]) (z34 8 _) ?_)
          have bB : Blk (wA.setRow wz.heap.size (u32s 8 X.get)) wz.heap.size 113 (u32s 8 X.get) := setRow_heap wA wz.heap.size _ _ _ _ bA;have lB : Below wz.heap.size wz (wA.setRow wz.heap.size (u32s 8 X.get)) := below_setRow lA zl _;obtain ⟨wB, hwB⟩ := zx (wA.setRow wz.heap.size (u32s 8 X.get));rw [← hwB] at bB lB ⊢;clear hwB bA lA
          go_wp2
          go_roundw
          case rel => exact ⟨q + 1, a' + 64, by have := HqT.out; omega, congrArg (Value.int .i64) (by omega), by have := Ha.out; omega, by rw [← HX.out]; exact bB, lB⟩
          case measure => have := Hh64.out; show K - ((a' : Int) + 64).toNat < K - ((a' : Int)).toNat; omega
        · obtain ⟨V, hV⟩ := zx (sumV l);have hqT : q = T := by have := HTk.out; omega
          have hVq : z2z KF H0 M q = V := by
           rw [hqT, HM.out, hV];have h1 := z68 l;rw [HKt.out, HTk.out] at h1;have h2 : tot l.length / 64 = T := by omega
           unfold sumV;rw [h2];exact z8q _ _ (fun _ _ => rfl) fun j hj => padL_get l j (by omega)
          rw [hVq] at hb6;have b8 : Blk (wr.alloc (Obj.cells (u8s 32 fun _ => 0) 68)) wr.heap.size 68 (u8s 32 fun _ => 0) := Blk.new wr _ _;have b6' : Blk (wr.alloc (Obj.cells (u8s 32 fun _ => 0) 68)) wz.heap.size 113 (u32s 8 V.get) := hb6.alloc _;have hs0z := Hb.out.size;have hszr := hbl.size;have hs0 := Sz0.out;have hlt6 : wz.heap.size < wr.heap.size := hb6.lt;have l8 : Below (w.heap.size + 1) w0 (wr.alloc (Obj.cells (u8s 32 fun _ => 0) 68)) := ((Hb.out.mono (by omega)).trans (hbl.mono (by omega))).alloc (by omega) _;have e1 : ¬ (a' : Int) < (K : Int) := by omega
          have B8 := zh b8; have B6' := zh b6'; have L8 := zh l8; have HV := zh hV;obtain ⟨b8n, hb8n⟩ := zx wr.heap.size;have HN8 : Hid (w.heap.size + 1 ≤ wz.heap.size ∧ wz.heap.size < b8n) := zh (by omega);clear b8 b6' l8 hV hVq hqT hb6 hbl ha' hs0z hszr hs0 hlt6
          go_wp2
          rw [← hb8n] at B8 ⊢;clear hb8n
          go_loopw [9, 10] (fun i _ wx => ∃ (a : Nat) (F : Nat → UInt8), a ≤ 8 ∧ i = .int .i64 a ∧ Blk wx b8n 68 (u8s 32 F) ∧ Blk wx wz.heap.size 113 (u32s 8 V.get) ∧ Below (w.heap.size + 1) w0 wx ∧ (∀ j, j < 4 * a → F j = z30 V j)) (fun i _ _ => 8 - (intOf i).toNat)
          case atStart => exact ⟨0, fun _ => 0, Nat.zero_le _, rfl, B8.out, B6'.out, L8.out, fun j hj => by omega⟩
          case round =>
           clear B8 B6' L8;obtain ⟨a, F, ha, rfl, hb8, hb6, hl, hF⟩ := hrel;have HF := zh hF; have Hb8 := zh hb8; have Hb6 := zh hb6; have Hl := zh hl;clear hF hb8 hb6 hl;by_cases hlt : a < 8
           · go_wp2
             go_loopw [10] (fun k wx => ∃ (b : Nat) (F : Nat → UInt8), b ≤ 4 ∧ k = .int .i64 b ∧ Blk wx b8n 68 (u8s 32 F) ∧ Blk wx wz.heap.size 113 (u32s 8 V.get) ∧ Below (w.heap.size + 1) w0 wx ∧ (∀ j, j < 4 * a + b → F j = z30 V j)) (fun k _ => 4 - (intOf k).toNat)
             case atStart => exact ⟨0, F, Nat.zero_le _, rfl, Hb8.out, Hb6.out, Hl.out, fun j hj => HF.out j hj⟩
             case round =>
              clear Hb8 Hb6 Hl HF;clear F;obtain ⟨b, F, hb, rfl, hb8, hb6, hl, hF⟩ := hrel;have HF := zh hF; clear hF;by_cases hlt4 : b < 4
              · obtain ⟨s, hs⟩ := zx (24 - 8 * b);obtain ⟨d, hd⟩ := zx (4 * a + b);obtain ⟨x, hx⟩ := zx (V.get a);have cx : wr.cell? ⟨wz.heap.size, a, none⟩ = some (.int .u32 (x.toNat : Int)) := by rw [hb6.word a hlt, hx]
                obtain ⟨y, hy⟩ := zx (x >>> UInt32.ofNat s);obtain ⟨z, hz⟩ := zx y.toUInt8;have gy : (x.toNat : Int) / 2 ^ s = (y.toNat : Int) := by rw [shrP x s (by omega), hy]
                have gz : IntKind.u8.wrap (y.toNat : Int) = (z.toNat : Int) := by rw [IntKind.wrap_u8', hz, UInt32.toNat_toUInt8]; omega
                have Hz : Hid (z = z30 V d) := zh (by
                 rw [hz, hy, hx, hs, hd]; unfold z30;rw [show (4 * a + b) / 4 = a by omega, show (4 * a + b) % 4 * 8 = 8 * b by omega])
                have gs : 24 - 8 * (b : Int) = (s : Int) := by omega
                have gd : 4 * (a : Int) + (b : Int) = (d : Int) := by omega
                have hd32 : d < 32 := by omega
                have Hd := zh hd;have cq := hb8.byte d hd32;have zq := hb8.frozen d;clear hx hy hz hs hd
                go_wp2
                go_roundw
                case rel =>
                 refine ⟨b + 1, upd F d z, by omega, by go_num, hb8.setB d z, hb6.far (by have := HN8.out; show wz.heap.size ≠ b8n; omega) _, hl.setCell (by have := HN8.out; show w.heap.size + 1 ≤ b8n; omega) _, fun j hj => ?_⟩;by_cases hjk : j = d
                 · subst hjk; rw [z0q, Hz.out]
                 · rw [z09 _ _ _ _ hjk]; exact HF.out j (by have := Hd.out; omega)
                case measure => simp [intOf]; omega
              · have HF' : Hid (∀ j, j < 4 * (a + 1) → F j = z30 V j) := zh fun j hj => HF.out j (by omega)
                go_wp2
                go_roundw
                case rel => exact ⟨a + 1, F, by omega, by go_num, hb8, hb6, hl, HF'.out⟩
                case measure => simp [intOf]; omega
           · have Hf : Hid (u8s 32 F = (sumC l).toArray) := zh (by rw [← zfj, ← HV.out]; exact z6d fun j hj => HF.out j (by omega));obtain ⟨R, hR⟩ := zx (u8s 32 F);have hb8 := Hb8.out;rw [← hR] at Hf hb8;have HRs : Hid (R.size = 32) := zh (by rw [hR, z0a]);have HRo : Hid (R.all (·.oneCell') = true) := zh (by rw [hR]; exact z3r 32 _);have r2 : Blk wr w.heap.size 68 (u8s 32 fun _ => 0) := r0.below Hl.out (by omega);have l2 : Below w.heap.size w wr := l0.trans (Hl.out.mono (by omega));have rw2 : Blk (wr.setRow w.heap.size R) w.heap.size 68 R := setRow_heap wr w.heap.size _ _ _ _ r2;have lw2 : Below w.heap.size w (wr.setRow w.heap.size R) := below_setRow l2 zl _;clear hR Hb8
             go_wp2_with (first
              | (refine wpList_load_row rfl 68 _ rfl b8n rfl 68 R (0, 0) _ hb8 Tryz.underlying68 rfl (by rw [HRs.out]; kernel_rfl) ?_)
              | (refine wpList_store_row rfl 68 _ _ rfl w.heap.size R rfl rfl 68 (u8s 32 fun _ => 0) r2 (by rw [HRs.out]; kernel_rfl) (by rw [HRs.out, z0a]) HRo.out ?_))
             exact bodyPost_ret (v := .agg R) (results_cell_row rfl _ _ w.heap.size 68 R (0, 0) _ rfl rw2 Tryz.underlying68 rfl (by rw [HRs.out]; kernel_rfl)) rfl ⟨by rw [Hf.out], lw2⟩
theorem rb_two (w : World) (c d : UInt8) : Rb (w.alloc (.cells #[.int .u8 (c.toNat : Int), .int .u8 (d.toNat : Int)] 5)) (.slice (some ⟨w.heap.size, 0, none⟩) 2 2) [c, d] :=
 .inr ⟨w.heap.size, 0, 2, rfl, Nat.le_refl _, by simp, fun j hj => by
  have h0 : j = 0 ∨ j = 1 := by simp at hj; omega
  rw [Nat.zero_add, (Go.Proofs.YtgjddkeogboojaaGreatDoor.Blk.new w 5 #[.int .u8 (c.toNat : Int), .int .u8 (d.toNat : Int)]).cell];rcases h0 with rfl | rfl <;> rfl⟩
theorem step_app {ops : Array Oper} {o : Oper} {a : Act} {w : World} {K : Act → World → Prop} {Q : Exit → Act → World → Prop} {E : Prop} (hgd : o.guard = none) (s x : Operand)
 (ho : o.op = .call { callee := .builtin .append, args := #[s, x], argTypes := #[23, 23] }) (base : Nat) (v sv : Value) (l m : zB) (hs : a.eval s = v) (hx : a.eval x = sv)
 (h : Ow w base v l) (hr : Rb w sv m) (hl : l.length + m.length ≤ 140737488355328) (hb : base ≤ w.heap.size)
 (k : ∀ v' w', Ow w' base v' (l ++ m) → Below base w w' → K (a.put o.dst v') w') : if Region.wanted o (yielded ops a.tmps) = true then Oper.wp Tryz.prog o a w K Q else E := by
 have hw : Region.wanted o (yielded ops a.tmps) = true := by simp [Region.wanted, hgd]
 rw [if_pos hw];obtain ⟨v', w', h1, h2, h3⟩ := run_app h hr hl hb o.type;unfold Oper.wp;simp [execOp, ho, resolve, invoke, builtin, hs, hx, h1, Result.andThen];exact k v' w' h2 h3
def hexs (F : Nat → UInt8) (k : Nat) : zB := (List.range k).flatMap fun i => [hexD (F i / 16), hexD (F i % 16)]
theorem zdt (F : Nat → UInt8) (k : Nat) : hexs F k ++ [hexD (F k / 16), hexD (F k % 16)] = hexs F (k + 1) := by
 unfold hexs; rw [List.range_succ, List.flatMap_append]; simp
theorem z69 (F : Nat → UInt8) : ∀ k, (hexs F k).length = 2 * k
 | 0 => rfl
 | k + 1 => by rw [← zdt, List.length_append, z69 F k]; simp; omega
theorem zdu (w : World) (v : Value) (l : zB) (hl : l.length ≤ 80000) (hr : Rb w v l) :
 Calls Tryz.prog 26 #[v] w fun e w' => e = .returned (SV (z3u l)) ∧ Below w.heap.size w w' := by
 have HS : Hid (∀ W : World, Below w.heap.size w W → Calls Tryz.prog 32 #[v] W fun e w' => e = .returned (.agg (u8s 32 (z30 (sumV l)))) ∧ Below W.heap.size W w') := zh fun W hW => by rw [zfj]; exact RSum_any W v l hl (hr.below hW zl)
 have Hnm := zh (zm0 l);obtain ⟨F, hF⟩ := zx (z30 (sumV l));rw [← hF] at HS Hnm;clear hr hF
 go_enter Tryz.func26, Tryz.ntmps26
 go_wp2_with fail
 refine (HS.out _ (Below.refl _ _)).mono ?_;rintro e w1 ⟨rfl, l1⟩;have b3 : Blk (w1.alloc (Obj.cells (u8s 32 F) 68)) w1.heap.size 68 (u8s 32 F) := Blk.new w1 _ _;have l3 : Below w.heap.size w (w1.alloc (Obj.cells (u8s 32 F) 68)) := l1.alloc l1.size _;have hz32 := zzzf
 go_wp2_with (refine wpList_store_row rfl 68 _ _ rfl w1.heap.size (u8s 32 F) rfl rfl 68 (u8s 32 fun _ => 0) (by exact Blk.new w1 _ _) (by rw [z0a]; kernel_rfl) (by rw [z0a, z0a]) (z3r 32 F) ?_; rw [World.setRow_alloc_new])
 have B3 := zh b3; have L3 := zh l3;obtain ⟨base, hbase⟩ := zx (w1.heap.size + 1);have hbs : (w1.alloc (Obj.cells (u8s 32 F) 68)).heap.size = base := by rw [hbase]; simp
 have Hbase : Hid (w.heap.size ≤ base ∧ w1.heap.size < base) := zh ⟨by have := l1.size; omega, by omega⟩;have O3 := zh (Ow.nil (w1.alloc (Obj.cells (u8s 32 F) 68)) base);obtain ⟨w3, hw3⟩ := zx (w1.alloc (Obj.cells (u8s 32 F) 68));rw [← hw3] at B3 L3 O3 hbs ⊢;generalize w1.heap.size = b3n at *;have Hbs := zh hbs;clear b3 l3 l1 hw3 hbase hbs
 go_loopw [4, 5] (fun o i wx => ∃ (k K : Nat) (A : Option Addr) (c : Nat), k ≤ 32 ∧ i = .int .i64 k ∧ o = .slice A K c ∧ K = 2 * k ∧ Ow wx base (.slice A K c) (hexs F k) ∧ Below base w3 wx) (fun _ i _ => 32 - (intOf i).toNat)
 case atStart => exact ⟨0, 0, none, 0, Nat.zero_le _, rfl, rfl, rfl, O3.out, Below.refl _ _⟩
 case round =>
  clear O3;obtain ⟨k, K, A, c, hk, rfl, rfl, hK, ho, hb⟩ := hrel;by_cases hlt : k < 32
  · obtain ⟨x, hx⟩ := zx (F k);have b3 := B3.out.below hb (by have := Hbase.out; omega);have cx : wr.cell? ⟨b3n, k, none⟩ = some (.int .u8 (x.toNat : Int)) := by rw [b3.byte k hlt, hx]
    obtain ⟨p, hp⟩ := zx (x / 16);obtain ⟨q, hq⟩ := zx (x % 16);have gp : (x.toNat : Int) / 16 = (p.toNat : Int) := by rw [hp, UInt8.toNat_div]; simp
    have gq : (x.toNat : Int) % 16 = (q.toNat : Int) := by rw [hq, UInt8.toNat_mod]; simp
    have gp2 : IntKind.u8.wrap (p.toNat : Int) = (p.toNat : Int) := by rw [IntKind.wrap_u8']; have := p.toNat_lt; omega
    have gq2 : IntKind.u8.wrap (q.toNat : Int) = (q.toNat : Int) := by rw [IntKind.wrap_u8']; have := q.toNat_lt; omega
    have gq3 : (x.toNat : Int).tmod 16 = (q.toNat : Int) := by rw [Int.tmod_eq_emod_of_nonneg (by omega)]; exact gq
    have hp16 : p < 16 := by rw [hp, UInt8.lt_iff_toNat_lt, UInt8.toNat_div]; have := x.toNat_lt; simp; omega
    have hq16 : q < 16 := by rw [hq, UInt8.lt_iff_toNat_lt, UInt8.toNat_mod]; simp; omega
    have HP : Hid (∀ W : World, Calls Tryz.prog 50 #[.int .u8 (p.toNat : Int)] W fun e w' => e = .returned (.int .u8 ((hexD p).toNat : Int)) ∧ w' = W) := zh fun W => (zao p hp16 W).mono fun _ _ h => ⟨h.1, h.2.symm⟩
    have HQ : Hid (∀ W : World, Calls Tryz.prog 50 #[.int .u8 (q.toNat : Int)] W fun e w' => e = .returned (.int .u8 ((hexD q).toNat : Int)) ∧ w' = W) := zh fun W => (zao q hq16 W).mono fun _ _ h => ⟨h.1, h.2.symm⟩
    have hs : hexs F k ++ [hexD p, hexD q] = hexs F (k + 1) := by rw [hp, hq, hx]; exact zdt F k
    obtain ⟨a, ha⟩ := zx (hexD p);obtain ⟨b, hb2⟩ := zx (hexD q);rw [← ha, ← hb2] at hs;rw [← ha] at HP;rw [← hb2] at HQ;have O1 : Hid (Ow (wr.drew.alloc (.cells #[.int .u8 (a.toNat : Int), .int .u8 (b.toNat : Int)] 5)) base (.slice A K c) (hexs F k)) := zh ((show Ow wr.drew base (.slice A K c) (hexs F k) from ho).below (below_new wr.drew _) zl);have R1 : Hid (Rb (wr.drew.alloc (.cells #[.int .u8 (a.toNat : Int), .int .u8 (b.toNat : Int)] 5)) (.slice (some ⟨wr.drew.heap.size, 0, none⟩) 2 2) [a, b]) := zh (rb_two wr.drew a b);have QL1 : Hid ((hexs F k).length + ([a, b] : zB).length ≤ 140737488355328) := zh (by rw [z69]; simp; omega)
    have S1 : Hid (base ≤ (wr.drew.alloc (.cells #[.int .u8 (a.toNat : Int), .int .u8 (b.toNat : Int)] 5)).heap.size) := zh (by
     have h1 := hb.size;rw [Hbs.out] at h1;have h2 : (wr.drew.alloc (.cells #[.int .u8 (a.toNat : Int), .int .u8 (b.toNat : Int)] 5)).heap.size = wr.heap.size + 1 := by simp
     omega)
    have L1 : Hid (Below base w3 (wr.drew.alloc (.cells #[.int .u8 (a.toNat : Int), .int .u8 (b.toNat : Int)] 5))) := zh (hb.drew.alloc (by have h1 := hb.size; rw [Hbs.out] at h1; exact h1) _);have HS1 := zh hs;have HK := zh hK
    have hC : ∀ W, Below base wr W → W.cell? ⟨b3n, k, none⟩ = some (.int .u8 (x.toNat : Int)) := fun W hW => by
     rw [hW.cell (p := ⟨b3n, k, none⟩) Hbase.out.2]; exact cx
    have hsz : base ≤ wr.heap.size := by have h1 := hb.size; rw [Hbs.out] at h1; exact h1
    have d0 : Below base wr wr.drew := (Below.refl _ _).drew;have d1 : Below base wr (wr.drew.alloc (.cells #[.int .u8 (a.toNat : Int), .int .u8 (b.toNat : Int)] 5)) := d0.alloc hsz _;have c0 := hC _ d0;have c1 := hC _ d1;have HC := zh hC;clear hx hp hq hs ha hb2 b3 ho hb hp16 hq16 hK hC hsz
    go_wp2
    go_region_held3 (fun W => W.cell? ⟨b3n, k, none⟩ = some (.int .u8 (x.toNat : Int)) ∧ Below base wr W)
     (first | exact ⟨by assumption, by assumption⟩ | exact And.intro c0 d0 | exact And.intro c1 d1)
     (first
       | (go_at_call 50; (first | with_reducible refine (HP.out _).mono ?_ | with_reducible refine (HQ.out _).mono ?_); rintro e w5 ⟨rfl, rfl⟩)
       | (refine step_app rfl (.tmp 12) (.tmp 23) rfl base _ _ _ _ rfl rfl O1.out R1.out QL1.out S1.out ?_; intro v2 w2 o2 l2; have d2 := d1.trans l2; have c2 := HC.out _ d2)
       | show False)
    rw [HS1.out] at o2;have L2 := L1.out.trans l2;obtain ⟨A2, c2, rfl⟩ := o2.rb.shape;rw [z69] at o2 ⊢;clear O1 R1 QL1 S1 L1 l2 c0 c1 d0 d1 d2 gp gp2 gq gq2 gq3 cx HP HQ HC
    go_wp2
    go_roundw
    case rel => exact ⟨k + 1, 2 * (k + 1), A2, c2, by omega, by go_num, rfl, rfl, o2, L2⟩
    case measure => simp [intOf]; omega
  · have Hh : hexs F k = z3u l := by rw [show k = 32 by omega]; exact Hnm.out
    rw [Hh] at ho;obtain ⟨nm, hnm⟩ := zx (z3u l);have hlen : nm.length = 64 := by rw [hnm]; exact z4u l
    rw [← hnm] at ho;have Hn2 := zh hnm;have hK64 : K = 64 := by omega
    obtain ⟨g, cap, hv, hcap, hgl, hcells⟩ := ho.pos (by omega);rw [hlen] at hv hcap hcells;simp only [Value.slice.injEq] at hv;obtain ⟨rfl, rfl, rfl⟩ := hv
    have hconv : (convert 23 9 (.slice (some ⟨g, 0, none⟩) 64 c)).run Tryz.prog wr = .ok (.string ⟨nm.toArray⟩) wr := by
     have := run_convert_bytes_back (P := Tryz.prog) wr 23 9 5 ⟨g, 0, none⟩ c nm Tryz.underlying23 Tryz.underlying5 Tryz.underlying9 (fun j hj => by
      rw [add_none, Nat.zero_add, hcells j (by omega), zg, zj hj];rfl)
     rw [hlen] at this;exact this
    have lw : Below w.heap.size w wr := L3.out.trans (hb.mono Hbase.out.1);clear hcells hnm ho hb hK Hnm
    go_wp2
    go_ret
    exact ⟨by rw [← Hn2.out]; rfl, lw⟩
theorem z42 {α : Type} (l : List α) (d : α) (k : Nat) (hk : k < l.length) : l.getD k d = l[k] := by
 rw [zg, zj hk]; rfl
theorem part_len {s : zB} (h : z2a s = true) : s.length ≤ 70 := by
 unfold z2a at h;simp only [Bool.and_eq_true, decide_eq_true_eq] at h;exact h.1.1.2.2
theorem zaz : ∀ {l : List (zB)}, (∀ p ∈ l, z0c p = true) → (parL l).length = 72 * l.length
 | [], _ => rfl
 | p :: l, h => by
   have h1 := z17 (h p (by simp));have h2 := zaz (fun y hy => h y (List.mem_cons_of_mem _ hy));have e : parL (p :: l) = (wParent ++ (p ++ [10])) ++ parL l := rfl;rw [e, List.length_append, List.length_cons];simp only [List.length_append, List.length_cons, List.length_nil, wParent];omega
theorem putC_len {c : Chg} (h : z18 c = true) : (putC c).length ≤ 1000 + c.text.length := by
 obtain ⟨h1, h2, h3, _, h5⟩ := z1k.1 h;have e1 := z17 h1;have e2 := zaz h3
 have e3 : c.who.length ≤ 100 := by
  unfold whoB at h5;simp only [Bool.and_eq_true, decide_eq_true_eq] at h5;exact h5.2
 unfold putC;simp only [List.length_append, List.length_cons, wTree, wWho, List.length_nil];omega
theorem zn0 (k : Int) : (kindW k).length ≤ 6 := by
 by_cases h : 1 ≤ k ∧ k ≤ 4
 · rcases z3b h.1 h.2 with rfl | rfl | rfl | rfl <;> decide
 · rw [z3e.2 h]; simp
theorem zn1 {l : Lbl} (h : rightL l = true) : (z6e l).length ≤ 1000 + l.text.length := by
 obtain ⟨h1, _, h3⟩ := z3j.1 h;have e1 := z17 h1;have e2 := part_len h3;have e3 := zn0 l.kind;unfold z6e;simp only [List.length_append, List.length_cons, wObject, wKind, wName, List.length_nil];omega
end Go.Proofs.YtgjddkeogboojaaGreatDoor
namespace Go.Proofs.YtgjddkeogboojaaGreatDoor
open Go Go.RowKit Go.Shelf
theorem zn2 (l : List (zB)) (k : Nat) (hk : k < l.length) : parL (l.take (k + 1)) = parL (l.take k) ++ (wParent ++ (l.getD k [] ++ [10])) := by
 rw [z0l l [] k hk]; simp [parL]
theorem zn3 (x : zB) (l : List (zB)) : parL (x :: l) = (wParent ++ (x ++ [10])) ++ parL l := rfl
theorem zhe : ∀ {l : List (zB)}, (∀ x ∈ l, z0c x = true) → (parL l).length ≤ 72 * l.length
 | [], _ => by simp [parL]
 | x :: l, h => by
   have h1 := z17 (h x (by simp));have h2 := zhe (l := l) (fun y hy => h y (List.mem_cons_of_mem _ hy));have e2 : (wParent ++ (x ++ [10])).length = x.length + 8 := by simp [wParent]
   rw [zn3, List.length_append, e2, List.length_cons];omega
def ziw (c : Chg) : Value := .tuple #[SV (if z18 c then putC c else []), .bool (z18 c)]
theorem zn4 {c : Chg} (h : z18 c = true) : ziw c = .tuple #[SV (putC c), .bool true] := by unfold ziw; rw [h]; rfl
theorem putCV_no {c : Chg} (h : z18 c = false) : ziw c = .tuple #[.string ⟨#[]⟩, .bool false] := by unfold ziw; rw [h]; rfl
structure Ob (w : World) : Prop where
 eb : Eb w
 tb : Tb w
 pr : Pr w
theorem Ob.below {w w' : World} (h : Ob w) (hb : Below w.heap.size w w') : Ob w' := ⟨h.eb.below hb, h.tb.below hb, h.pr.below hb h.pr.lt⟩
end Go.Proofs.YtgjddkeogboojaaGreatDoor
namespace Go.Proofs.YtgjddkeogboojaaGreatDoor
open Go Go.RowKit Go.Maps
structure But (S : Nat → Prop) (w w' : World) : Prop where
 os : w'.os = w.os
 tape : w'.tape = w.tape
 output : w'.output = w.output
 size : w.heap.size ≤ w'.heap.size
 block : ∀ k, k < w.heap.size → ¬ S k → w'.heap[k]? = w.heap[k]?
theorem But.refl (S : Nat → Prop) (w : World) : But S w w := ⟨rfl, rfl, rfl, Nat.le_refl _, fun _ _ _ => rfl⟩
theorem But.trans {S : Nat → Prop} {a b c : World} (h : But S a b) (k : But S b c) : But S a c :=
 ⟨k.os.trans h.os, k.tape.trans h.tape, k.output.trans h.output, Nat.le_trans h.size k.size, fun i hi hs => (k.block i (Nat.lt_of_lt_of_le hi h.size) hs).trans (h.block i hi hs)⟩
theorem But.mono {S T : Nat → Prop} {w w' : World} (h : But S w w') (hs : ∀ k, k < w.heap.size → S k → T k) : But T w w' :=
 ⟨h.os, h.tape, h.output, h.size, fun k hk hn => h.block k hk fun hS => hn (hs k hk hS)⟩
theorem But.of_below {B : Nat} {w w' : World} (h : Below B w w') : But (fun k => B ≤ k) w w' := ⟨h.os, h.tape, h.output, h.size, fun k _ hn => h.block k (Nat.lt_of_not_le hn)⟩
theorem But.of_new {S : Nat → Prop} {w w' : World} (h : Below w.heap.size w w') : But S w w' := ⟨h.os, h.tape, h.output, h.size, fun k hk _ => h.block k hk⟩
theorem But.below {S : Nat → Prop} {w w' : World} {B : Nat} (h : But S w w') (hS : ∀ k, k < w.heap.size → S k → B ≤ k) (hB : B ≤ w.heap.size) : Below B w w' :=
 ⟨h.os, h.tape, h.output, h.size, fun k hk => h.block k (Nat.lt_of_lt_of_le hk hB) fun hs => by have := hS k (Nat.lt_of_lt_of_le hk hB) hs; omega⟩
theorem But.cell {S : Nat → Prop} {w w' : World} (h : But S w w') {p : Addr} (hlt : p.block < w.heap.size) (hn : ¬ S p.block) : w'.cell? p = w.cell? p := World.cell?_of_block (w := w) (h.block p.block hlt hn)
theorem But.alloc {S : Nat → Prop} {a w : World} (h : But S a w) (o : Obj) : But S a (w.alloc o) := h.trans (But.of_new ((Below.refl _ w).alloc zl o))
theorem But.drew {S : Nat → Prop} {a w : World} (h : But S a w) : But S a w.drew := h.trans ⟨rfl, rfl, rfl, Nat.le_refl _, fun _ _ _ => rfl⟩
theorem But.setCell {S : Nat → Prop} {a w : World} (h : But S a w) {p : Addr} (hp : S p.block) (u : Value) : But S a (w.setCell p u) :=
 h.trans ⟨rfl, rfl, rfl, by simp [World.setCell], fun k _ hn => Below.heap_setCell _ _ _ _ (fun e => hn (by rw [e]; exact hp))⟩
theorem RdK.but {α : Type} {k : Nat} {f : α → List Value} {w w' : World} {v : Value} {l : List α} {S : Nat → Prop} (h : RdK k f w v l) (hb : But S w w') (hn : ∀ g, v.ownBlock = some g → ¬ S g) : RdK k f w' v l := by
 rcases h with h | ⟨g, o, c, rfl, hc, hg, hcell⟩
 · exact .inl h
 · exact .inr ⟨g, o, c, rfl, hc, Nat.lt_of_lt_of_le hg hb.size, fun j hj x hx i hi => by rw [hb.cell (p := ⟨g, o + j * k + i, none⟩) hg (hn g rfl)]; exact hcell j hj x hx i hi⟩
theorem map_but {H : Type} {P : Program} {k : TypeId} {R : Value → Option (DataW H × List MemPlace)} {w w' : World} {b n : Nat} {D : DataW H} {S : Nat → Prop} (h : w.ownsMap P k R b n D) (hb : But S w w') (hn : ¬ S b) : w'.ownsMap P k R b n D := by
 have hlt := h.lt;obtain ⟨es, clock, he, r⟩ := h;exact ⟨es, clock, (hb.block b hlt hn).trans he, r⟩
theorem zn5 {w : World} {base n k : Nat} {t : TypeId} {v : Value} {xs : List Value} (h : w.ownsRow base t k v n xs) {g : Nat} (hg : v.ownBlock = some g) : base ≤ g ∧ g < w.heap.size ∧ ∃ cur, w.heap[g]? = some (.cells cur t (0, 0)) := by
 rcases h.2 with ⟨rfl, _⟩ | ⟨g', cap, cur, rfl, hb, hh, _⟩
 · cases hg
 · cases hg; exact ⟨hb, lt_heap hh, cur, hh⟩
theorem z6s {w : World} {base n k : Nat} {t : TypeId} {v : Value} {xs : List Value} (h : w.ownsRow base t k v n xs) : ∃ A c, v = .slice A n c := by
 rcases h.2 with ⟨rfl, rfl⟩ | ⟨g, cap, cur, rfl, _⟩
 · exact ⟨_, _, rfl⟩
 · exact ⟨_, _, rfl⟩
def z0b (h : Hld) : List Value := [SV h.id, .int .i64 h.kind, SV h.data]
theorem z2t (x : Hld) : (z0b x).length = 3 := rfl
def HldsR (w : World) (v : Value) (l : List Hld) : Prop := RdK 3 z0b w v l
theorem HldsR.cells {w : World} {g o n c : Nat} {l : List Hld} (h : HldsR w (.slice (some ⟨g, o, none⟩) n c) l) (k : Nat) (hk : k < l.length) :
 w.cell? ⟨g, o + k * 3, none⟩ = some (SV (l.getD k z05).id) ∧ w.cell? ⟨g, o + k * 3 + 1, none⟩ = some (.int .i64 (l.getD k z05).kind) ∧ w.cell? ⟨g, o + k * 3 + 2, none⟩ = some (SV (l.getD k z05).data) := by
 rcases h with ⟨_, rfl⟩ | ⟨g', o', c', e, hc, hg, hcell⟩
 · simp at hk
 · cases e;have h0 := hcell k hk _ (zj hk);have e : l.getD k z05 = l[k] := by rw [zg, zj hk]; rfl
   rw [e];exact ⟨h0 0 (by omega), h0 1 (by omega), h0 2 (by omega)⟩
def anyR (v : Value) : Option (DataW Value × List MemPlace) := some (.held v, [])
theorem lawS : Keyed Tryz.prog 9 := string_keyed Tryz.underlying9
theorem zn6 {p : Bs} (hp : p.length ≤ maxLen) : keyOf Tryz.prog 9 (.string ⟨p.toArray⟩) = some (.string p) := Go.WideMaps.keyOf_string_mk Tryz.underlying9 (s := ⟨p.toArray⟩) (by simpa [ByteArray.size] using hp)
def MapS (w : World) (b n : Nat) (f : Bs → Option Value) : Prop :=
 ∃ D, w.ownsMap (H := Value) Tryz.prog 9 anyR b n D ∧ IsMap D ∧ ∀ x, (f x = none → has D (.string x) = false) ∧ ∀ v, f x = some v → ∀ z, D.atKey (.string x) z = .held v
theorem MapS.lt {w : World} {b n : Nat} {f : Bs → Option Value} (h : MapS w b n f) : b < w.heap.size := by obtain ⟨D, h, _⟩ := h; exact h.lt
theorem MapS.but {w w' : World} {b n : Nat} {f : Bs → Option Value} {S : Nat → Prop} (h : MapS w b n f) (hb : But S w w') (hn : ¬ S b) : MapS w' b n f := by
 obtain ⟨D, h, r⟩ := h; exact ⟨D, map_but h hb hn, r⟩
theorem MapS.below {w w' : World} {b n B : Nat} {f : Bs → Option Value} (h : MapS w b n f) (hb : Below B w w') (hlt : b < B) : MapS w' b n f := h.but (But.of_below hb) (by omega)
theorem MapS.made (w : World) : MapS (w.alloc (.map #[] 0)) w.heap.size 0 fun _ => none :=
 ⟨.map [], World.ownsMap_made w _ _ _, ⟨_, rfl⟩, fun x => ⟨fun _ => rfl, fun v h => by cases h⟩⟩
theorem MapS.look {w : World} {b n : Nat} {f : Bs → Option Value} (h : MapS w b n f) {t e : TypeId} (ht : Tryz.prog.underlying t = some (.map 9 e)) {z : Value} (hz : (zeroValue e).run Tryz.prog w = .ok z w) {x : Bs} (hx : x.length ≤ maxLen) :
 (Instr.lookup t (.map (some b)) (.string ⟨x.toArray⟩) false).run Tryz.prog w = .ok ((f x).getD z) w := by
 obtain ⟨D, hown, _, hf⟩ := h;obtain ⟨v, ps, hrun, hv⟩ := hown.lookup lawS ht hz (zd := .held z) (zp := []) rfl (zn6 hx);cases hfx : f x with
 | none =>
   rw [atKey_of_not_has ((hf x).1 hfx)] at hv;cases hv; exact hrun
 | some u =>
   rw [(hf x).2 u hfx] at hv;cases hv; exact hrun
def updF (f : Bs → Option Value) (x : Bs) (v : Value) : Bs → Option Value := fun y => if y = x then some v else f y
theorem MapS.put {w : World} {b n : Nat} {f : Bs → Option Value} (h : MapS w b n f) {t e : TypeId} (ht : Tryz.prog.underlying t = some (.map 9 e)) (hn : n < maxLen) {x : Bs} (hx : x.length ≤ maxLen) (v : Value) :
 ∃ w', (Instr.mapUpdate t (.map (some b)) (.string ⟨x.toArray⟩) v).run Tryz.prog w = .ok () w' ∧ MapS w' b (n + 1) (updF f x v) ∧ w.grownBy w' (some b) := by
 obtain ⟨D, hown, hm, hf⟩ := h;obtain ⟨w', hrun, hown', hg⟩ := hown.update lawS ht hn (zn6 hx) (val := v) (d := .held v) (ps := []) rfl;refine ⟨w', hrun, ⟨_, hown', ?_, fun y => ⟨fun hy => ?_, fun u hy z => ?_⟩⟩, hg⟩
 · obtain ⟨es, rfl⟩ := hm;exact ⟨_, rfl⟩
 · unfold updF at hy;by_cases e : y = x
   · rw [if_pos e] at hy; cases hy
   · rw [if_neg e] at hy;rw [has_put_other (fun e' => e (by cases e'; rfl))];exact (hf y).1 hy
 · unfold updF at hy;by_cases e : y = x
   · rw [if_pos e] at hy; cases hy;subst e;exact atKey_put_same hm (k := .string y) (by trivial) _ _
   · rw [if_neg e] at hy;rw [atKey_put_other (fun e' => e (by cases e'; rfl))];exact (hf y).2 u hy z
theorem z6a {w : World} {ops : Array Oper} {rest : List Oper} {o : Oper} {a : Go.Act} {Q : Exit → Go.Act → World → Prop}
 (hg : o.guard = none) (mo xo vo : Operand) (t e : TypeId) (hop : o.op = Op.mapUpdate t mo xo vo) (ht : Tryz.prog.underlying t = some (.map 9 e))
 (b n : Nat) (f : Bs → Option Value) (x : Bs) (v : Value) (hm : a.eval mo = .map (some b)) (hxo : a.eval xo = .string ⟨x.toArray⟩) (hvo : a.eval vo = v) (h : MapS w b n f) (hn : n < maxLen) (hx : x.length ≤ maxLen)
 (hK : ∀ w', MapS w' b (n + 1) (updF f x v) → w.grownBy w' (some b) → wpList Tryz.prog ops Q rest (a.put o.dst undef) w') : wpList Tryz.prog ops Q (o :: rest) a w := by
 refine wpList_plain hg fun K' hK' => ?_;obtain ⟨w', hrun, r1, r2⟩ := h.put ht hn hx v;unfold Oper.wp;simp [execOp, hop, hm, hxo, hvo, hrun, Result.andThen];exact hK' _ _ (hK w' r1 r2)
end Go.Proofs.YtgjddkeogboojaaGreatDoor
