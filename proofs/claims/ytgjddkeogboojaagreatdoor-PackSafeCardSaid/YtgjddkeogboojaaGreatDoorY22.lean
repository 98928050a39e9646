/-
  What comes in: items, texts, commits, tags, objects, as they read. ObjectBack, walked. slices.CompactFunc, walked. A whole list behind one of one's own. Sorted, struck out: rising; Set, Join.
-/
import Derived.Deep.Slices
import Derived.ChangeArms
import Derived.DataShut
import Derived.SizedLaws
import Derived.Test.YtgjddkeogboojaaGreatDoorY21
import Derived.Test.YtgjddkeogboojaaGreatDoorY09
import Derived.Test.YtgjddkeogboojaaGreatDoorY10
import Derived.Test.YtgjddkeogboojaaGreatDoorY19
import Derived.Test.YtgjddkeogboojaaGreatDoorY08
import Derived.Deep.AppendSrc
import Derived.Sort.Walk0
import Derived.Test.YtgjddkeogboojaaGreatDoorY20
import Derived.Test.YtgjddkeogboojaaGreatDoorY07
import Derived.Lib.AppendZerosOnto
set_option maxHeartbeats 16000000
set_option maxRecDepth 100000
namespace Go.Proofs.YtgjddkeogboojaaGreatDoor
open Go Go.RowKit Go.Deep
section
variable {H : Type} {enc : TypeId × Value → H} {W : World} {base : Nat} {held : Bool}
def Fits (t : TypeId) (d : DataW H) : Prop := ∀ n ∈ d.weights Tryz.prog t, n ≤ reachBytes
theorem Fits.slice {t e : TypeId} {el sp : List (DataW H)} (h : Fits t (.slice el sp)) (hu : Tryz.prog.underlying t = some (.slice e)) : (el.length + sp.length) * Tryz.prog.bytesOf e ≤ reachBytes := h _ (by simp [DataW.weights, hu])
instance : Inhabited Itm := ⟨z1c⟩
end
end Go.Proofs.YtgjddkeogboojaaGreatDoor
namespace Go.Proofs.YtgjddkeogboojaaGreatDoor
open Go Go.RowKit Go.Shelf
theorem one_box (w : World) (a0 a1 a2 a3 : Value) (W : World) (hW : Below (w.alloc (.cells #[a0, a1, a2, a3] 96)).heap.size (w.alloc (.cells #[a0, a1, a2, a3] 96)) W) :
 W.cell? ⟨w.heap.size, 0, none⟩ = some a0 ∧ W.cell? ⟨w.heap.size, 1, none⟩ = some a1 ∧ W.cell? ⟨w.heap.size, 2, none⟩ = some a2 ∧ W.cell? ⟨w.heap.size, 3, none⟩ = some a3 :=
 ⟨(hW.cell (p := ⟨w.heap.size, 0, none⟩) (by simp)).trans (by simp), (hW.cell (p := ⟨w.heap.size, 1, none⟩) (by simp)).trans (by simp), (hW.cell (p := ⟨w.heap.size, 2, none⟩) (by simp)).trans (by simp), (hW.cell (p := ⟨w.heap.size, 3, none⟩) (by simp)).trans (by simp)⟩
end Go.Proofs.YtgjddkeogboojaaGreatDoor
namespace Go.Proofs.YtgjddkeogboojaaGreatDoor
open Go Go.RowKit Go.Maps Go.Sort
theorem z9l (W : World) (a b r : Int) (h : IntKind.i64.wrap (a - b) = r) : (binOp .sub 3 (.int .i64 a) (.int .i64 b)).run Tryz.prog W = .ok (.int .i64 r) W := by
 simp [go_sem, h]
theorem z8j : Tryz.prog.underlying 38 = some (.slice (Tryz.prog.elem 38)) := by kernel_rfl
theorem zhh (W : World) : (sizeOf (Tryz.prog.elem 38)).run Tryz.prog W = .ok 3 W := by kernel_rfl
theorem znp (W : World) (g o n c k : Nat) (hk : k ≤ n) (hkc : k < c) : (Instr.sliceAt 38 (.slice (some ⟨g, o, none⟩) n c) (some (.int .i64 (k : Int))) none none).run Tryz.prog W = .ok (.slice (some ⟨g, o + k * 3, none⟩) (n - k) (c - k)) W := by
 rw [run_sliceAt_slice W 38 _ _ _ _ z8j, run_slice_l W 38 _ _ _ z8j .i64 _ (by omega) (by omega), zhh];have : ¬ c = k := by omega
 simp [Result.andThen, sliced, Addr.add, this]
theorem znq (W : World) (g o n c k : Nat) (hk : k ≤ c) : (Instr.sliceAt 38 (.slice (some ⟨g, o, none⟩) n c) none (some (.int .i64 (k : Int))) none).run Tryz.prog W = .ok (.slice (some ⟨g, o, none⟩) k c) W := by
 rw [run_sliceAt_slice W 38 _ _ _ _ z8j, run_slice_h W 38 _ _ _ z8j .i64 _ (by omega) (by omega), zhh];simp [Result.andThen, sliced, Addr.add]
theorem z3p {ops : Array Oper} {rest : List Oper} {o : Oper} {a : Act} {w : World} {Q : Exit → Act → World → Prop} (hgd : o.guard = none) (t : TypeId) (s : Operand) (lo hi : Option Operand)
 (ho : o.op = .slice t s lo hi none) (v r : Value) (lv hv : Option Value) (hs : a.eval s = v) (hl : lo.map a.eval = lv) (hh : hi.map a.eval = hv)
 (hr : (Instr.sliceAt t v lv hv none).run Tryz.prog w = .ok r w) (kk : wpList Tryz.prog ops Q rest (a.put o.dst r) w) : wpList Tryz.prog ops Q (o :: rest) a w := by
 refine wpList_plain hgd fun K hK => ?_;unfold Oper.wp;simp [execOp, ho, hs, hl, hh, hr, Result.andThen];exact hK _ _ kk
theorem zc2 {ops : Array Oper} {rest : List Oper} {o : Oper} {a : Act} {w : World} {Q : Exit → Act → World → Prop} (hgd : o.guard = none) (s : Operand)
 (ho : o.op = .call { callee := .builtin .clear, args := #[s], argTypes := #[38] }) (g k n c : Nat) (cur : Array Value) (hs : a.eval s = .slice (some ⟨g, k * 3, none⟩) n c)
 (hg : w.heap[g]? = some (.cells cur 47 (0, 0))) (hn : 0 < n) (hk : k * 3 + n * 3 ≤ cur.size)
 (kk : ∀ vs, wpList Tryz.prog ops Q rest (a.put o.dst (.tuple #[])) (w.setCells g (k * 3) vs)) : wpList Tryz.prog ops Q (o :: rest) a w := by
 refine wpList_plain hgd fun K hK => ?_;obtain ⟨vs, h⟩ := zj7 (ty := o.type) (c := c) hg hn hk;unfold Oper.wp;simp [execOp, ho, resolve, invoke, builtin, hs, h, Result.andThen];exact hK _ _ (kk vs)
structure CJ (l : List Hld) (B g c : Nat) (w wr : World) (k0 k j : Nat) : Prop where
 len : (z3i (l.take (k0 + j))).length = k
 low : k + 1 ≤ k0 + j
 own : NewH B wr (.slice (some ⟨g, 0, none⟩) l.length c) (z3i (l.take (k0 + j)) ++ l.drop k)
 but : But (fun q => q = g) w wr
theorem CJ.cells {l : List Hld} {B g c : Nat} {w wr : World} {k0 k j : Nat} (h : CJ l B g c w wr k0 k j) (i : Nat) (hi : i < l.length) (hk : k ≤ i) :
 wr.cell? ⟨g, i * 3, none⟩ = some (SV (l.getD i z05).id) ∧ wr.cell? ⟨g, i * 3 + 1, none⟩ = some (.int .i64 (l.getD i z05).kind) ∧ wr.cell? ⟨g, i * 3 + 2, none⟩ = some (SV (l.getD i z05).data) := by
 have hl := h.len;have h1 := HldsR.cells h.own.rd i (by rw [List.length_append, List.length_drop, hl]; have := h.low; omega)
 have e : (z3i (l.take (k0 + j)) ++ l.drop k).getD i z05 = l.getD i z05 := by
  rw [zg, List.getElem?_append_right (by omega), hl, List.getElem?_drop, show k + (i - k) = i by omega, ← zg]
 rw [e, Nat.zero_add] at h1;exact h1
theorem CJ.below {l : List Hld} {B g c : Nat} {w wr w2 : World} {k0 k j : Nat} (h : CJ l B g c w wr k0 k j) (hb : Below wr.heap.size wr w2) : CJ l B g c w w2 k0 k j :=
 ⟨h.len, h.low, OwK.below h.own hb zl, h.but.trans (But.of_new hb)⟩
theorem CJ.skip {l : List Hld} {B g c : Nat} {w wr : World} {k0 k j : Nat} (h : CJ l B g c w wr k0 k j) (h1 : 1 ≤ j) (hj : k0 + j < l.length) (he : (l.getD (k0 + j) z05).id = (l.getD (k0 + j - 1) z05).id) : CJ l B g c w wr k0 k (j + 1) := by
 have e := z7k (l := l) (i := k0 + j) (by omega) hj;rw [if_pos he, List.append_nil] at e;refine ⟨by rw [show k0 + (j + 1) = k0 + j + 1 by omega, e]; exact h.len, by have := h.low; omega, ?_, h.but⟩;rw [show k0 + (j + 1) = k0 + j + 1 by omega, e]; exact h.own
theorem CJ.keep {l : List Hld} {B g c : Nat} {w wr : World} {k0 k j : Nat} (h : CJ l B g c w wr k0 k j) (h1 : 1 ≤ j) (hj : k0 + j < l.length) (he : ¬ (l.getD (k0 + j) z05).id = (l.getD (k0 + j - 1) z05).id) :
 CJ l B g c w (wr.setCells g (k * 3) (z0b (l.getD (k0 + j) z05))) k0 (k + 1) (j + 1) := by
 have e := z7k (l := l) (i := k0 + j) (by omega) hj;rw [if_neg he] at e;have hlow := h.low;obtain ⟨cur, hn, hB, hg, r1, r2, r3, hc⟩ := z0m h.own
 have hlen : (z3i (l.take (k0 + j)) ++ [l.getD (k0 + j) z05] ++ l.drop (k + 1)).length = l.length := by
  rw [List.length_append, List.length_append, h.len, List.length_drop, List.length_singleton]; omega
 refine ⟨by rw [show k0 + (j + 1) = k0 + j + 1 by omega, e, List.length_append, h.len]; rfl, by omega, ?_, h.but.trans (z15 (S := fun q => q = g) rfl _ _ _)⟩;rw [show k0 + (j + 1) = k0 + j + 1 by omega, e];have := z3n (l := z3i (l.take (k0 + j)) ++ [l.getD (k0 + j) z05] ++ l.drop (k + 1)) (cap := c) hB (z3o (z0b (l.getD (k0 + j) z05)) _ (k * 3) cur hg) (by rw [hlen]; rw [← hn] at r1; exact r1) r2 (by rw [size_setMany]; exact r3) (fun t ht i hi => ?_)
 · rw [hlen] at this; exact this
 · rw [hlen] at ht;have hct := hc t (by rw [← hn]; exact ht) i hi;generalize hv : l.getD (k0 + j) z05 = y at *;have hs : setMany cur (k * 3) (z0b y) = ((cur.setIfInBounds (k * 3) (SV y.id)).setIfInBounds (k * 3 + 1) (.int .i64 y.kind)).setIfInBounds (k * 3 + 2) (SV y.data) := rfl;have hsz : k * 3 + 2 < cur.size := by rw [← hn] at r1; omega
   rw [hs];rcases Nat.lt_trichotomy t k with h2 | h2 | h2
   · rw [Array.getElem?_setIfInBounds_ne (by omega), Array.getElem?_setIfInBounds_ne (by omega), Array.getElem?_setIfInBounds_ne (by omega), hct]
     congr 2
     rw [zg, zg, List.getElem?_append_left (by rw [h.len]; exact h2), List.append_assoc, List.getElem?_append_left (by rw [h.len]; exact h2)]
   · subst h2
     have e3 : (z3i (l.take (k0 + j)) ++ [y] ++ l.drop (t + 1)).getD t z05 = y := by
      rw [List.append_assoc, zg, List.getElem?_append_right (by rw [h.len]; exact Nat.le_refl _), h.len, Nat.sub_self]; rfl
     rw [e3]
     match i, hi with
     | 0, _ =>
       rw [Array.getElem?_setIfInBounds_ne (by omega), Array.getElem?_setIfInBounds_ne (by omega)];show (cur.setIfInBounds (t * 3) (SV y.id))[t * 3]? = _;rw [Array.getElem?_setIfInBounds_self_of_lt (by omega)]; rfl
     | 1, _ => rw [Array.getElem?_setIfInBounds_ne (by omega), Array.getElem?_setIfInBounds_self_of_lt (by simp; omega)]; rfl
     | 2, _ => rw [Array.getElem?_setIfInBounds_self_of_lt (by simp; omega)]; rfl
   · rw [Array.getElem?_setIfInBounds_ne (by omega), Array.getElem?_setIfInBounds_ne (by omega), Array.getElem?_setIfInBounds_ne (by omega), hct]
     congr 2
     rw [zg, zg, List.getElem?_append_right (by rw [h.len]; omega), h.len, List.getElem?_append_right (by rw [List.length_append, h.len]; simp; omega), List.length_append, h.len, List.getElem?_drop, List.getElem?_drop]
     congr 2
     simp; omega
theorem CJ.done {l : List Hld} {B g c : Nat} {w wr : World} {k0 k j : Nat} (h : CJ l B g c w wr k0 k j) (hj : k0 + j = l.length) :
 k < l.length ∧ l.length ≤ c ∧ ∃ cur, wr.heap[g]? = some (.cells cur 47 (0, 0)) ∧ k * 3 + (l.length - k) * 3 ≤ cur.size ∧ ∀ vs, NewH B (wr.setCells g (k * 3) vs) (.slice (some ⟨g, 0, none⟩) k c) (z3i l) ∧ But (fun q => q = g) w (wr.setCells g (k * 3) vs) := by
 have hlow := h.low;obtain ⟨cur, hn, hB, hg, r1, r2, r3, hc⟩ := z0m h.own;have hl := h.len;have e : z3i (l.take (k0 + j)) = z3i l := by rw [hj, List.take_length]
 rw [← hn] at r1;refine ⟨by omega, r1, cur, hg, by omega, fun vs => ⟨?_, h.but.trans (z15 (S := fun q => q = g) rfl _ _ _)⟩⟩;rw [e] at hl hc;have := z3n (l := z3i l) (cap := c) hB (z3o vs _ (k * 3) cur hg) (by omega) r2 (by rw [size_setMany]; exact r3) (fun t ht i hi => ?_)
 · rw [hl] at this; exact this
 · rw [zb2 vs cur (k * 3) (t * 3 + i) (by omega), hc t (by rw [List.length_append]; omega) i hi]
   congr 2
   rw [zg, zg, List.getElem?_append_left ht]
def CompPost (B g : Nat) (l : List Hld) (w : World) (e : Ending) (w' : World) : Prop := ∃ u, e = .returned u ∧ NewH B w' u (z3i l) ∧ But (fun q => q = g) w w'
theorem zft {w : World} {B g c : Nat} {l : List Hld} (h : NewH B w (.slice (some ⟨g, 0, none⟩) l.length c) l) (hl : l.length ≤ 1000000) :
 Calls Tryz.prog 115 #[.slice (some ⟨g, 0, none⟩) l.length c, .func (.func 116) #[] #[]] w (CompPost B g l w) := by
 obtain ⟨cur, hn9, hB, hg, hlc, hcm, h98, h99⟩ := z0m h;clear hn9 h98 h99;have H := zh h; have HC := zh hlc;clear h hB hg hcm;by_cases h2 : l.length < 2
 · have h2I : (l.length : Int) < 2 := by omega
   have HD := zh (ze1 h2);clear h2
   go_enter Tryz.func115, Tryz.ntmps115
   go_wp2_with fail
   go_ret
   exact ⟨_, rfl, by rw [HD.out]; exact H.out, But.refl _ _⟩
 have h2I : ¬ (l.length : Int) < 2 := by omega
 have H2 := zh h2;have hd1 : z3i (l.take 1) = l.take 1 := ze1 (by rw [List.length_take]; omega);have HD1 := zh hd1;clear h2 hd1
 go_enter Tryz.func115, Tryz.ntmps115
 go_wp2_with fail
 go_loopw [5] (fun vi wr => Hid (Below w.heap.size w wr) ∧ ∃ k : Nat, k ≤ l.length ∧ vi = .int .i64 k ∧ Hid (1 ≤ k) ∧ Hid (z3i (l.take k) = l.take k)) (fun vi _ => l.length - (intOf vi).toNat)
 case atStart => exact ⟨zh (Below.refl _ _), 1, by have := H2.out; omega, rfl, zh zl, HD1⟩
 case round =>
  obtain ⟨hB, k, hk, rfl, h1, hD⟩ := hrel;by_cases hlt : k < l.length
  · obtain ⟨j, hj⟩ := zx (k - 1);have hjk : k = j + 1 := by have := h1.out; omega
    have hown : NewH B wr _ l := OwK.below H.out hB.out zl;have hy := HldsR.cells hown.rd k hlt;have hx := HldsR.cells hown.rd j (by omega);have hst := z7k (l := l) (i := k) h1.out hlt;rw [← hj] at hst;have hsub : IntKind.i64.wrap ((k : Int) - 1) = (j : Int) := by rw [show ((k : Int) - 1) = (j : Int) by omega]; exact IntWalk.i64_in _ (by omega)
    obtain ⟨y, hye⟩ := zx (l.getD k z05);obtain ⟨x, hxe⟩ := zx (l.getD j z05);rw [← hye] at hy hst;rw [← hxe] at hx hst;have HY := zh hy; have HX := zh hx; have HSub := zh hsub; have HSt := zh hst; have HJ := zh hj; have HJK := zh hjk; have HLt := zh hlt; have HOwn := zh hown;have HYe := zh hye; have HXe := zh hxe;have hat1 := fun W => z1o W g 0 l.length c k hlt;have hat2 := fun W => z1o W g 0 l.length c j (by omega);have HA1 := zh hat1; have HA2 := zh hat2;clear hy hx hsub hst hj hjk hown hye hxe hat1 hat2
    go_upto_region 6 with fail
    by_cases he : y.id = x.id
    · have HE : Hid ((y.id == x.id) = true) := zh (by simpa using he);have HEq := zh he;clear he;refine AnyK.start wr.heap.size wr (by kernel_rfl) ?_;have LD := zh (show Below wr.heap.size wr wr.drew from (Below.refl _ _).drew);generalize wr.drew = wd at LD ⊢;refine AnyK.tm 0 (.func (.func 116) #[] #[]) (LD.out) rfl ?_;refine AnyK.tm 1 (.slice (some ⟨g, 0, none⟩) l.length c) (LD.out) rfl ?_;refine AnyK.tm 2 (.int .i64 (k : Int)) (LD.out) rfl ?_;refine AnyK.tk 3 (.pointer (some ⟨g, 0 + k * 3, none⟩)) (LD.out) rfl (fun W hW => z0s rfl (by kernel_rfl) (by kernel_rfl) (HA1.out W)) ?_;refine AnyK.tk 4 (.agg (z0b y).toArray) (LD.out) rfl (fun W hW => z0f rfl (by kernel_rfl) (z6v W _ _ _ (cell_to HY.out.1 hW) (cell_to HY.out.2.1 hW) (cell_to HY.out.2.2 hW))) ?_;refine AnyK.tm 5 (.slice (some ⟨g, 0, none⟩) l.length c) (LD.out) rfl ?_;refine AnyK.tm 6 (.int .i64 (k : Int)) (LD.out) rfl ?_;refine AnyK.tk 7 (.int .i64 (j : Int)) (LD.out) rfl (fun W hW => y_bin rfl (by kernel_rfl) (by kernel_rfl) rfl (z9l W _ _ _ HSub.out)) ?_;refine AnyK.tk 8 (.pointer (some ⟨g, 0 + j * 3, none⟩)) (LD.out) rfl (fun W hW => z0s rfl (by kernel_rfl) (by kernel_rfl) (HA2.out W)) ?_;refine AnyK.tk 9 (.agg (z0b x).toArray) (LD.out) rfl (fun W hW => z0f rfl (by kernel_rfl) (z6v W _ _ _ (cell_to HX.out.1 hW) (cell_to HX.out.2.1 hW) (cell_to HX.out.2.2 hW))) ?_;refine AnyK.call 10 116 #[.agg (z0b y).toArray, .agg (z0b x).toArray] (by kernel_rfl) rfl (by kernel_rfl) (by kernel_rfl) ((z8i _ _ _ HE.out wd).mono ?_);rintro e w2 ⟨rfl, l9⟩;have L2 := LD.out.trans (l9.mono LD.out.size);refine ⟨_, rfl, L2, ?_⟩;refine AnyK.done _ (by kernel_rfl) ?_;go_simp;have HL2 := zh L2;clear l9 LD L2;have HBx := zh (hB.out.trans (HL2.out.mono hB.out.size))
      have HS0 : Hid (CJ l B g c w w2 k k 1) := zh (by
       have e1 := HSt.out;rw [if_pos HEq.out, List.append_nil, hD.out] at e1;have hl1 : (l.take k).length = k := by rw [List.length_take]; have := HLt.out; omega
       refine ⟨by rw [e1]; exact hl1, Nat.le_refl _, ?_, But.mono (But.of_new HBx.out) (fun q hq (he : False) => he.elim)⟩;rw [e1, List.take_append_drop];exact OwK.below HOwn.out HL2.out zl)
      have HSl := fun W => znp W g 0 l.length c k (by have := HLt.out; omega) (by have := HLt.out; have := HC.out; omega);have HSl := zh HSl;rw [Nat.zero_add] at HSl;obtain ⟨k0, hk0⟩ := zx k;obtain ⟨n2, hn2⟩ := zx (l.length - k0);rw [← hk0] at HSl HS0 HLt;rw [← hn2] at HSl;have HN2 := zh hn2;rw [← hk0];have hn2b : n2 ≤ 1000000 := by omega
      clear hn2 HYe HXe HSt HSub HA1 HA2 HY HX HE HEq HJ HJK hD h1 hk0 HBx
      go_wp2_with (refine z3p rfl _ _ _ _ rfl _ _ _ _ rfl rfl rfl (HSl.out _) ?_)
      go_loopw [5, 7] (fun vk vj wr => ∃ k j : Nat, vk = .int .i64 k ∧ vj = .int .i64 j ∧ j ≤ n2 ∧ k ≤ 1000000 ∧ Hid (1 ≤ j) ∧ Hid (CJ l B g c w wr k0 k j)) (fun _ vj _ => n2 - (intOf vj).toNat)
      case atStart => exact ⟨k0, 1, rfl, rfl, by have := HN2.out; have := HLt.out; omega, by have := HLt.out; omega, zh zl, HS0⟩
      case round =>
       obtain ⟨k, j, rfl, rfl, hjn, hkb, h1j, hJ⟩ := hrel;by_cases hjl : j < n2
       · obtain ⟨i, hi⟩ := zx (j - 1);have hij : j = i + 1 := by have := h1j.out; omega
         have hkl : k0 + j < l.length := by have := HN2.out; omega
         have hlow := hJ.out.low;have hy := hJ.out.cells (k0 + j) hkl (by omega);have hx := hJ.out.cells (k0 + i) (by omega) (by omega);have hz := hJ.out.cells k (by omega) zl;have hsk := hJ.out.skip h1j.out hkl;have hkp := fun w3 (hb : Below wr.heap.size wr w3) => (hJ.out.below hb).keep h1j.out hkl;rw [show k0 + j - 1 = k0 + i by omega] at hsk hkp;have hsub : IntKind.i64.wrap ((j : Int) - 1) = (i : Int) := by rw [show ((j : Int) - 1) = (i : Int) by omega]; exact IntWalk.i64_in _ (by omega)
         have hat1 := fun W => z1o W g (k0 * 3) n2 (c - k0) j hjl;have hat2 := fun W => z1o W g (k0 * 3) n2 (c - k0) i (by omega);obtain ⟨cur2, hn9, hB9, hg2, hr9⟩ := z0m hJ.out.own;clear hn9 hB9 hr9;obtain ⟨y, hye⟩ := zx (l.getD (k0 + j) z05);obtain ⟨x, hxe⟩ := zx (l.getD (k0 + i) z05);obtain ⟨z, hze⟩ := zx (l.getD k z05);rw [← hye] at hy hsk hkp;rw [← hxe] at hx hsk hkp;rw [← hze] at hz;rw [Nat.add_mul] at hy hx;have HY := zh hy; have HX := zh hx; have HZ := zh hz; have HSk := zh hsk; have HKp := zh hkp; have HSub := zh hsub; have HA1 := zh hat1; have HA2 := zh hat2;have HI := zh hi; have HIJ := zh hij; have HG2 := zh hg2; have HKl := zh hkl;clear hy hx hz hsk hkp hsub hat1 hat2 hi hij hg2 hlow hye hxe hze
         go_upto_region 11 with fail
         by_cases he : y.id = x.id
         · have HE : Hid ((y.id == x.id) = true) := zh (by simpa using he);have HS2 := zh (HSk.out he);clear he;refine AnyK.start wr.heap.size wr (by kernel_rfl) ?_;have LD := zh (show Below wr.heap.size wr wr.drew from (Below.refl _ _).drew);generalize wr.drew = wd at LD ⊢;refine AnyK.tm 0 (.func (.func 116) #[] #[]) (LD.out) rfl ?_;refine AnyK.tm 1 (.slice (some ⟨g, k0 * 3, none⟩) n2 (c - k0)) (LD.out) rfl ?_;refine AnyK.tm 2 (.int .i64 (j : Int)) (LD.out) rfl ?_;refine AnyK.tk 3 (.pointer (some ⟨g, k0 * 3 + j * 3, none⟩)) (LD.out) rfl (fun W hW => z0s rfl (by kernel_rfl) (by kernel_rfl) (HA1.out W)) ?_;refine AnyK.tk 4 (.agg (z0b y).toArray) (LD.out) rfl (fun W hW => z0f rfl (by kernel_rfl) (z6v W _ _ _ (cell_to HY.out.1 hW) (cell_to HY.out.2.1 hW) (cell_to HY.out.2.2 hW))) ?_;refine AnyK.tm 5 (.slice (some ⟨g, k0 * 3, none⟩) n2 (c - k0)) (LD.out) rfl ?_;refine AnyK.tm 6 (.int .i64 (j : Int)) (LD.out) rfl ?_;refine AnyK.tk 7 (.int .i64 (i : Int)) (LD.out) rfl (fun W hW => y_bin rfl (by kernel_rfl) (by kernel_rfl) rfl (z9l W _ _ _ HSub.out)) ?_;refine AnyK.tk 8 (.pointer (some ⟨g, k0 * 3 + i * 3, none⟩)) (LD.out) rfl (fun W hW => z0s rfl (by kernel_rfl) (by kernel_rfl) (HA2.out W)) ?_;refine AnyK.tk 9 (.agg (z0b x).toArray) (LD.out) rfl (fun W hW => z0f rfl (by kernel_rfl) (z6v W _ _ _ (cell_to HX.out.1 hW) (cell_to HX.out.2.1 hW) (cell_to HX.out.2.2 hW))) ?_;refine AnyK.call 10 116 #[.agg (z0b y).toArray, .agg (z0b x).toArray] (by kernel_rfl) rfl (by kernel_rfl) (by kernel_rfl) ((z8i _ _ _ HE.out wd).mono ?_);rintro e w2 ⟨rfl, l9⟩;have L2 := LD.out.trans (l9.mono LD.out.size);refine ⟨_, rfl, L2, ?_⟩;refine AnyK.tm 11 (.bool false) (L2) rfl ?_;refine AnyK.done _ (by kernel_rfl) ?_;go_simp;have HL2 := zh L2;clear l9 LD L2;have HS3 := zh (HS2.out.below HL2.out)
           go_wp2_with fail
           go_roundw
           case rel => exact ⟨k, j + 1, rfl, by go_num, hjl, hkb, zh (Nat.le_add_left _ _), HS3⟩
           case measure => simp [intOf]; omega
         · have HE : Hid ((y.id == x.id) = false) := zh (by simpa using he);have HNe := zh he;clear he;refine AnyK.start wr.heap.size wr (by kernel_rfl) ?_;have LD := zh (show Below wr.heap.size wr wr.drew from (Below.refl _ _).drew);generalize wr.drew = wd at LD ⊢;refine AnyK.tm 0 (.func (.func 116) #[] #[]) (LD.out) rfl ?_;refine AnyK.tm 1 (.slice (some ⟨g, k0 * 3, none⟩) n2 (c - k0)) (LD.out) rfl ?_;refine AnyK.tm 2 (.int .i64 (j : Int)) (LD.out) rfl ?_;refine AnyK.tk 3 (.pointer (some ⟨g, k0 * 3 + j * 3, none⟩)) (LD.out) rfl (fun W hW => z0s rfl (by kernel_rfl) (by kernel_rfl) (HA1.out W)) ?_;refine AnyK.tk 4 (.agg (z0b y).toArray) (LD.out) rfl (fun W hW => z0f rfl (by kernel_rfl) (z6v W _ _ _ (cell_to HY.out.1 hW) (cell_to HY.out.2.1 hW) (cell_to HY.out.2.2 hW))) ?_;refine AnyK.tm 5 (.slice (some ⟨g, k0 * 3, none⟩) n2 (c - k0)) (LD.out) rfl ?_;refine AnyK.tm 6 (.int .i64 (j : Int)) (LD.out) rfl ?_;refine AnyK.tk 7 (.int .i64 (i : Int)) (LD.out) rfl (fun W hW => y_bin rfl (by kernel_rfl) (by kernel_rfl) rfl (z9l W _ _ _ HSub.out)) ?_;refine AnyK.tk 8 (.pointer (some ⟨g, k0 * 3 + i * 3, none⟩)) (LD.out) rfl (fun W hW => z0s rfl (by kernel_rfl) (by kernel_rfl) (HA2.out W)) ?_;refine AnyK.tk 9 (.agg (z0b x).toArray) (LD.out) rfl (fun W hW => z0f rfl (by kernel_rfl) (z6v W _ _ _ (cell_to HX.out.1 hW) (cell_to HX.out.2.1 hW) (cell_to HX.out.2.2 hW))) ?_;refine AnyK.call 10 116 #[.agg (z0b y).toArray, .agg (z0b x).toArray] (by kernel_rfl) rfl (by kernel_rfl) (by kernel_rfl) ((z8i _ _ _ HE.out wd).mono ?_);rintro e w2 ⟨rfl, l9⟩;have L2 := LD.out.trans (l9.mono LD.out.size);refine ⟨_, rfl, L2, ?_⟩;refine AnyK.tm 11 (.bool true) (L2) rfl ?_;refine AnyK.done _ (by kernel_rfl) ?_;go_simp;have HL2 := zh L2;clear l9 LD L2;have HS3 := zh (HKp.out w2 HL2.out HNe.out);have hat3 := fun W => z1o W g 0 l.length c k (by have := hJ.out.low; have := HKl.out; omega);have hb2 := HL2.out;obtain ⟨yi, yk, yd⟩ := y;have p0 := cell_to HY.out.1 HL2.out;have p1 := cell_to HY.out.2.1 HL2.out;have p2 := cell_to HY.out.2.2 HL2.out;have q0 := cell_to HZ.out.1 HL2.out;have q1 := cell_to HZ.out.2.1 HL2.out;have q2 := cell_to HZ.out.2.2 HL2.out;have hg3 := (HL2.out.block _ (lt_heap HG2.out)).trans HG2.out;have f0 := frozen_of (i := k * 3) hg3;have f1 := frozen_of (i := k * 3 + 1) hg3;have f2 := frozen_of (i := k * 3 + 2) hg3;unfold SV at p0 p2;simp only at p0 p1 p2;have hkb2 : k < 1000000 := by have := hJ.out.low; have := HKl.out; omega
           have hkl2 : k < l.length := by have := hJ.out.low; have := HKl.out; omega
           clear hat3 hb2 hg3
           go_wp2_with fail
           go_roundw
           case rel => exact ⟨k + 1, j + 1, by go_num, by go_num, hjl, hkb2, zh (Nat.le_add_left _ _), HS3⟩
           case measure => simp [intOf]; omega
       · obtain rfl : j = n2 := by omega
         have hkl : k0 + j = l.length := by have := HN2.out; have := HLt.out; omega
         obtain ⟨d1, d2, cur2, d3, d4, d5⟩ := hJ.out.done hkl;have HSl2 := zh (fun W => znp W g 0 l.length c k (by omega) (by omega));have HSh := zh (fun W => znq W g 0 l.length c k (by omega));rw [Nat.zero_add] at HSl2;have D3 := zh d3; have D4 := zh d4; have D5 := zh d5; have D1 := zh d1;clear d1 d2 d3 d4 d5 hkl
         go_wp2_with (first | (refine z3p rfl _ _ _ _ rfl _ _ _ _ rfl rfl rfl (HSl2.out _) ?_) | (refine z3p rfl _ _ _ _ rfl _ _ _ _ rfl rfl rfl (HSh.out _) ?_) | (refine zc2 rfl _ rfl g k (l.length - k) (c - k) cur2 rfl D3.out (Nat.sub_pos_of_lt D1.out) D4.out ?_; intro vs))
         go_ret
         exact ⟨_, rfl, (D5.out _).1, (D5.out _).2⟩
    · have HE : Hid ((y.id == x.id) = false) := zh (by simpa using he)
      have HD2 : Hid (z3i (l.take (k + 1)) = l.take (k + 1)) := zh (by
       have e1 := HSt.out;rw [if_neg he, hD.out, HYe.out] at e1;rw [e1, z0l l z05 k HLt.out])
      clear he;refine AnyK.start wr.heap.size wr (by kernel_rfl) ?_;have LD := zh (show Below wr.heap.size wr wr.drew from (Below.refl _ _).drew);generalize wr.drew = wd at LD ⊢;refine AnyK.tm 0 (.func (.func 116) #[] #[]) (LD.out) rfl ?_;refine AnyK.tm 1 (.slice (some ⟨g, 0, none⟩) l.length c) (LD.out) rfl ?_;refine AnyK.tm 2 (.int .i64 (k : Int)) (LD.out) rfl ?_;refine AnyK.tk 3 (.pointer (some ⟨g, 0 + k * 3, none⟩)) (LD.out) rfl (fun W hW => z0s rfl (by kernel_rfl) (by kernel_rfl) (HA1.out W)) ?_;refine AnyK.tk 4 (.agg (z0b y).toArray) (LD.out) rfl (fun W hW => z0f rfl (by kernel_rfl) (z6v W _ _ _ (cell_to HY.out.1 hW) (cell_to HY.out.2.1 hW) (cell_to HY.out.2.2 hW))) ?_;refine AnyK.tm 5 (.slice (some ⟨g, 0, none⟩) l.length c) (LD.out) rfl ?_;refine AnyK.tm 6 (.int .i64 (k : Int)) (LD.out) rfl ?_;refine AnyK.tk 7 (.int .i64 (j : Int)) (LD.out) rfl (fun W hW => y_bin rfl (by kernel_rfl) (by kernel_rfl) rfl (z9l W _ _ _ HSub.out)) ?_;refine AnyK.tk 8 (.pointer (some ⟨g, 0 + j * 3, none⟩)) (LD.out) rfl (fun W hW => z0s rfl (by kernel_rfl) (by kernel_rfl) (HA2.out W)) ?_;refine AnyK.tk 9 (.agg (z0b x).toArray) (LD.out) rfl (fun W hW => z0f rfl (by kernel_rfl) (z6v W _ _ _ (cell_to HX.out.1 hW) (cell_to HX.out.2.1 hW) (cell_to HX.out.2.2 hW))) ?_;refine AnyK.call 10 116 #[.agg (z0b y).toArray, .agg (z0b x).toArray] (by kernel_rfl) rfl (by kernel_rfl) (by kernel_rfl) ((z8i _ _ _ HE.out wd).mono ?_);rintro e w2 ⟨rfl, l9⟩;have L2 := LD.out.trans (l9.mono LD.out.size);refine ⟨_, rfl, L2, ?_⟩;refine AnyK.done _ (by kernel_rfl) ?_;go_simp;have HL2 := zh L2;clear l9 LD L2;have HBx := zh (hB.out.trans (HL2.out.mono hB.out.size))
      go_wp2_with fail
      go_roundw
      case rel => exact ⟨HBx, k + 1, hlt, by go_num, zh (Nat.le_add_left _ _), HD2⟩
      case measure => simp [intOf]; omega
  · obtain rfl : k = l.length := by omega
    have hd := hD.out;rw [List.take_length] at hd;have HD := zh hd;clear hd
    go_wp2_with fail
    go_ret
    exact ⟨_, rfl, by rw [HD.out]; exact OwK.below H.out hB.out zl, But.of_new hB.out⟩
end Go.Proofs.YtgjddkeogboojaaGreatDoor
namespace Go.Proofs.YtgjddkeogboojaaGreatDoor
open Go Go.RowKit Go.Maps
section
variable {α : Type} {st t : TypeId} {k bt : Nat} {f : α → List Value}
theorem RdK.dropH {w : World} {g o n c : Nat} {l : List α} (h : RdK k f w (.slice (some ⟨g, o, none⟩) n c) l) (hn : n = l.length) (hn0 : 0 < n) (m : Nat) (hm : m ≤ n) :
 ∀ j u, ((l.drop m).flatMap f)[j]? = some u → (∀ x, (f x).length = k) → 0 < k → w.cell? ⟨g, o + m * k + j, none⟩ = some u := by
 intro j u hj hf hk;rcases h with ⟨_, rfl⟩ | ⟨g', o', c', e, hc, hg, hcell⟩
 · simp at hn; omega
 cases e
 have hlt : j < (l.drop m).length * k := by
  rw [← z49 hf];exact (List.getElem?_eq_some_iff.1 hj).1
 have hq : j / k < (l.drop m).length := Nat.div_lt_of_lt_mul (by rw [Nat.mul_comm]; exact hlt);have hr : j % k < k := Nat.mod_lt _ hk;have hj2 : j / k * k + j % k = j := by rw [Nat.mul_comm]; exact Nat.div_add_mod j k
 have hx : (l.drop m)[j / k]? = some (l.drop m)[j / k] := zj hq;have h1 := z6f hf (l.drop m) (j / k) _ hx (j % k) hr;rw [hj2, hj] at h1;have hq2 : m + j / k < l.length := by rw [List.length_drop] at hq; omega
 have hx2 : l[m + j / k]? = some (l.drop m)[j / k] := by rw [List.getElem_drop]; exact zj hq2
 have h2 := hcell (m + j / k) hq2 _ hx2 (j % k) hr;have e : o + (m + j / k) * k + j % k = o + m * k + j := by rw [Nat.add_mul]; omega
 rw [e] at h2;rw [h2, ← h1]
theorem zhi (E : ElK st t k bt f) {w : World} {base : Nat} {v : Value} {l m : List α} (h : OwK t k f w base v l) (a : Addr) (n c : Nat) (hn : n = m.length) (hs : ∀ j u, (m.flatMap f)[j]? = some u → w.cell? (a.add j) = some u) (hl : l.length + m.length ≤ 1000000) (hbt : bt ≤ 1000) (hb : base ≤ w.heap.size) (ty : TypeId) :
 ∃ v' w', (Builtin.append_ #[st, st] ty #[v, .slice (some a) n c]).run Tryz.prog w = .ok v' w' ∧ OwK t k f w' base v' (l ++ m) ∧ Below base w w' ∧ w.grownBy w' v.ownBlock := by
 subst hn;obtain ⟨z, hz, hzs⟩ := E.info;obtain ⟨i0, hi, hz0, hz1, hz2⟩ := info_parts hz
 obtain ⟨v', w', h1, h2, h3, _⟩ := run_append_own (P := Tryz.prog) w base st ty t i0 z k bt E.ut hi hz0 hz1 hz2 hzs E.pos v l.length (l.flatMap f) h a m.length c (m.flatMap f) (z49 E.len m) hs
  (fun u hu => by obtain ⟨x, _, hx⟩ := List.mem_flatMap.1 hu; exact E.one x u hx) (by unfold maxLen; omega) (by
    have : (l.length + m.length) * bt ≤ 1000000 * 1000 := Nat.mul_le_mul hl hbt;omega) hb
 refine ⟨v', w', h1, ?_, ⟨h3.os, h3.tape, h3.output, h3.size, fun j hj => h3.block j (by omega) ?_⟩, h3⟩
 · unfold OwK; rw [List.length_append, List.flatMap_append]; exact h2
 · intro e;have := (h.lt j e.symm).1;omega
theorem z9m {P : Program} {w : World} (base : Nat) (t ty e : TypeId) (i : TypeInfo) (size : Nat) (ht : P.underlying t = some (.slice e)) (hi : P.info? e = some i)
 (v : Value) (n c : Nat) (xs : List Value) (hown : w.ownsRow base e size v n xs) :
 (Builtin.append_ #[t, t] ty #[v, .slice none 0 c]).run P w = .ok v w := by
 rcases hown.2 with ⟨rfl, rfl⟩ | ⟨g, cap, cur, rfl, _, _, hnc, _⟩
 · simp [Builtin.append_, run_underlying ht, sizeOf, typeInfo, hi, Builtin.lenOf, Builtin.firstCells]
 · simp [Builtin.append_, run_underlying ht, sizeOf, typeInfo, hi, Builtin.lenOf, Builtin.firstCells, hnc, storeCells]
theorem run_all (E : ElK st t k bt f) {w : World} {base : Nat} {v sv : Value} {l m : List α} (h : OwK t k f w base v l) (hm : RdK k f w sv m) (hl : l.length + m.length ≤ 1000000) (hbt : bt ≤ 1000) (hb : base ≤ w.heap.size) (ty : TypeId) :
 ∃ v' w', (Builtin.append_ #[st, st] ty #[v, sv]).run Tryz.prog w = .ok v' w' ∧ OwK t k f w' base v' (l ++ m) ∧ Below base w w' ∧ w.grownBy w' v.ownBlock := by
 have hm0 := hm;rcases hm with ⟨⟨A, c, rfl⟩, rfl⟩ | ⟨g, o, c, rfl, hc, hg, hcell⟩
 · cases A with
   | some a => exact zhi E h a 0 c rfl (fun j u hj => by simp at hj) hl hbt hb ty
   | none =>
     obtain ⟨z, hz, hzs⟩ := E.info;obtain ⟨i0, hi, _⟩ := info_parts hz;exact ⟨v, w, z9m base st ty t i0 k E.ut hi v l.length c _ h, by rw [List.append_nil]; exact h, Below.refl _ _, ⟨rfl, rfl, rfl, Nat.le_refl _, fun _ _ _ => rfl⟩⟩
 · refine zhi E h ⟨g, o, none⟩ m.length c rfl (fun j u hj => ?_) hl hbt hb ty;rcases Nat.eq_zero_or_pos m.length with h0 | h0
   · rw [List.eq_nil_of_length_eq_zero h0] at hj; simp at hj
   · have := RdK.dropH hm0 rfl h0 0 (Nat.zero_le _) j u (by rw [List.drop_zero]; exact hj) E.len E.pos;rw [zcz];simpa using this
theorem zb3 (E : ElK st t k bt f) {ops : Array Oper} {rest : List Oper} {o : Oper} {a : Act} {w : World} {Q : Exit → Act → World → Prop} (hgd : o.guard = none) (s y : Operand)
 (ho : o.op = .call { callee := .builtin .append, args := #[s, y], argTypes := #[st, st] }) (base : Nat) (v sv : Value) (l m : List α) (hs : a.eval s = v) (hy : a.eval y = sv)
 (h : OwK t k f w base v l) (hm : RdK k f w sv m) (hl : l.length + m.length ≤ 1000000) (hbt : bt ≤ 1000) (hb : base ≤ w.heap.size)
 (kk : ∀ v' w', OwK t k f w' base v' (l ++ m) → Below base w w' → wpList Tryz.prog ops Q rest (a.put o.dst v') w') : wpList Tryz.prog ops Q (o :: rest) a w := by
 refine wpList_plain hgd fun K hK => ?_;obtain ⟨v', w', h1, h2, h3, _⟩ := run_all E h hm hl hbt hb o.type;unfold Oper.wp;simp [execOp, ho, resolve, invoke, builtin, hs, hy, h1, Result.andThen];exact hK _ _ (kk v' w' h2 h3)
end
end Go.Proofs.YtgjddkeogboojaaGreatDoor
namespace Go.Proofs.YtgjddkeogboojaaGreatDoor
open Go Go.RowKit Go.Maps Go.Sort
abbrev cmpV : Value := .func (.func 113) #[] #[]
def z5b (B : Nat) (l : List Hld) (v : Value) (w : World) : Prop := Calls Tryz.prog 123 #[v, .int .i64 (l.length : Int), cmpV] w (zc1 B l v w)
theorem zb4 {w : World} {B g c : Nat} {l : List Hld} (h : NewH B w (.slice (some ⟨g, 0, none⟩) l.length c) l) (hl : l.length < 20) : z5b B l (.slice (some ⟨g, 0, none⟩) l.length c) w := by
 obtain ⟨cur, _, hB, hg, h1, h2, h3, hc⟩ := z0m h;have hi := znm (c := c) hg hc 0 l.length (Nat.zero_le _) zl (by omega);have HI := zh hi; have H := zh h;have hlI : ¬ (20 : Int) ≤ (l.length : Int) := by omega
 have hlI2 : ¬ (20 : Int) < (l.length : Int) := by omega
 unfold z5b;clear h hB hg h1 h2 h3 hc hi
 go_enter Tryz.func123, Tryz.ntmps123
 go_wp2_with fail
 refine wp_loop_rounds 1 ?_;rw [rounds_succ]
 go_wp2_with fail
 refine HI.out.mono ?_;rintro e w2 ⟨rfl, n, os, rfl⟩
 go_wp2_with fail
 refine wp_loop_rounds 1 ?_;rw [rounds_succ]
 go_wp2_with fail
 go_end0
 refine ⟨rfl, _, z3t l, ?_, z9j _⟩;have hs := z3t l;exact z9k H.out _ (by have := hs.perm.length_eq; simpa using this) os
theorem zfu {w : World} {B : Nat} {v : Value} {l : List Hld} (h : NewH B w v l) (hl : l.length ≤ 1000000) :
 Calls Tryz.prog 115 #[v, .func (.func 116) #[] #[]] w fun e w' => ∃ u, e = .returned u ∧ NewH B w' u (z3i l) ∧ But (fun k => v.ownBlock = some k) w w' := by
 have h0 := h;rcases h.2 with ⟨rfl, hz⟩ | ⟨g, cap, cur, rfl, _⟩
 · obtain rfl : l = [] := List.eq_nil_of_length_eq_zero hz;have H := zh h0;clear h h0 hz
   go_enter Tryz.func115, Tryz.ntmps115
   go_wp2_with fail
   go_ret
   exact ⟨_, rfl, H.out, But.refl _ _⟩
 · refine (zft h0 hl).mono ?_;rintro e w' ⟨u, rfl, h1, h2⟩;exact ⟨u, rfl, h1, h2.mono fun k _ e => by rw [e]; rfl⟩
def RisePost (B : Nat) (l : List Hld) (v : Value) (w : World) (e : Ending) (w' : World) : Prop := ∃ u r, e = .returned u ∧ IsSet l r ∧ r.length ≤ l.length ∧ NewH B w' u r ∧ But (fun k => v.ownBlock = some k) w w'
theorem IsSet.len {src r : List Hld} (h : IsSet src r) : r.length ≤ src.length :=
 zce (List.Pairwise.imp (fun {a b} (hab : a.id < b.id) (e : a = b) => z4v b.id (by rw [e] at hab; exact hab)) h.rise) fun x hx => z2r ((h.mem x).1 hx)
theorem zj8 {w : World} {B : Nat} {v : Value} {l : List Hld} (h : NewH B w v l) (hl : l.length ≤ 1000000) (hs : z5b B l v w) : Calls Tryz.prog 101 #[v] w (RisePost B l v w) := by
 have hsf : Calls Tryz.prog 112 #[v, cmpV] w (zc1 B l v w) := by
  obtain ⟨A, c, rfl⟩ := z6s h;have HS := zh hs;clear hs h
  go_enter Tryz.func112, Tryz.ntmps112
  go_wp2_with fail
  refine HS.out.mono ?_;rintro e w2 ⟨rfl, hr⟩;have HR := zh hr;clear hr
  go_wp2_with fail
  go_end0
  exact ⟨rfl, HR.out⟩
 have HS := zh hsf;obtain ⟨A, c, rfl⟩ := z6s h;clear hs h hsf
 go_enter Tryz.func101, Tryz.ntmps101
 go_wp2_with fail
 refine HS.out.mono ?_;rintro e w2 ⟨rfl, m, hm, hN, hb⟩;have hC := zfu hN (by rw [hm.perm.length_eq]; exact hl);have HC := zh hC; have HM := zh hm; have HB := zh hb;clear hC hm hN hb
 go_wp2_with fail
 refine HC.out.mono ?_;rintro e w3 ⟨u, rfl, hN, hb⟩;have HN := zh hN; have HB2 := zh hb;clear hN hb
 go_wp2_with fail
 go_ret
 exact ⟨_, _, rfl, HM.out.isSet, HM.out.isSet.len, HN.out, HB.out.trans HB2.out⟩
def obC (x : Int × Bs) : List Value := [.int .i64 x.1, SV x.2]
def SetPost (l : List Hld) (w : World) (e : Ending) (w' : World) : Prop := ∃ u r, e = .returned u ∧ IsSet l r ∧ r.length ≤ l.length ∧ NewH w.heap.size w' u r ∧ Below w.heap.size w w'
end Go.Proofs.YtgjddkeogboojaaGreatDoor
