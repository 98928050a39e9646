/-
  Pick, and the document's. Plain: a list by rising names, the first of each kept: what is sorted and stable, and what is struck out of that. What is sorted by its names: the comparisons; a few elements sorted. GreatItems, GreatChange: is it too much? Pieces of a slice of items, made and read. Pieces of lists, joined: appends of what a slice holds; steps of a region that draws its order. Steps of 
-/
import Derived.Test.YtgjddkeogboojaaGreatDoorY20
import Derived.Test.YtgjddkeogboojaaGreatDoorY07
import Derived.Sort.LotA
import Derived.Test.YtgjddkeogboojaaGreatDoorY16
import Derived.Deep.QuietTactic
import Derived.BigQuiet
import Derived.IntWalk
import Derived.Test.YtgjddkeogboojaaGreatDoorY12
import Derived.Test.YtgjddkeogboojaaGreatDoorY19
import Derived.Test.YtgjddkeogboojaaGreatDoorY08
import Derived.Test.YtgjddkeogboojaaGreatDoorY18
import Derived.Test.YtgjddkeogboojaaGreatDoorY09
set_option maxHeartbeats 16000000
set_option maxRecDepth 100000
namespace Go.Proofs.YtgjddkeogboojaaGreatDoor
open Go Go.RowKit Go.Maps
theorem heldK : ElK 38 47 3 40 z0b := ⟨Tryz.underlying38, ⟨.agg #[.string ⟨#[]⟩, .int .i64 0, .string ⟨#[]⟩], by kernel_rfl, by kernel_rfl⟩, by decide, z2t, fun x u hu => by
 simp only [z0b, List.mem_cons, List.not_mem_nil, or_false] at hu; rcases hu with rfl | rfl | rfl <;> rfl⟩
def NewH (B : Nat) (w : World) (v : Value) (l : List Hld) : Prop := OwK 47 3 z0b w B v l
theorem NewH.rd {B : Nat} {w : World} {v : Value} {l : List Hld} (h : NewH B w v l) : HldsR w v l := OwK.rd z2t h
def PickPost (l : List Hld) (w : World) (e : Ending) (w' : World) : Prop := ∃ v, e = .returned v ∧ NewH w.heap.size w' v l ∧ Below w.heap.size w w'
theorem zj5 {l : List Hld} {ids : List Bs} {k : Nat} (h : k < l.length) : z5t (l.take (k + 1)) ids = if (l.getD k z05).id ∈ ids then z5t (l.take k) ids ++ [l.getD k z05] else z5t (l.take k) ids := by
 unfold z5t;rw [z0l l z05 k h, List.filter_append];by_cases e : (l.getD k z05).id ∈ ids
 · rw [if_pos e, List.filter_cons_of_pos (by simpa using e)]; rfl
 · rw [if_neg e, List.filter_cons_of_neg (by simpa using e)]; simp
theorem z9h (l : List Hld) (ids : List Bs) : (z5t l ids).length ≤ l.length := List.length_filter_le _ _
theorem zhg {w : World} {v vi : Value} {l : List Hld} {ids : List Bs} (h : HldsR w v l) (hi : StrsR w vi ids) (hl : l.length ≤ 100000) (hil : ids.length ≤ 1000000) (hs : ∀ x ∈ l, x.id.length ≤ 1000000) (his : ∀ x ∈ ids, x.length ≤ 1000000) :
 Calls Tryz.prog 86 #[v, vi] w (PickPost (z5t l ids) w) := by
 obtain ⟨A, c, rfl⟩ := h.shape;obtain ⟨Ai, ci, rfl⟩ := hi.shape;have Hx := zh h; have Hs := zh hs; have Hi := zh hi; have His := zh his; clear h hs hi his
 go_enter Tryz.func86, Tryz.ntmps86
 have hmm := @run_makeMap Tryz.prog
 go_wp2_with fail
 clear hmm
 go_loopw [14] (fun i wr => Hid (Below w.heap.size w wr) ∧ ∃ (k : Nat) (c : Bs → Nat), k ≤ ids.length ∧ i = .int .i64 k ∧ Hid (MapS wr w.heap.size k (z9g c)) ∧ Hid (∀ x, c x = 0 ↔ x ∉ ids.take k) ∧ Hid (∀ x, c x ≤ k)) (fun i _ => ids.length - (intOf i).toNat)
 case atStart => exact ⟨zh ((Below.refl _ _).alloc zl _), 0, fun _ => 0, Nat.zero_le _, rfl, zh (MapS.made w), zh (fun x => by simp), zh (fun x => Nat.le_refl _)⟩
 case round =>
  obtain ⟨hB, k, c, hk, rfl, hM, hC, hL⟩ := hrel;by_cases hlt : k < ids.length
  · obtain ⟨g, o, c', e, _, hg⟩ := Hi.out.pos (by omega);cases e;have p0 := StrsR.cell (Hi.out.below hB.out zl) k hlt;have hlen := His.out _ (z1w ids [] k hlt);have htk := z0l ids [] k hlt;obtain ⟨x, hx⟩ := zx (ids.getD k ([] : Bs));rw [← hx] at p0 hlen htk;unfold SV at p0;have hlook := hM.out.look Tryz.underlying121 (znh wr) (x := x) (by unfold maxLen; omega);rw [zb0] at hlook;have hle := hL.out x;obtain ⟨q, hq⟩ := zx (c x);rw [← hq] at hlook hle
    have hC2 : ∀ y, incC c x y = 0 ↔ y ∉ ids.take (k + 1) := fun y => by
     rw [htk];unfold incC;by_cases e : y = x
     · rw [if_pos e, e]; simp
     · rw [if_neg e, hC.out y]; simp [e]
    have hL2 : ∀ y, incC c x y ≤ k + 1 := fun y => by
     unfold incC;by_cases e : y = x
     · rw [if_pos e, ← hq]; omega
     · rw [if_neg e]; have := hL.out y; omega
    have HQ := zh hq; have HC2 := zh hC2; have HL2 := zh hL2; have HLen := zh hlen;clear hq hC2 hL2 htk hx hC hL
    go_wp2_with (at_mapUpdate; refine z6a rfl _ _ _ 121 3 rfl Tryz.underlying121 w.heap.size k _ x (.int .i64 ((q : Int) + 1)) rfl rfl rfl hM.out (by unfold maxLen; omega) (by unfold maxLen; omega) ?_)
    intro w1 hM1 hg1;rw [HQ.out, zj4] at hM1;have HM1 := zh hM1;have HB1 := zh (hB.out.grown hg1 hB.out.size (fun j e => by cases e; exact Nat.le_refl _));clear hM1 hg1 p0 hlook
    go_wp2_with fail
    go_roundw
    case rel => exact ⟨HB1, k + 1, _, hlt, by go_num, HM1, HC2, HL2⟩
    case measure => simp [intOf]; omega
  · obtain rfl : k = ids.length := by omega
    rw [List.take_length] at hC
    go_upto_region 9 with fail
    clear hlt hk hL;obtain ⟨n, hn⟩ := zx ids.length;rw [← hn] at hM;clear hn;obtain ⟨w0, hw0⟩ := zx wr;rw [← hw0] at hM hB ⊢;clear hw0;have HN0 : Hid (NewH (w.heap.size + 1) w0 (.slice none 0 0) (z5t (l.take 0) ids)) := zh (OwK.nil _ _ _ _ _)
    go_loopw [25, 8] (fun i z wr => Hid (Below w.heap.size w wr) ∧ Hid (MapS wr w.heap.size n (z9g c)) ∧ ∃ k : Nat, k ≤ l.length ∧ i = .int .i64 k ∧ Hid (NewH (w.heap.size + 1) wr z (z5t (l.take k) ids))) (fun i _ _ => l.length - (intOf i).toNat)
    case atStart => exact ⟨hB, hM, 0, Nat.zero_le _, rfl, HN0⟩
    case round =>
     obtain ⟨hB, hM, k, hk, rfl, hN⟩ := hrel;by_cases hlt : k < l.length
     · obtain ⟨g, o, c', e, _, hg⟩ := Hx.out.pos (by omega);cases e;obtain ⟨p0, p1, p2⟩ := HldsR.cells (Hx.out.below hB.out zl) k hlt;have hlen := Hs.out _ (z1w l z05 k hlt);have hsn := zj5 (ids := ids) hlt;have hpl := z9h (l.take k) ids;have hpl2 := List.length_take_le k l;obtain ⟨x, hx⟩ := zx (l.getD k z05);rw [← hx] at p0 p1 p2 hlen hsn;obtain ⟨xi, xk, xd⟩ := x;unfold SV at p0 p2;simp only at p0 p1 p2 hlen hsn;have hBM : w.heap.size < wr.heap.size := hM.out.lt;have hPL : (z5t (l.take k) ids).length + 1 ≤ 1000000 := by omega
       obtain ⟨w1, hw1⟩ := zx (wr.alloc (.cells #[.string ⟨xi.toArray⟩, .int .i64 xk, .string ⟨xd.toArray⟩] 47));have hb1 : Below wr.heap.size wr w1 := by rw [hw1]; exact below_new wr _
       have hk1 : w1.heap[wr.heap.size]? = some (.cells #[.string ⟨xi.toArray⟩, .int .i64 xk, .string ⟨xd.toArray⟩] 47 (0, 0)) := by rw [hw1]; exact heap_alloc_new wr _
       have hM1 := hM.out.below hb1 hM.out.lt;have hlook := hM1.look Tryz.underlying121 (znh w1) (x := xi) (by unfold maxLen; omega);rw [zb0] at hlook;have hN1 : NewH (w.heap.size + 1) w1 _ _ := OwK.below hN.out hb1 zl;have hCx := hC.out xi;obtain ⟨q, hq⟩ := zx (c xi);rw [← hq] at hlook hCx;have hz1 : wr.heap.size < w1.heap.size := by rw [hw1]; simp
       have HW1 := zh hw1; have HM1 := zh hM1; have HB1 := zh (hB.out.trans (hb1.mono hB.out.size)); have HK1 := zh hk1; have HN1 := zh hN1;have HL := zh hlook; have HSn := zh hsn; have HBM := zh hBM; have HPL := zh hPL; have HZ := zh hz1;clear hw1 hb1 hk1 hM1 hlook hlen hB hM hBM hsn hx hpl hpl2 hPL hz1 hq hN hN1
       go_upto_region 11 with fail
       rw [← HW1.out];clear p0 p1 p2;have q0 : w1.cell? ⟨wr.heap.size, 0, none⟩ = some (.string ⟨xi.toArray⟩) := (cell_of_row w1 _ 0 _ _ _ HK1.out).trans rfl;have q1 : w1.cell? ⟨wr.heap.size, 1, none⟩ = some (.int .i64 xk) := (cell_of_row w1 _ 1 _ _ _ HK1.out).trans rfl;have q2 : w1.cell? ⟨wr.heap.size, 2, none⟩ = some (.string ⟨xd.toArray⟩) := (cell_of_row w1 _ 2 _ _ _ HK1.out).trans rfl;have hl2 := HL.out;by_cases hm : xi ∈ ids
       · have h0 : ¬ q = 0 := fun e => hCx.1 e hm;have h1 : (0 : Int) < (q : Int) := by omega
         have HS := zh (HSn.out.trans (if_pos hm));clear hCx HSn hm h0
         go_wp2_with (at_builtin; refine z0z heldK rfl _ _ rfl (w.heap.size + 1) u8 (z5t (l.take k) ids) ⟨xi, xk, xd⟩ _ rfl rfl rfl HN1.out ?c1 (by decide) ?c2 ?_)
         case c1 => exact HPL.out
         case c2 => have := HBM.out; have := HZ.out; omega
         intro z' w2 hN2 hb2;have HN2 := zh hN2;have HB2 := zh (HB1.out.trans (hb2.mono (Nat.le_succ _)));have HM2 := zh (HM1.out.below hb2 (Nat.lt_succ_self _));clear hN2 hb2 q0 q1 q2 hl2
         go_wp2_with fail
         go_roundw
         case rel => exact ⟨HB2, HM2, k + 1, hlt, by go_num, zh (by rw [HS.out]; exact HN2.out)⟩
         case measure => simp [intOf]; omega
       · have h0 : q = 0 := hCx.2 hm;have HS := zh (HSn.out.trans (if_neg hm));subst h0;clear hCx HSn hm
         go_wp2_with fail
         go_roundw
         case rel => exact ⟨HB1, HM1, k + 1, hlt, by go_num, zh (by rw [HS.out]; exact HN1.out)⟩
         case measure => simp [intOf]; omega
     · obtain rfl : k = l.length := by omega
       rw [List.take_length] at hN
       go_wp2_with fail
       go_ret
       exact ⟨_, rfl, OwK.mono hN.out (Nat.le_succ _), hB.out⟩
end Go.Proofs.YtgjddkeogboojaaGreatDoor
namespace Go.Proofs.YtgjddkeogboojaaGreatDoor
open Go.Sort
instance : Inhabited Hld := ⟨z05⟩
def SameF (l m : List Hld) : Prop := ∀ s, z0t m s = z0t l s
theorem SameF.refl (l : List Hld) : SameF l l := fun _ => rfl
theorem SameF.trans {a b c : List Hld} (h : SameF a b) (k : SameF b c) : SameF a c := fun s => (k s).trans (h s)
theorem z5a {p u v q : List Hld} (h : ∀ x ∈ u, ∀ y ∈ v, x.id ≠ y.id) : SameF (p ++ (u ++ v) ++ q) (p ++ (v ++ u) ++ q) := fun s => by
 rw [z0r, z0r, z0r, z0r, z0r, z0r]
 congr 2
 cases hu : z0t u s with
 | none => rw [Option.or_none, Option.none_or]
 | some x =>
   cases hv : z0t v s with
   | none => rfl
   | some y => exact absurd ((z3l hu).trans (z3l hv).symm) (h x (z2r hu) y (z2r hv))
def ltH (x y : Hld) : Bool := decide (x.id < y.id)
theorem zni : SWO ltH := ⟨fun x => by simp [ltH], fun x y z h k => by
 unfold ltH at h k ⊢;exact decide_eq_true (z76 (of_decide_eq_true h) (of_decide_eq_true k)), fun x y z h k => by
 unfold ltH at h k ⊢;refine decide_eq_false fun hz => ?_;have h1 := of_decide_eq_false h; have k1 := of_decide_eq_false k;rcases z33 y.id x.id with e | e | e
 · rcases z33 z.id y.id with e2 | e2 | e2
   · exact z4v _ (z76 hz (z76 e2 e))
   · rw [e2] at hz; exact z4v _ (z76 hz e)
   · exact k1 e2
 · rw [← e] at hz; exact k1 hz
 · exact h1 e⟩
theorem swp_list (d : Array Hld) (j : Nat) (hj : j + 1 < d.size) : ∃ p q, d.toList = p ++ ([d[j]!] ++ [d[j + 1]!]) ++ q ∧ (swp d (j + 1) j).toList = p ++ ([d[j + 1]!] ++ [d[j]!]) ++ q := by
 have h1 : d[j]! = d[j] := getElem!_pos d j (by omega);have h2 : d[j + 1]! = d[j + 1] := getElem!_pos d (j + 1) hj;refine ⟨d.toList.take j, d.toList.drop (j + 2), ?_, ?_⟩
 · rw [h1, h2];apply List.ext_getElem?;intro i;have hl : (d.toList.take j).length = j := by simp; omega
   rw [List.append_assoc];rcases Nat.lt_or_ge i j with hi | hi
   · rw [List.getElem?_append_left (by rw [hl]; exact hi), List.getElem?_take, if_pos hi]
   · rw [List.getElem?_append_right (by rw [hl]; exact hi), hl];obtain ⟨r, rfl⟩ := Nat.exists_eq_add_of_le hi;rw [Nat.add_sub_cancel_left]
     match r with
     | 0 => simp [Array.getElem?_toList, Array.getElem?_eq_getElem (show j < d.size by omega)]
     | 1 => simp [Array.getElem?_toList, Array.getElem?_eq_getElem hj]
     | r + 2 => simp [List.getElem?_drop, show j + 2 + r = j + (r + 2) by omega]
 · rw [h1, h2];apply List.ext_getElem?;intro i;have hl : (d.toList.take j).length = j := by simp; omega
   have hs : (swp d (j + 1) j).toList = (d.toList.set (j + 1) d[j]).set j d[j + 1] := by
    unfold swp; rw [h1, h2]; simp
   rw [hs, List.append_assoc];rcases Nat.lt_or_ge i j with hi | hi
   · rw [List.getElem?_append_left (by rw [hl]; exact hi), List.getElem?_take, if_pos hi, List.getElem?_set_ne (by omega), List.getElem?_set_ne (by omega)]
   · rw [List.getElem?_append_right (by rw [hl]; exact hi), hl];obtain ⟨r, rfl⟩ := Nat.exists_eq_add_of_le hi;rw [Nat.add_sub_cancel_left]
     match r with
     | 0 =>
       show ((d.toList.set (j + 1) d[j]).set j d[j + 1])[j]? = _;rw [List.getElem?_set_self (by simp; omega)]; rfl
     | 1 =>
       rw [List.getElem?_set_ne (by omega), List.getElem?_set_self (by simp; omega)]; rfl
     | r + 2 =>
       rw [List.getElem?_set_ne (by omega), List.getElem?_set_ne (by omega)];simp [List.getElem?_drop, show j + 2 + r = j + (r + 2) by omega]
theorem swp_same (d : Array Hld) (j : Nat) (hj : j + 1 < d.size) (h : ltH d[j + 1]! d[j]! = true) : SameF d.toList (swp d (j + 1) j).toList := by
 obtain ⟨p, q, e1, e2⟩ := swp_list d j hj;rw [e1, e2];refine z5a fun x hx y hy e => ?_;rw [List.mem_singleton.1 hx, List.mem_singleton.1 hy] at e;have := of_decide_eq_true (show decide (d[j + 1]!.id < d[j]!.id) = true from h);rw [e] at this; exact z4v _ this
theorem zdx (d : Array Hld) (i j : Nat) : (swp d i j).size = d.size := by simp [swp]
theorem z6t (a : Nat) : ∀ (j : Nat) (d : Array Hld), j < d.size → SameF d.toList (insInner ltH a j d).toList ∧ (insInner ltH a j d).size = d.size
 | 0, d, _ => by unfold insInner; exact ⟨SameF.refl _, rfl⟩
 | j + 1, d, hj => by
   unfold insInner;split
   · rename_i hc;rw [Bool.and_eq_true] at hc;obtain ⟨h1, h2⟩ := z6t a j (swp d (j + 1) j) (by rw [zdx]; omega);exact ⟨(swp_same d j hj hc.2).trans h1, h2.trans (zdx _ _ _)⟩
   · exact ⟨SameF.refl _, rfl⟩
theorem z6u (a b : Nat) : ∀ (n i : Nat) (d : Array Hld), b - i = n → b ≤ d.size → SameF d.toList (insOuter ltH a b i d).toList
 | 0, i, d, h, hb => by rw [insOuter, if_neg (by omega)]; exact SameF.refl _
 | n + 1, i, d, h, hb => by
   rw [insOuter, if_pos (by omega)];obtain ⟨h1, h2⟩ := z6t a i d (by omega);exact h1.trans (z6u a b n (i + 1) _ (by omega) (by rw [h2]; exact hb))
theorem zac (d : Array Hld) (a b : Nat) (hb : b ≤ d.size) : SameF d.toList (insertionSort ltH d a b).toList := z6u a b _ _ d rfl hb
structure Stab (l m : List Hld) : Prop where
 perm : m.Perm l
 same : SameF l m
 sort : m.Pairwise fun x y => ¬ y.id < x.id
theorem z3t (l : List Hld) : Stab l (insertionSort ltH l.toArray 0 l.length).toList := by
 have h := insertionSort_holds zni l.toArray 0 l.length (Nat.zero_le _) (by simp);obtain ⟨⟨h1, h2, h3⟩, h4⟩ := h;refine ⟨?_, ?_, ?_⟩
 · have e1 : ((insertionSort ltH l.toArray 0 l.length).extract 0 l.length) = insertionSort ltH l.toArray 0 l.length := by
    refine Array.extract_eq_self_of_le ?_;rw [h1]; simp
   rw [e1] at h3;simpa using h3
 · have := zac l.toArray 0 l.length (by simp);simpa using this
 · rw [List.pairwise_iff_getElem];intro i j hi hj hij;have hs : (insertionSort ltH l.toArray 0 l.length).size = l.length := by rw [h1]; simp
   have := h4 i j (Nat.zero_le _) hij (by simpa [hs] using hj);rw [getElem!_pos _ i (by simpa using hi), getElem!_pos _ j (by simpa using hj)] at this;have := of_decide_eq_false (show decide _ = false from this);simpa using this
def runs : Bs → List Hld → List Hld
 | _, [] => []
 | p, y :: l => if y.id = p then runs y.id l else y :: runs y.id l
def z3i : List Hld → List Hld
 | [] => []
 | x :: l => x :: runs x.id l
theorem zdy : ∀ {l : List Hld} {p : Bs}, (∀ x ∈ l, ¬ x.id < p) → l.Pairwise (fun x y => ¬ y.id < x.id) → (∀ x ∈ runs p l, p < x.id) ∧ (runs p l).Pairwise fun x y => x.id < y.id
 | [], _, _, _ => ⟨fun _ h => (by cases h), List.Pairwise.nil⟩
 | y :: l, p, hp, hs => by
   obtain ⟨h1, h2⟩ := List.pairwise_cons.1 hs;obtain ⟨i1, i2⟩ := zdy (l := l) (p := y.id) h1 h2;unfold runs;by_cases e : y.id = p
   · rw [if_pos e, ← e]; exact ⟨i1, i2⟩
   · rw [if_neg e]
     have hlt : p < y.id := by
      rcases z33 p y.id with h | h | h
      · exact h
      · exact absurd h.symm e
      · exact absurd h (hp y (by simp))
     exact ⟨fun x hx => (List.mem_cons.1 hx).elim (fun e => by rw [e]; exact hlt) (fun hx => z76 hlt (i1 x hx)), List.pairwise_cons.2 ⟨i1, i2⟩⟩
theorem z9i : ∀ {l : List Hld} {p : Bs} (s : Bs), s ≠ p → (∀ x ∈ l, ¬ x.id < p) → l.Pairwise (fun x y => ¬ y.id < x.id) → z0t (runs p l) s = z0t l s
 | [], _, _, _, _, _ => rfl
 | y :: l, p, s, hne, hp, hs => by
   obtain ⟨h1, h2⟩ := List.pairwise_cons.1 hs;unfold runs;by_cases e : y.id = p
   · rw [if_pos e, z13, if_neg (fun e2 => hne (e2.symm.trans e)), e];exact z9i s hne (fun x hx => hp x (List.mem_cons_of_mem _ hx)) h2
   · rw [if_neg e, z13, z13];by_cases e2 : y.id = s
     · rw [if_pos e2, if_pos e2]
     · rw [if_neg e2, if_neg e2]; exact z9i s (fun e3 => e2 e3.symm) h1 h2
theorem zj6 {l : List Hld} (hs : l.Pairwise fun x y => ¬ y.id < x.id) (s : Bs) : z0t (z3i l) s = z0t l s := by
 cases l with
 | nil => rfl
 | cons x l =>
   obtain ⟨h1, h2⟩ := List.pairwise_cons.1 hs;unfold z3i;rw [z13, z13];by_cases e : x.id = s
   · rw [if_pos e, if_pos e]
   · rw [if_neg e, if_neg e]; exact z9i s (fun e3 => e e3.symm) h1 h2
theorem zb1 {l : List Hld} (hs : l.Pairwise fun x y => ¬ y.id < x.id) : (z3i l).Pairwise fun x y => x.id < y.id := by
 cases l with
 | nil => exact List.Pairwise.nil
 | cons x l =>
   obtain ⟨h1, h2⟩ := List.pairwise_cons.1 hs;exact List.pairwise_cons.2 (zdy h1 h2)
theorem znj {r : List Hld} (h : r.Pairwise fun x y => x.id < y.id) (z : Hld) : z ∈ r ↔ z0t r z.id = some z := by
 constructor
 · intro hz
   induction r with
   | nil => cases hz
   | cons x r ih =>
     obtain ⟨h1, h2⟩ := List.pairwise_cons.1 h;rw [z13];rcases List.mem_cons.1 hz with rfl | hz
     · rw [if_pos rfl]
     · rw [if_neg (fun e => by have := h1 z hz; rw [e] at this; exact z4v _ this)];exact ih h2 hz
 · exact fun h => z2r h
theorem Stab.isSet {l m : List Hld} (h : Stab l m) : IsSet l (z3i m) :=
 ⟨zb1 h.sort, fun z => by rw [znj (zb1 h.sort) z, zj6 h.sort, h.same]⟩
end Go.Proofs.YtgjddkeogboojaaGreatDoor
namespace Go.Proofs.YtgjddkeogboojaaGreatDoor
open Go Go.RowKit Go.Maps Go.Shelf Go.Sort
def cmpH (x y : Hld) : Int := Lib.compareBytes x.id y.id
theorem cmp_lt : ∀ a b : Bs, Lib.compareBytes a b < 0 ↔ a < b
 | [], [] => by simp [Lib.compareBytes]
 | [], b :: m => by simp [Lib.compareBytes]
 | a :: l, [] => by simp [Lib.compareBytes]
 | a :: l, b :: m => by
   unfold Lib.compareBytes;rw [List.cons_lt_cons_iff];by_cases h : a < b
   · rw [if_pos h]; simp [h]
   · rw [if_neg h];by_cases h2 : b < a
     · rw [if_pos h2];have : ¬ a = b := fun e => by rw [e] at h2; exact absurd h2 (by simp)
       simp [h, this]
     · rw [if_neg h2, cmp_lt l m]
       have : a = b := by
        have h1 : ¬ a.toNat < b.toNat := h;have h3 : ¬ b.toNat < a.toNat := h2;exact UInt8.toNat_inj.1 (by omega)
       simp [this]
theorem lt_cmp : ltOf cmpH = ltH := by
 funext x y;unfold ltOf ltH cmpH;rw [decide_eq_decide]; exact cmp_lt _ _
theorem znk (x y : Hld) (W : World) : Calls Tryz.prog 113 #[.agg (z0b x).toArray, .agg (z0b y).toArray] W fun e w' => e = .returned (.int .i64 (cmpH x y)) ∧ ∃ q os', w' = grow (W.drewN q) os' := by
 obtain ⟨xi, xk, xd⟩ := x;obtain ⟨yi, yk, yd⟩ := y;unfold z0b SV cmpH;simp only;have HC := fun w => zh (Any.strings_Compare Tryz.cmpA ⟨xi.toArray⟩ ⟨yi.toArray⟩ w)
 go_enter Tryz.func113, Tryz.ntmps113
 go_wp2_with fail
 refine (HC _).out.mono ?_;rintro e w2 ⟨rfl, rfl⟩
 go_wp2_with fail
 go_ret
 refine ⟨by simp, 0, #[.cells #[.string ⟨xi.toArray⟩, .int .i64 xk, .string ⟨xd.toArray⟩] 47, .cells #[.string ⟨yi.toArray⟩, .int .i64 yk, .string ⟨yd.toArray⟩] 47], ?_⟩;rw [alloc_eq_grow, alloc_eq_grow, grow_grow]; rfl
theorem z8i (x y : Hld) (b : Bool) (hb : (x.id == y.id) = b) (W : World) : Calls Tryz.prog 116 #[.agg (z0b x).toArray, .agg (z0b y).toArray] W (z06 (.bool b) W) := by
 obtain ⟨xi, xk, xd⟩ := x;obtain ⟨yi, yk, yd⟩ := y;unfold z0b SV;simp only at hb ⊢;cases b with
 | true =>
   have e : xi = yi := by simpa using hb
   subst e;clear hb
   go_enter Tryz.func116, Tryz.ntmps116
   go_wp2_with fail
   go_ret
   exact ⟨by simp, (below_new W _).alloc (by simp) _⟩
 | false =>
   have e : ¬ xi = yi := by simpa using hb
   go_enter Tryz.func116, Tryz.ntmps116
   go_wp2_with fail
   go_ret
   exact ⟨by simp, (below_new W _).alloc (by simp) _⟩
theorem z3n {w : World} {B g cap : Nat} {cur : Array Value} {l : List Hld} (hB : B ≤ g) (hg : w.heap[g]? = some (.cells cur 47 (0, 0))) (h1 : l.length ≤ cap) (h2 : cap ≤ maxLen) (h3 : cur.size = cap * 3)
 (hc : ∀ j, j < l.length → ∀ i, i < 3 → cur[j * 3 + i]? = (z0b (l.getD j z05))[i]?) : NewH B w (.slice (some ⟨g, 0, none⟩) l.length cap) l := by
 refine ⟨z49 z2t l, .inr ⟨g, cap, cur, rfl, hB, hg, h1, h2, h3, ?_⟩⟩;apply List.ext_getElem?;intro t;by_cases ht : t < l.length * 3
 · rw [List.getElem?_take_of_lt ht, Array.getElem?_toList];have hq : t / 3 < l.length := by omega
   have hr : t % 3 < 3 := by omega
   have e : t / 3 * 3 + t % 3 = t := by omega
   have := hc (t / 3) hq (t % 3) hr;rw [e] at this;have h4 := z6f z2t l (t / 3) _ (zj hq) (t % 3) hr;rw [e] at h4;rw [this, h4, zg, zj hq]; rfl
 · rw [List.getElem?_take_eq_none (by omega), List.getElem?_eq_none (by rw [z49 z2t]; omega)]
theorem z0m {w : World} {B g c n : Nat} {l : List Hld} (h : NewH B w (.slice (some ⟨g, 0, none⟩) n c) l) : ∃ cur, n = l.length ∧ B ≤ g ∧ w.heap[g]? = some (.cells cur 47 (0, 0)) ∧ l.length ≤ c ∧ c ≤ maxLen ∧ cur.size = c * 3 ∧ ∀ j, j < l.length → ∀ i, i < 3 → cur[j * 3 + i]? = (z0b (l.getD j z05))[i]? := by
 have hr := h.rd;rcases h.2 with ⟨h0, _⟩ | ⟨g', cap, cur, e, hbg, hg, hnc, hcm, hcs, _⟩
 · cases h0
 · cases e;refine ⟨cur, rfl, hbg, hg, hnc, hcm, hcs, fun j hj i hi => ?_⟩;rcases hr with ⟨⟨A, c', e⟩, rfl⟩ | ⟨g2, o2, c2, e, _, _, hcell⟩
   · cases hj
   · cases e;have := hcell j hj _ (zj hj) i hi;rw [cell_of_row w g _ cur _ _ hg, Nat.zero_add] at this;rw [this, zg, zj hj]; rfl
theorem znl {w : World} {g : Nat} {cur : Array Value} {l : List Hld} (hg : w.heap[g]? = some (.cells cur 47 (0, 0))) (hc : ∀ j, j < l.length → ∀ i, i < 3 → cur[j * 3 + i]? = (z0b (l.getD j z05))[i]?) :
 HoldsK z0b 3 w g 0 l.toArray := by
 intro t ht;rw [size_flatK] at ht;have hs : l.toArray.size = l.length := by simp
 rw [hs] at ht;refine ⟨?_, frozen_of hg⟩;have hq : t / 3 < l.length := by omega
 have hr : t % 3 < 3 := by omega
 have e : t / 3 * 3 + t % 3 = t := by omega
 have := hc (t / 3) hq (t % 3) hr;rw [e] at this;rw [get_flatK z0b 3 l.toArray t (by rw [hs]; exact ht), Nat.zero_add, cell_of_row w g t cur _ _ hg, this]
 have e2 : l.toArray[t / 3]! = l.getD (t / 3) z05 := by
  rw [getElem!_pos _ _ (by simpa using hq), zg, zj hq]; simp
 rw [e2];have hl := z2t (l.getD (t / 3) z05);rw [zj (by omega), getElem!_pos _ _ (by omega)]; rfl
theorem zdz {w : World} {g n : Nat} {os : Array Obj} {cur : Array Value} {e : TypeId} {fr : Nat × Nat} (d : Array Hld) (hb : w.heap[g]? = some (.cells cur e fr)) :
 (sortWorldK z0b 3 w g 0 n d os).heap[g]? = some (.cells (putCells id 0 (flatK z0b 3 d) cur) e fr) := by
 have hg : g < w.heap.size := (Array.getElem?_eq_some_iff.1 hb).1;unfold sortWorldK putRowK;rw [heap_grow_old _ _ (by simpa using hg)];simp [putRow, mapBlock, Sort.ahead, Array.getElem?_modify, hb, onCells]
theorem z9j {w : World} {g n : Nat} {os : Array Obj} (d : Array Hld) : But (fun k => some g = some k) w (sortWorldK z0b 3 w g 0 n d os) := by
 unfold sortWorldK putRowK;refine ⟨rfl, rfl, rfl, by simp, fun k hk hne => ?_⟩;rw [heap_grow_old _ _ (by simpa using hk)];have : g ≠ k := fun e => hne (by rw [e]);simp [putRow, mapBlock, Sort.ahead, Array.getElem?_modify, this]
theorem z9k {w : World} {B g c n : Nat} {l : List Hld} (h : NewH B w (.slice (some ⟨g, 0, none⟩) l.length c) l) (d : Array Hld) (hd : d.size = l.length) (os : Array Obj) :
 NewH B (sortWorldK z0b 3 w g 0 n d os) (.slice (some ⟨g, 0, none⟩) l.length c) d.toList := by
 obtain ⟨cur, _, hB, hg, h1, h2, h3, hc⟩ := z0m h;have := z3n (l := d.toList) hB (zdz (n := n) (os := os) d hg) (by simp [hd]; exact h1) h2 (by simp [putCells, h3]) (fun j hj i hi => ?_)
 · simpa [hd] using this
 · have hj' : j < d.size := by simpa using hj
   have h5 : j * 3 + i < cur.size := by omega
   have h6 : j * 3 + i < d.size * 3 := by omega
   have e1 : (j * 3 + i) / 3 = j := by omega
   have e2 : (j * 3 + i) % 3 = i := by omega
   rw [putCells, Array.getElem?_mapIdx, Array.getElem?_eq_getElem h5];simp only [Option.map_some, Nat.zero_le, Nat.zero_add, size_flatK, h6, and_self, if_true, Nat.sub_zero, id_eq];rw [get_flatK z0b 3 d _ h6, e1, e2, getElem!_pos d j hj', zg, zj hj];have hl := z2t (d.toList[j]);simp only [Option.getD_some];rw [zj (by omega), getElem!_pos _ _ (by rw [show d[j] = d.toList[j] by simp]; omega)];simp
def zc1 (B : Nat) (l : List Hld) (v : Value) (w : World) (e : Ending) (w' : World) : Prop :=
 e = .returned (.tuple #[]) ∧ ∃ m, Stab l m ∧ NewH B w' v m ∧ But (fun k => v.ownBlock = some k) w w'
theorem heldOne (x : Hld) : ∀ v ∈ z0b x, v.oneCell' = true := by
 intro v hv;simp only [z0b, List.mem_cons, List.not_mem_nil, or_false] at hv;rcases hv with rfl | rfl | rfl <;> rfl
theorem znm {w : World} {g c : Nat} {cur : Array Value} {l : List Hld} (hg : w.heap[g]? = some (.cells cur 47 (0, 0))) (hc : ∀ j, j < l.length → ∀ i, i < 3 → cur[j * 3 + i]? = (z0b (l.getD j z05))[i]?) (a b : Nat) (hab : a ≤ b) (hb : b ≤ l.length) (hl : l.length ≤ 1000000) :
 Calls Tryz.prog 134 #[.slice (some ⟨g, 0, none⟩) l.length c, .int .i64 a, .int .i64 b, .func (.func 113) #[] #[]] w fun e w' =>
  e = .returned (.tuple #[]) ∧ ∃ n os, w' = sortWorldK z0b 3 w g 0 n (insertionSort ltH l.toArray a b) os := by
 have h := AnyQ.insertionSortCmpFunc Tryz.insA 3 (fun w => by kernel_rfl) (fun w => by kernel_rfl) z0b z2t heldOne cmpH 113 #[] g 0 c a b l.toArray w (fun args w => by kernel_rfl)
  (fun m os dk _ x y => znk x y _) (znl hg hc) (lt_heap hg) hab (by simpa using hb) (by simp; omega)
 rw [lt_cmp, show l.toArray.size = l.length by simp] at h;exact h
end Go.Proofs.YtgjddkeogboojaaGreatDoor
namespace Go.Proofs.YtgjddkeogboojaaGreatDoor
open Go Go.RowKit Go.Shelf
section
variable {P : Program} {a : Go.Act} {o : Oper} {W : World}
theorem znn {t : TypeId} {n : Nat} {parts : Array (Nat × Operand)} {ps : Array (Nat × Value)} {r : Value} {W' : World} (ho : o.op = .buildSlice t n parts) (hp : (parts.map fun (i, x) => (i, a.eval x)) = ps) (h : (Instr.buildSlice t n ps).run P W = .ok r W') : (execOp a.eval o).run P W = .ok (.value r) W' := by
 subst hp;simp only [execOp, ho];simp [h, Result.andThen]
end
theorem build1 (W : World) (xm : Int) (xn xi : zB) : (Instr.buildSlice 91 1 #[(0, .agg #[.int .i64 xm, .string ⟨xn.toArray⟩, .string ⟨xi.toArray⟩])]).run Tryz.prog W = .ok (.slice (some ⟨W.heap.size, 0, none⟩) 1 1) (W.alloc (.cells #[.int .i64 xm, .string ⟨xn.toArray⟩, .string ⟨xi.toArray⟩] 126)) := by
 simp [go_sem]
theorem zno (W : World) (g o n c k : Nat) (hk : k < n) : (Instr.indexAt 91 (.slice (some ⟨g, o, none⟩) n c) (.int .i64 (k : Int))).run Tryz.prog W = .ok (.pointer (some ⟨g, o + k * 3, none⟩)) W := by
 have h1 : (k : Int) < (n : Int) := by omega
 simp [go_sem, h1]
section
variable {P : Program} {ops : Array Oper} {Q : Exit → Go.Act → World → Prop} {b : Nat} {w0 : World}
def AnyK (P : Program) (ops : Array Oper) (Q : Exit → Go.Act → World → Prop) (b : Nat) (w0 : World) (fuel : Nat) (listed : Array Bool) (a : Go.Act) (w : World) : Prop :=
 wpAnyH P .any ops Q (fun W => Below b w0 W) fuel listed a w
theorem AnyK.start (b : Nat) (w0 : World) {id : Nat} {a : Go.Act} {w : World} (hm : P.follows .mixedOrders = true) (h : AnyK P ops Q b w0 ops.size (Array.replicate ops.size false) a w.drew) : (Code.region id ops true).wp P Q a w :=
 held_start _ hm h
theorem AnyK.take (i : Nat) (v : Value) {oi : Oper} {fuel : Nat} {listed : Array Bool} {a : Go.Act} {w : World} (hS : Below b w0 w) (hi : ops[i]? = some oi)
 (hs : Region.noSelect ops = true) (hf : Region.free .any ops listed i = true) (hr : (Region.ready .any ops listed).contains i = true)
 (hQ : ∀ c a w, Q (.panic c) (a.put oi.dst v) w → Q (.panic c) a w) (hw : Region.wanted oi (yielded ops a.tmps) = true)
 (hy : ∀ W, Below b w0 W → (execOp a.eval oi).run P W = .ok (.value v) W)
 (h : AnyK P ops Q b w0 fuel (listed.setIfInBounds i true) (a.put oi.dst v) w) : AnyK P ops Q b w0 (fuel + 1) listed a w :=
 held_take i v hi hs hf hr hQ hw hy hS h
theorem AnyK.call (i : Nat) {oi : Oper} {fuel : Nat} {listed : Array Bool} {a : Go.Act} {w : World} (f : FuncId) (vs : Array Value) (hr : Region.ready .any ops listed = [i]) (hi : ops[i]? = some oi)
 (hw : Region.wanted oi (yielded ops a.tmps) = true) (he : (execOp a.eval oi).run P w = .ok (.enter f vs) w)
 (hc : Calls P f vs w fun e w' => ∃ v, e = .returned v ∧ Below b w0 w' ∧ AnyK P ops Q b w0 fuel (listed.setIfInBounds i true) (a.put oi.dst v) w') : AnyK P ops Q b w0 (fuel + 1) listed a w := by
 refine wpAnyH_ready hr (by simp) (AllReadyH.cons hi (fun K hK => ?_) AllReadyH.nil);rw [if_pos hw];unfold Oper.wp;rw [he, Oper.upon_enter];refine hc.mono ?_;rintro e w' ⟨v, rfl, hb, h⟩;exact hK.out _ _ hb fun _ => h
theorem AnyK.op (i : Nat) (v : Value) (w' : World) {oi : Oper} {fuel : Nat} {listed : Array Bool} {a : Go.Act} {w : World} (hr : Region.ready .any ops listed = [i]) (hi : ops[i]? = some oi)
 (hw : Region.wanted oi (yielded ops a.tmps) = true) (he : (execOp a.eval oi).run P w = .ok (.value v) w') (hb : Below b w0 w') (h : AnyK P ops Q b w0 fuel (listed.setIfInBounds i true) (a.put oi.dst v) w') : AnyK P ops Q b w0 (fuel + 1) listed a w :=
 held_one hr (held_op v w' hi hw he hb h)
theorem AnyK.done {listed : Array Bool} {a : Go.Act} {w : World} (fuel : Nat) (hr : Region.ready .any ops listed = []) (h : Q .normal a w) : AnyK P ops Q b w0 fuel listed a w :=
 held_done fuel hr h
end
section
variable {P : Program} {a : Go.Act} {o : Oper} {W : World}
theorem y_slice {t : TypeId} {x : Operand} {lo hi mx : Option Operand} {xv r : Value} {lv hv mv : Option Value} (ho : o.op = .slice t x lo hi mx) (hx : a.eval x = xv) (hl : lo.map a.eval = lv) (hh : hi.map a.eval = hv) (hm : mx.map a.eval = mv)
 (hs : (Instr.sliceAt t xv lv hv mv).run P W = .ok r W) : (execOp a.eval o).run P W = .ok (.value r) W := by
 subst hx hl hh hm;simp only [execOp, ho];simp [hs, Result.andThen]
theorem z0s {t : TypeId} {s i : Operand} {sv iv r : Value} (ho : o.op = .indexAddr t s i) (hs : a.eval s = sv) (hi : a.eval i = iv) (h : (Instr.indexAt t sv iv).run P W = .ok r W) : (execOp a.eval o).run P W = .ok (.value r) W := by
 subst hs hi;simp only [execOp, ho];simp [h, Result.andThen]
theorem z1i {t : TypeId} {s : Operand} {n : Nat} {sv r : Value} (ho : o.op = .fieldAddr t s n) (hs : a.eval s = sv) (h : (Instr.fieldAt t sv n).run P W = .ok r W) : (execOp a.eval o).run P W = .ok (.value r) W := by
 subst hs;simp only [execOp, ho];simp [h, Result.andThen]
end
end Go.Proofs.YtgjddkeogboojaaGreatDoor
namespace Go.Proofs.YtgjddkeogboojaaGreatDoor
open Go Go.RowKit Go.Maps
theorem z1o (W : World) (g o n c k : Nat) (hk : k < n) : (Instr.indexAt 38 (.slice (some ⟨g, o, none⟩) n c) (.int .i64 (k : Int))).run Tryz.prog W = .ok (.pointer (some ⟨g, o + k * 3, none⟩)) W := by
 have h1 : (k : Int) < (n : Int) := by omega
 simp [go_sem, h1]
theorem blk_setCell {W : World} {b i : Nat} {cs : Array Value} {t : TypeId} {fr : Nat × Nat} (h : W.heap[b]? = some (.cells cs t fr)) (v : Value) : (W.setCell ⟨b, i, none⟩ v).heap[b]? = some (.cells (cs.setIfInBounds i v) t fr) := by
 obtain ⟨hlt, hk⟩ := Array.getElem?_eq_some_iff.1 h;show (W.heap.modify b _)[b]? = _;rw [Array.getElem?_eq_getElem (by rw [Array.size_modify]; exact hlt), Array.getElem_modify_self, hk];rfl
end Go.Proofs.YtgjddkeogboojaaGreatDoor
namespace Go.Proofs.YtgjddkeogboojaaGreatDoor
open Go Go.RowKit Go.Maps Go.Sort
theorem ze0 (y : Hld) : ∀ (l : List Hld) (p : Bs), runs p (l ++ [y]) = runs p l ++ if y.id = ((l.getLast?.map Hld.id).getD p) then [] else [y]
 | [], p => by
   show (if y.id = p then runs y.id [] else y :: runs y.id []) = _;by_cases e : y.id = p
   · rw [if_pos e]; simp [runs, e]
   · rw [if_neg e]; simp [runs, e]
 | x :: l, p => by
   show (if x.id = p then runs x.id (l ++ [y]) else x :: runs x.id (l ++ [y])) = (if x.id = p then runs x.id l else x :: runs x.id l) ++ _
   have hl : ((x :: l).getLast?.map Hld.id).getD p = (l.getLast?.map Hld.id).getD x.id := by
    cases l with
    | nil => rfl
    | cons z l =>
      rw [List.getLast?_cons_cons];cases hq : (z :: l).getLast? with
      | none => simp at hq
      | some u => rfl
   rw [hl, ze0 y l x.id];by_cases e : x.id = p
   · rw [if_pos e, if_pos e]
   · rw [if_neg e, if_neg e]; rfl
theorem z7k {l : List Hld} {i : Nat} (h0 : 1 ≤ i) (hi : i < l.length) : z3i (l.take (i + 1)) = z3i (l.take i) ++ if (l.getD i z05).id = (l.getD (i - 1) z05).id then [] else [l.getD i z05] := by
 rw [z0l l z05 i hi];have hlen : (l.take i).length = i := by rw [List.length_take]; omega
 have hlast : (l.take i).getLast? = some (l.getD (i - 1) z05) := by
  rw [List.getLast?_eq_getElem?, hlen, List.getElem?_take, if_pos (by omega), zg, zj (by omega)]; rfl
 cases ht : l.take i with
 | nil => rw [ht] at hlen; simp at hlen; omega
 | cons x m =>
   show x :: runs x.id (m ++ [l.getD i z05]) = (x :: runs x.id m) ++ _;rw [ze0]
   have h2 : ((m.getLast?.map Hld.id).getD x.id) = (l.getD (i - 1) z05).id := by
    rw [ht] at hlast;cases m with
    | nil => rw [← Option.some.inj (show some x = some _ from hlast)]; rfl
    | cons z m =>
      rw [List.getLast?_cons_cons] at hlast;rw [hlast]; rfl
   rw [h2]; rfl
theorem ze1 {l : List Hld} (h : l.length < 2) : z3i l = l := by
 match l, h with
 | [], _ => rfl
 | [x], _ => rfl
theorem zb2 : ∀ (vs : List Value) (F : Array Value) (s i : Nat), i < s → (setMany F s vs)[i]? = F[i]?
 | [], _, _, _, _ => rfl
 | v :: r, F, s, i, h => by rw [setMany, zb2 r _ (s + 1) i (by omega), Array.getElem?_setIfInBounds_ne (by omega)]
theorem z3o {b : Nat} {t : TypeId} {fr : Nat × Nat} : ∀ (vs : List Value) (W : World) (o : Nat) (cs : Array Value), W.heap[b]? = some (.cells cs t fr) → (W.setCells b o vs).heap[b]? = some (.cells (setMany cs o vs) t fr)
 | [], _, _, _, h => h
 | v :: r, _, o, _, h => z3o r _ (o + 1) _ (blk_setCell h v)
theorem z15 {b : Nat} {S : Nat → Prop} (hS : S b) : ∀ (vs : List Value) (W : World) (o : Nat), But S W (W.setCells b o vs)
 | [], W, _ => But.refl _ W
 | v :: r, W, o => (But.setCell (But.refl S W) (p := ⟨b, o, none⟩) hS v).trans (z15 hS r _ (o + 1))
theorem z6v (W : World) (b o : Nat) (x : Hld) (h0 : W.cell? ⟨b, o, none⟩ = some (SV x.id)) (h1 : W.cell? ⟨b, o + 1, none⟩ = some (.int .i64 x.kind)) (h2 : W.cell? ⟨b, o + 2, none⟩ = some (SV x.data)) :
 (Instr.loadAt 47 (.pointer (some ⟨b, o, none⟩))).run Tryz.prog W = .ok (.agg (z0b x).toArray) W := by
 obtain ⟨xi, xk, xd⟩ := x;unfold z0b;unfold SV at h0 h2 ⊢;simp only at h0 h1 h2 ⊢;go_simp
theorem zeroHeld (W : World) : (zeroValue 47).run Tryz.prog W = .ok (.agg #[.string ⟨#[]⟩, .int .i64 0, .string ⟨#[]⟩]) W := by kernel_rfl
theorem zj7 {W : World} {g k n c ty : Nat} {cur : Array Value} (hg : W.heap[g]? = some (.cells cur 47 (0, 0))) (hn : 0 < n) (hk : k * 3 + n * 3 ≤ cur.size) :
 ∃ vs, (Builtin.clear_ #[38] ty #[.slice (some ⟨g, k * 3, none⟩) n c]).run Tryz.prog W = .ok (.tuple #[]) (W.setCells g (k * 3) vs) := by
 obtain ⟨m, rfl⟩ : ∃ m, n = m + 1 := ⟨n - 1, by omega⟩
 have hz := zeroHeld W;refine ⟨(Builtin.zeroCells (Value.agg #[.string ⟨#[]⟩, .int .i64 0, .string ⟨#[]⟩]).cells (m + 1)).toList, ?_⟩
 have hlen : (Builtin.zeroCells (Value.agg #[.string ⟨#[]⟩, .int .i64 0, .string ⟨#[]⟩]).cells (m + 1)).toList.length = (m + 1) * 3 := by
  rw [Array.length_toList, size_zeroCells]; rfl
 have hst := run_storeCells_cells (P := Tryz.prog) g (k * 3) (Builtin.zeroCells (Value.agg #[.string ⟨#[]⟩, .int .i64 0, .string ⟨#[]⟩]).cells (m + 1)).toList 0 W
  (fun j hj => by rw [hlen] at hj; rw [cell_of_row W g _ cur _ _ hg, Array.getElem?_eq_getElem (by omega)]; rfl) (fun j _ => frozen_of hg)
  (fun v hv => by
    have : ∀ (z : Array Value) (n : Nat), 0 < z.size → (∀ v ∈ z.toList, v.oneCell' = true) → ∀ v ∈ (Builtin.zeroCells z n).toList, v.oneCell' = true := fun z n h0 hz v hv => by
     unfold Builtin.zeroCells at hv;simp at hv;obtain ⟨q, _, hv⟩ := hv;have hq : q % z.size < z.size := Nat.mod_lt _ h0;rw [getElem!_pos z _ hq] at hv;exact hz v (by rw [← hv]; simp)
    refine this _ _ (by decide) (fun v hv => ?_) v hv;have hv2 : v ∈ [Value.string ⟨#[]⟩, Value.int .i64 0, Value.string ⟨#[]⟩] := hv;simp only [List.mem_cons, List.not_mem_nil, or_false] at hv2;rcases hv2 with rfl | rfl | rfl <;> rfl)
 simp only [Nat.add_zero] at hst;simp [Builtin.clear_, run_underlying Tryz.underlying38, hz, hst]
end Go.Proofs.YtgjddkeogboojaaGreatDoor
namespace Go.Proofs.YtgjddkeogboojaaGreatDoor
open Go Go.RowKit
section
variable {P : Program} {ops : Array Oper} {Q : Exit → Go.Act → World → Prop}
theorem AnyB.tk (i : Nat) (v : Value) {oi : Oper} {fuel : Nat} {listed : Array Bool} {a : Go.Act} {w : World} (hi : ops[i]? = some oi)
 (hy : ∀ W, Below w.heap.size w W → (execOp a.eval oi).run P W = .ok (.value v) W)
 (h : AnyB P ops Q fuel (listed.setIfInBounds i true) (a.put oi.dst v) w)
 (hs : Region.noSelect ops = true := by kernel_rfl) (hf : Region.free .any ops listed i = true := by kernel_rfl) (hr : (Region.ready .any ops listed).contains i = true := by kernel_rfl)
 (hQ : ∀ c a w, Q (.panic c) (a.put oi.dst v) w → Q (.panic c) a w := by exact fun _ _ _ h => h) (hw : Region.wanted oi (yielded ops a.tmps) = true := by kernel_rfl) : AnyB P ops Q (fuel + 1) listed a w :=
 AnyB.take i v hi hs hf hr hQ hw hy h
theorem AnyB.tm (i : Nat) (v : Value) {oi : Oper} {fuel : Nat} {listed : Array Bool} {a : Go.Act} {w : World} (hi : ops[i]? = some oi)
 (h : AnyB P ops Q fuel (listed.setIfInBounds i true) (a.put oi.dst v) w)
 (hy : ∀ W, Below w.heap.size w W → (execOp a.eval oi).run P W = .ok (.value v) W := by intros; kernel_rfl)
 (hs : Region.noSelect ops = true := by kernel_rfl) (hf : Region.free .any ops listed i = true := by kernel_rfl) (hr : (Region.ready .any ops listed).contains i = true := by kernel_rfl)
 (hQ : ∀ c a w, Q (.panic c) (a.put oi.dst v) w → Q (.panic c) a w := by exact fun _ _ _ h => h) (hw : Region.wanted oi (yielded ops a.tmps) = true := by kernel_rfl) : AnyB P ops Q (fuel + 1) listed a w :=
 AnyB.take i v hi hs hf hr hQ hw hy h
theorem AnyB.sk (i : Nat) {oi : Oper} {fuel : Nat} {listed : Array Bool} {a : Go.Act} {w : World} (hi : ops[i]? = some oi)
 (h : AnyB P ops Q fuel (listed.setIfInBounds i true) (a.put oi.dst undef) w)
 (hs : Region.noSelect ops = true := by kernel_rfl) (hf : Region.free .any ops listed i = true := by kernel_rfl) (hr : (Region.ready .any ops listed).contains i = true := by kernel_rfl)
 (hQ : ∀ c a w, Q (.panic c) (a.put oi.dst undef) w → Q (.panic c) a w := by exact fun _ _ _ h => h) (hw : Region.wanted oi (yielded ops a.tmps) = false := by kernel_rfl) : AnyB P ops Q (fuel + 1) listed a w :=
 AnyB.skip i hi hs hf hr hQ hw h
end
section
variable {P : Program} {ops : Array Oper} {Q : Exit → Go.Act → World → Prop} {S : World → Prop}
theorem z08 (i : Nat) (v : Value) {oi : Oper} {fuel : Nat} {listed : Array Bool} {a : Go.Act} {w : World} (hi : ops[i]? = some oi)
 (hy : ∀ W, S W → (execOp a.eval oi).run P W = .ok (.value v) W) (hS : S w)
 (h : wpAnyH P .any ops Q S fuel (listed.setIfInBounds i true) (a.put oi.dst v) w)
 (hs : Region.noSelect ops = true := by kernel_rfl) (hf : Region.free .any ops listed i = true := by kernel_rfl) (hr : (Region.ready .any ops listed).contains i = true := by kernel_rfl)
 (hQ : ∀ c a w, Q (.panic c) (a.put oi.dst v) w → Q (.panic c) a w := by exact fun _ _ _ h => h) (hw : Region.wanted oi (yielded ops a.tmps) = true := by kernel_rfl) : wpAnyH P .any ops Q S (fuel + 1) listed a w :=
 held_take i v hi hs hf hr hQ hw hy hS h
end
section
variable {P : Program} {ops : Array Oper} {Q : Exit → Go.Act → World → Prop} {b : Nat} {w0 : World}
theorem AnyK.tk (i : Nat) (v : Value) {oi : Oper} {fuel : Nat} {listed : Array Bool} {a : Go.Act} {w : World} (hS : Below b w0 w) (hi : ops[i]? = some oi)
 (hy : ∀ W, Below b w0 W → (execOp a.eval oi).run P W = .ok (.value v) W)
 (h : AnyK P ops Q b w0 fuel (listed.setIfInBounds i true) (a.put oi.dst v) w)
 (hs : Region.noSelect ops = true := by kernel_rfl) (hf : Region.free .any ops listed i = true := by kernel_rfl) (hr : (Region.ready .any ops listed).contains i = true := by kernel_rfl)
 (hQ : ∀ c a w, Q (.panic c) (a.put oi.dst v) w → Q (.panic c) a w := by exact fun _ _ _ h => h) (hw : Region.wanted oi (yielded ops a.tmps) = true := by kernel_rfl) : AnyK P ops Q b w0 (fuel + 1) listed a w :=
 AnyK.take i v hS hi hs hf hr hQ hw hy h
theorem AnyK.tm (i : Nat) (v : Value) {oi : Oper} {fuel : Nat} {listed : Array Bool} {a : Go.Act} {w : World} (hS : Below b w0 w) (hi : ops[i]? = some oi)
 (h : AnyK P ops Q b w0 fuel (listed.setIfInBounds i true) (a.put oi.dst v) w)
 (hy : ∀ W, Below b w0 W → (execOp a.eval oi).run P W = .ok (.value v) W := by intros; kernel_rfl)
 (hs : Region.noSelect ops = true := by kernel_rfl) (hf : Region.free .any ops listed i = true := by kernel_rfl) (hr : (Region.ready .any ops listed).contains i = true := by kernel_rfl)
 (hQ : ∀ c a w, Q (.panic c) (a.put oi.dst v) w → Q (.panic c) a w := by exact fun _ _ _ h => h) (hw : Region.wanted oi (yielded ops a.tmps) = true := by kernel_rfl) : AnyK P ops Q b w0 (fuel + 1) listed a w :=
 AnyK.take i v hS hi hs hf hr hQ hw hy h
end
end Go.Proofs.YtgjddkeogboojaaGreatDoor
