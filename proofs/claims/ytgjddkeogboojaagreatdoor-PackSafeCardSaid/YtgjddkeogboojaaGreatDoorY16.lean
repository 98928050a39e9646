/-
  name, Id: an object's name, if it is right. Plain: what layer 5's laws say of what names come to. Plain: what a pack's entries are resolved to, round by round.
-/
import Derived.Laws.IdiomStrings
import Derived.Test.YtgjddkeogboojaaGreatDoorY11
import Derived.Test.YtgjddkeogboojaaGreatDoorY12
import Derived.Test.YtgjddkeogboojaaGreatDoorY01
set_option maxHeartbeats 16000000
set_option maxRecDepth 100000
namespace Go.Proofs.YtgjddkeogboojaaGreatDoor
open Go Go.RowKit Go.Shelf
def headL (k : Int) (d : zB) : zB := kindW k ++ (32 :: (za7 d.length ++ (10 :: d)))
theorem zir (k : Int) : (kindW k).length ≤ 6 := by
 by_cases h : 1 ≤ k ∧ k ≤ 4
 · rcases z3b h.1 h.2 with rfl | rfl | rfl | rfl <;> decide
 · rw [z3e.2 h]; simp
theorem conv_bytes (W : World) (l : zB) : ∃ A c W', (convert 9 23 (.string ⟨l.toArray⟩)).run Tryz.prog W = .ok (.slice A l.length c) W' ∧ Rb W' (.slice A l.length c) l ∧ Below W.heap.size W W' := by
 have hge := grownCap_ge W (⟨l.toArray⟩ : ByteArray).size 0 5;have hsz : (⟨l.toArray⟩ : ByteArray).size = l.length := rfl;refine ⟨_, _, _, run_bytes_of_string W _ _ 5 _ Tryz.underlying9 Tryz.underlying23 Tryz.underlying5, ?_, ?_⟩
 · refine .inr ⟨W.heap.size, 0, _, rfl, by rw [← hsz]; exact hge, by simp, fun j hj => ?_⟩;rw [Nat.zero_add];have h1 := bytesRow_at ⟨l.toArray⟩ (grownCap W (⟨l.toArray⟩ : ByteArray).size 0 5) j (by simpa using hj);have h2 := cell_of_row (W.drew.alloc (.cells (bytesRow ⟨l.toArray⟩ (grownCap W (⟨l.toArray⟩ : ByteArray).size 0 5)) 5 ((bytesRow ⟨l.toArray⟩ (grownCap W (⟨l.toArray⟩ : ByteArray).size 0 5)).size, (bytesRow ⟨l.toArray⟩ (grownCap W (⟨l.toArray⟩ : ByteArray).size 0 5)).size + 1))) W.heap.size j _ _ _ (heap_alloc_new W.drew _);rw [h2, h1, zg, zj hj];simp
 · exact (Below.refl _ _).drew.alloc zl _
theorem name_yes (k : Int) (d : zB) (hs : d.length ≤ 80000) (w : World) (he : Eb w) (ht : Tb w) (hp : Pr w) (l : List (zB × Int)) (h : z0g k d = some l) :
 Calls Tryz.prog 129 #[ObjV k d] w (z06 (.tuple #[SV (z3u (headL k d)), .nilIface]) w) := by
 have B0 := below_new w (.cells #[.int .i64 k, .string ⟨d.toArray⟩] 37);have hw := (z92 k d (by omega) _ (he.below B0) (ht.below B0))
 have hw2 : Calls Tryz.prog 127 #[ObjV k d] (w.alloc (.cells #[.int .i64 k, .string ⟨d.toArray⟩] 37)) fun e w' => (∃ A n c, e = .returned (.tuple #[.slice A n c, .nilIface])) ∧ Below w.heap.size w w' ∧ w'.heap[w.heap.size]? = some (.cells #[.int .i64 k, .string ⟨d.toArray⟩] 37 (0, 0)) := by
  refine hw.mono ?_;intro e w' hh;refine ⟨?_, B0.trans (hh.2.mono B0.size), (hh.2.block _ (by simp)).trans (heap_alloc_new _ _)⟩;rcases hh.ret with ⟨A, n, c, rfl, _⟩ | ⟨_, _, _, _, _, ho⟩
  · exact ⟨A, n, c, rfl⟩
  · rw [h] at ho; cases ho
 have HW := zh hw2;obtain ⟨kw, hkw⟩ := zx (kindW k);obtain ⟨tx, htx⟩ := zx (za7 (d.length : Int));have hk6 : kw.length ≤ 6 := by rw [hkw]; exact zir k
 have ht20 : tx.length ≤ 20 := by rw [htx]; exact zcy (by omega)
 have hall : ((kw ++ [32]) ++ tx ++ [10]) ++ d = headL k d := by rw [hkw, htx]; unfold headL; simp
 have HWd : Hid (∀ W : World, Calls Tryz.prog 142 #[.int .i64 k] W fun e w' => e = .returned (.string ⟨kw.toArray⟩) ∧ W = w') := zh fun W => by rw [hkw]; exact z3k k W
 have HTx : Hid (∀ W : World, Below w.heap.size w W → Calls Tryz.prog 144 #[.int .i64 (d.length : Int)] W fun e w' => e = .returned (.string ⟨tx.toArray⟩) ∧ Below W.heap.size W w') := zh fun W hW => by rw [htx]; exact zgp _ (by omega) (by omega) W (ht.below hW)
 have HNm : Hid (∀ (W : World) (v : Value), Below w.heap.size w W → Rb W v (headL k d) → Calls Tryz.prog 143 #[v] W fun e w' => e = .returned (SV (z3u (headL k d))) ∧ Below W.heap.size W w') := zh fun W v hW hr => Name_any W v _ (hp.below hW hp.lt) (by rw [← hall]; simp; omega) hr;have HAll := zh hall;obtain ⟨p1, h1⟩ := zx (kw ++ [32]);obtain ⟨p2, h2⟩ := zx (p1 ++ tx);obtain ⟨p3, h3⟩ := zx (p2 ++ [10]);obtain ⟨p4, h4⟩ := zx (headL k d);have z1 : p1.length ≤ 7 := by rw [h1]; simp; omega
 have z2 : p2.length ≤ 27 := by rw [h2]; simp; omega
 have z3 : p3.length ≤ 28 := by rw [h3]; simp; omega
 have c1 := z4g kw [32] ⟨p1.toArray⟩ (by rw [h1]) (by omega) (by simp);have c2 := z4g p1 tx ⟨p2.toArray⟩ (by rw [h2]) (by omega) (by omega);have c3 := z4g p2 [10] ⟨p3.toArray⟩ (by rw [h3]) (by omega) (by simp);have c4 := z4g p3 d ⟨p4.toArray⟩ (by rw [h4, h3, h2, h1, hall]) (by omega) (by omega);rw [← h4] at HNm ⊢;have C1 := zh c1; have C2 := zh c2; have C3 := zh c3; have C4 := zh c4;unfold ObjV at HW ⊢;clear he ht hp hw hw2 B0 h hkw htx hall c1 c2 c3 c4 h1 h2 h3 h4 z1 z2 z3 HAll
 go_enter Tryz.func129, Tryz.ntmps129
 go_wp2_with fail
 refine HW.out.mono ?_;rintro e w1 ⟨⟨A, n, c, rfl⟩, hb, hbk⟩;have q0 : ∀ W, Below w1.drew.heap.size w1.drew W → W.cell? ⟨w.heap.size, 0, none⟩ = some (.int .i64 k) := fun W hW => (hW.cell (p := ⟨w.heap.size, 0, none⟩) (lt_heap hbk)).trans (z03 hbk rfl);have q1 : ∀ W, Below w1.drew.heap.size w1.drew W → W.cell? ⟨w.heap.size, 1, none⟩ = some (.string ⟨d.toArray⟩) := fun W hW => (hW.cell (p := ⟨w.heap.size, 1, none⟩) (lt_heap hbk)).trans (z03 hbk rfl);have Q0 := zh q0; have Q1 := zh q1; have HB := zh hb.drew;clear q0 q1 hbk hb
 go_wp2_with fail
 refine AnyB.start (by kernel_rfl) ?_;refine AnyB.take 0 (.pointer (some ⟨w.heap.size, 0, none⟩)) rfl (by kernel_rfl) (by kernel_rfl) (by kernel_rfl) (fun _ _ _ h => h) (by kernel_rfl) (fun W hW => by kernel_rfl) ?_;refine AnyB.take 1 (.int .i64 k) rfl (by kernel_rfl) (by kernel_rfl) (by kernel_rfl) (fun _ _ _ h => h) (by kernel_rfl) (fun W hW => z0f (sv := .pointer (some ⟨w.heap.size, 0, none⟩)) rfl (by kernel_rfl) (by have hW2 := Q0.out W hW; simp [go_sem, hW2])) ?_;refine AnyB.take 4 (.pointer (some ⟨w.heap.size, 1, none⟩)) rfl (by kernel_rfl) (by kernel_rfl) (by kernel_rfl) (fun _ _ _ h => h) (by kernel_rfl) (fun W hW => by kernel_rfl) ?_;refine AnyB.take 5 (.string ⟨d.toArray⟩) rfl (by kernel_rfl) (by kernel_rfl) (by kernel_rfl) (fun _ _ _ h => h) (by kernel_rfl) (fun W hW => z0f (sv := .pointer (some ⟨w.heap.size, 1, none⟩)) rfl (by kernel_rfl) (by have hW2 := Q1.out W hW; simp [go_sem, hW2])) ?_;refine AnyB.take 6 (.int .i64 (d.length : Int)) rfl (by kernel_rfl) (by kernel_rfl) (by kernel_rfl) (fun _ _ _ h => h) (by kernel_rfl) (fun W hW => by kernel_rfl) ?_;refine AnyB.take 10 (.pointer (some ⟨w.heap.size, 1, none⟩)) rfl (by kernel_rfl) (by kernel_rfl) (by kernel_rfl) (fun _ _ _ h => h) (by kernel_rfl) (fun W hW => by kernel_rfl) ?_;refine AnyB.take 11 (.string ⟨d.toArray⟩) rfl (by kernel_rfl) (by kernel_rfl) (by kernel_rfl) (fun _ _ _ h => h) (by kernel_rfl) (fun W hW => z0f (sv := .pointer (some ⟨w.heap.size, 1, none⟩)) rfl (by kernel_rfl) (by have hW2 := Q1.out W hW; simp [go_sem, hW2])) ?_;refine AnyB.call 2 142 #[.int .i64 k] (by kernel_rfl) rfl (by kernel_rfl) (by kernel_rfl) ((HWd.out _).mono ?_);rintro e w2 ⟨rfl, rfl⟩;refine ⟨_, rfl, Below.refl _ _, ?_⟩;refine AnyB.take 3 (.string ⟨p1.toArray⟩) rfl (by kernel_rfl) (by kernel_rfl) (by kernel_rfl) (fun _ _ _ h => h) (by kernel_rfl) (fun W hW => y_bin (x := .string ⟨kw.toArray⟩) (y := .string ⟨#[32]⟩) rfl (by kernel_rfl) (by kernel_rfl) rfl (by have := C1.out W; simp [go_sem, this])) ?_;refine AnyB.call 7 144 #[.int .i64 (d.length : Int)] (by kernel_rfl) rfl (by kernel_rfl) (by kernel_rfl) ((HTx.out _ HB.out).mono ?_);rintro e w2 ⟨rfl, l2⟩;refine ⟨_, rfl, l2, ?_⟩;have L2 := zh (HB.out.trans (l2.mono HB.out.size));refine AnyB.take 8 (.string ⟨p2.toArray⟩) rfl (by kernel_rfl) (by kernel_rfl) (by kernel_rfl) (fun _ _ _ h => h) (by kernel_rfl) (fun W hW => y_bin (x := .string ⟨p1.toArray⟩) (y := .string ⟨tx.toArray⟩) rfl (by kernel_rfl) (by kernel_rfl) rfl (by have := C2.out W; simp only [binOp]; simp [go_sem, this])) ?_;refine AnyB.take 9 (.string ⟨p3.toArray⟩) rfl (by kernel_rfl) (by kernel_rfl) (by kernel_rfl) (fun _ _ _ h => h) (by kernel_rfl) (fun W hW => y_bin (x := .string ⟨p2.toArray⟩) (y := .string ⟨#[10]⟩) rfl (by kernel_rfl) (by kernel_rfl) rfl (by have := C3.out W; simp [go_sem, this])) ?_;refine AnyB.take 12 (.string ⟨p4.toArray⟩) rfl (by kernel_rfl) (by kernel_rfl) (by kernel_rfl) (fun _ _ _ h => h) (by kernel_rfl) (fun W hW => y_bin (x := .string ⟨p3.toArray⟩) (y := .string ⟨d.toArray⟩) rfl (by kernel_rfl) (by kernel_rfl) rfl (by have := C4.out W; simp [go_sem, this])) ?_;obtain ⟨A3, c3, w3, hrun, hr3, l3⟩ := conv_bytes w2 (p4);refine AnyB.op 13 (.slice A3 (p4).length c3) w3 (by kernel_rfl) rfl (by kernel_rfl) (y_conv' (x := .string ⟨p4.toArray⟩) rfl (by kernel_rfl) hrun) l3 ?_;have L3 := zh (L2.out.trans (l3.mono L2.out.size));refine AnyB.call 14 143 #[.slice A3 (p4).length c3] (by kernel_rfl) rfl (by kernel_rfl) (by kernel_rfl) ((HNm.out _ _ L3.out hr3).mono ?_);rintro e w4 ⟨rfl, l4⟩;refine ⟨_, rfl, l4, ?_⟩;have L4 := zh (L3.out.trans (l4.mono L3.out.size));clear hrun hr3 l3 l4 l2;unfold SV;refine AnyB.take 15 (.string ⟨(z3u p4).toArray⟩) rfl (by kernel_rfl) (by kernel_rfl) (by kernel_rfl) (fun _ _ _ h => h) (by kernel_rfl) (fun W hW => by kernel_rfl) ?_;refine AnyB.take 16 .nilIface rfl (by kernel_rfl) (by kernel_rfl) (by kernel_rfl) (fun _ _ _ h => h) (by kernel_rfl) (fun W hW => by kernel_rfl) ?_;refine AnyB.done _ (by kernel_rfl) ?_;go_simp
 go_wp2_with fail
 go_ret2
 exact ⟨rfl, L4.out⟩
def NmNo (w : World) (e : Ending) (w' : World) : Prop := (∃ p, e = .returned (.tuple #[.string ⟨#[]⟩, .iface 232 (.pointer (some p))])) ∧ Below w.heap.size w w'
theorem name_no (k : Int) (d : zB) (hs : d.length ≤ 80000) (w : World) (he : Eb w) (ht : Tb w) (h : z0g k d = none) :
 Calls Tryz.prog 129 #[ObjV k d] w (NmNo w) := by
 have B0 := below_new w (.cells #[.int .i64 k, .string ⟨d.toArray⟩] 37);have hw := (z92 k d (by omega) _ (he.below B0) (ht.below B0))
 have hw2 : Calls Tryz.prog 127 #[ObjV k d] (w.alloc (.cells #[.int .i64 k, .string ⟨d.toArray⟩] 37)) fun e w' => (∃ A n c p, e = .returned (.tuple #[.slice A n c, .iface 232 (.pointer (some p))])) ∧ Below w.heap.size w w' := by
  refine hw.mono ?_;intro e w' hh;refine ⟨?_, B0.trans (hh.2.mono B0.size)⟩;rcases hh.ret with ⟨A, n, c, rfl, l, ho, _⟩ | ⟨A, n, c, p, rfl, _⟩
  · rw [h] at ho; cases ho
  · exact ⟨A, n, c, p, rfl⟩
 have HW := zh hw2;unfold ObjV at HW ⊢;clear he ht hw hw2 B0 h
 go_enter Tryz.func129, Tryz.ntmps129
 go_wp2_with fail
 refine HW.out.mono ?_;rintro e w1 ⟨⟨A, n, c, p, rfl⟩, hb⟩;have HB := zh hb;clear hb
 go_wp2_with fail
 go_ret2
 exact ⟨⟨p, rfl⟩, HB.out⟩
def idL (k : Int) (d : zB) : zB := if (z0g k d).isSome then z3u (headL k d) else []
theorem Id_any (k : Int) (d : zB) (hs : d.length ≤ 80000) (w : World) (he : Eb w) (ht : Tb w) (hp : Pr w) :
 Calls Tryz.prog 120 #[ObjV k d] w (z06 (SV (idL k d)) w) := by
 have B0 := below_new w (.cells #[.int .i64 k, .string ⟨d.toArray⟩] 37);have HB := zh B0;cases h : z0g k d with
 | none =>
   have HN := zh (name_no k d hs _ (he.below B0) (ht.below B0) h);have e0 : idL k d = [] := by unfold idL; rw [h]; rfl
   rw [e0];have HE := zh he;unfold ObjV at HN ⊢;unfold SV;clear he ht hp h e0 B0
   go_enter Tryz.func120, Tryz.ntmps120
   go_wp2_with fail
   refine HN.out.mono ?_;rintro e w1 ⟨⟨p, rfl⟩, l1⟩;have L1 := zh (HB.out.trans (l1.mono HB.out.size));have HT := zh (zex (.string ⟨#[]⟩) (.iface 232 (.pointer (some p))) w1 ⟨p, rfl⟩ (HE.out.below L1.out).er.et);clear l1
   go_wp2_with fail
   refine HT.out.mono ?_;rintro e w2 ⟨rfl, l2⟩
   go_wp2_with fail
   go_ret
   exact ⟨rfl, L1.out.trans (l2.mono L1.out.size)⟩
 | some l =>
   have HN := zh (name_yes k d hs _ (he.below B0) (ht.below B0) (hp.below B0 hp.lt) l h);have e0 : idL k d = z3u (headL k d) := by unfold idL; rw [h]; rfl
   rw [← e0] at HN;obtain ⟨nm, hnm⟩ := zx (idL k d);rw [← hnm] at HN ⊢;unfold ObjV at HN ⊢;unfold SV at HN ⊢;clear he ht hp h e0 hnm B0
   go_enter Tryz.func120, Tryz.ntmps120
   go_wp2_with fail
   refine HN.out.mono ?_;rintro e w1 ⟨rfl, l1⟩;have L1 := zh (HB.out.trans (l1.mono HB.out.size));have HT := zh (zke (.string ⟨nm.toArray⟩) w1);clear l1
   go_wp2_with fail
   refine HT.out.mono ?_;rintro e w2 ⟨rfl, l2⟩
   go_wp2_with fail
   go_ret
   exact ⟨rfl, L1.out.trans (l2.mono L1.out.size)⟩
end Go.Proofs.YtgjddkeogboojaaGreatDoor
namespace Go.Proofs.YtgjddkeogboojaaGreatDoor
structure Hld where
 id : Bs
 kind : Int
 data : Bs
deriving DecidableEq
def z05 : Hld := ⟨[], 0, []⟩
def z0t (l : List Hld) (x : Bs) : Option Hld := l.find? fun h => h.id == x
def thB (l : List Hld) (x : Bs) : Bool := (z0t l x).isSome
def z5t (l : List Hld) (ids : List Bs) : List Hld := l.filter fun h => ids.contains h.id
theorem z3l {l : List Hld} {x : Bs} {h : Hld} (hf : z0t l x = some h) : h.id = x := by
 have := List.find?_some hf; simpa using this
theorem z2r {l : List Hld} {x : Bs} {h : Hld} (hf : z0t l x = some h) : h ∈ l := List.mem_of_find?_eq_some hf
theorem z0r (l m : List Hld) (x : Bs) : z0t (l ++ m) x = (z0t l x).or (z0t m x) := by unfold z0t; rw [List.find?_append]
theorem z13 (h : Hld) (l : List Hld) (x : Bs) : z0t (h :: l) x = if h.id = x then some h else z0t l x := by
 unfold z0t;by_cases e : h.id = x
 · rw [if_pos e, List.find?_cons_of_pos (by simpa using e)]
 · rw [if_neg e, List.find?_cons_of_neg (by simpa using e)]
structure IsSet (src r : List Hld) : Prop where
 rise : r.Pairwise fun x y => x.id < y.id
 mem : ∀ h, h ∈ r ↔ z0t src h.id = some h
theorem IsSet.find {src r : List Hld} (h : IsSet src r) (x : Bs) : z0t r x = z0t src x := by
 cases hs : z0t src x with
 | none =>
   cases hr : z0t r x with
   | none => rfl
   | some z =>
     have h1 := (h.mem z).1 (z2r hr);rw [z3l hr, hs] at h1; cases h1
 | some z =>
   have hz : z ∈ r := (h.mem z).2 (by rw [z3l hs]; exact hs);cases hr : z0t r x with
   | none =>
     have := List.find?_eq_none.1 hr z hz;rw [z3l hs] at this; simp at this
   | some u =>
     have h1 := (h.mem u).1 (z2r hr);rw [z3l hr, hs] at h1;exact h1.symm
theorem IsSet.nil : IsSet [] [] := ⟨List.Pairwise.nil, fun h => by simp [z0t]⟩
def putH : List Hld → Hld → List Hld
 | [], x => [x]
 | y :: l, x => if y.id = x.id then y :: l else if x.id < y.id then x :: y :: l else y :: putH l x
theorem z8g {x z : Hld} : ∀ {l : List Hld}, z ∈ putH l x → z ∈ l ∨ z = x
 | [], h => by simp [putH] at h; exact .inr h
 | y :: l, h => by
   unfold putH at h;by_cases h1 : y.id = x.id
   · rw [if_pos h1] at h; exact .inl h
   · rw [if_neg h1] at h;by_cases h2 : x.id < y.id
     · rw [if_pos h2] at h;rcases List.mem_cons.1 h with h | h
       · exact .inr h
       · exact .inl h
     · rw [if_neg h2] at h;rcases List.mem_cons.1 h with h | h
       · exact .inl (by rw [h]; simp)
       · exact (z8g h).elim (fun h => .inl (List.mem_cons_of_mem _ h)) .inr
theorem zav {x z : Hld} : ∀ {l : List Hld}, z ∈ l → z ∈ putH l x
 | [], h => by cases h
 | y :: l, h => by
   unfold putH;by_cases h1 : y.id = x.id
   · rw [if_pos h1]; exact h
   · rw [if_neg h1];by_cases h2 : x.id < y.id
     · rw [if_pos h2]; exact List.mem_cons_of_mem _ h
     · rw [if_neg h2];rcases List.mem_cons.1 h with h | h
       · rw [h]; simp
       · exact List.mem_cons_of_mem _ (zav h)
theorem zh7 {x : Hld} : ∀ {l : List Hld}, (∀ y ∈ l, y.id ≠ x.id) → x ∈ putH l x
 | [], _ => by simp [putH]
 | y :: l, h => by
   unfold putH;rw [if_neg (h y (by simp))];by_cases h2 : x.id < y.id
   · rw [if_pos h2]; simp
   · rw [if_neg h2]; exact List.mem_cons_of_mem _ (zh7 fun z hz => h z (List.mem_cons_of_mem _ hz))
theorem zh8 {x : Hld} : ∀ {l : List Hld}, l.Pairwise (fun a b => a.id < b.id) → (∃ y ∈ l, y.id = x.id) → putH l x = l
 | [], _, h => by obtain ⟨_, h, _⟩ := h; cases h
 | y :: l, hp, h => by
   have hp' := List.pairwise_cons.1 hp;unfold putH;by_cases h1 : y.id = x.id
   · rw [if_pos h1]
   · obtain ⟨z, hz, hzx⟩ := h;rcases List.mem_cons.1 hz with rfl | hz
     · exact absurd hzx h1
     · rw [if_neg h1, if_neg (fun h2 => by have h3 := hp'.1 z hz; rw [hzx] at h3; exact z4v _ (z76 h2 h3)), zh8 hp'.2 ⟨z, hz, hzx⟩]
theorem zdn {x : Hld} : ∀ {l : List Hld}, l.Pairwise (fun a b => a.id < b.id) → (putH l x).Pairwise fun a b => a.id < b.id
 | [], _ => by simp [putH]
 | y :: l, hp => by
   have hp' := List.pairwise_cons.1 hp;unfold putH;by_cases h1 : y.id = x.id
   · rw [if_pos h1]; exact hp
   · rw [if_neg h1];by_cases h2 : x.id < y.id
     · rw [if_pos h2];refine List.pairwise_cons.2 ⟨fun z hz => ?_, hp⟩;rcases List.mem_cons.1 hz with rfl | hz
       · exact h2
       · exact z76 h2 (hp'.1 z hz)
     · rw [if_neg h2];refine List.pairwise_cons.2 ⟨fun z hz => ?_, zdn hp'.2⟩;rcases z8g hz with hz | rfl
       · exact hp'.1 z hz
       · rcases z33 z.id y.id with h | h | h
         · exact absurd h h2
         · exact absurd h.symm h1
         · exact h
theorem IsSet.put {src r : List Hld} (h : IsSet src r) (x : Hld) : IsSet (src ++ [x]) (putH r x) := by
 refine ⟨zdn h.rise, fun z => ?_⟩;rw [z0r];cases hs : z0t src z.id with
 | some u =>
   rw [Option.some_or];constructor
   · intro hz;rcases z8g hz with hz | rfl
     · rw [← hs]; exact (h.mem z).1 hz
     · have hu : u ∈ r := (h.mem u).2 (by rw [z3l hs]; exact hs);rw [zh8 h.rise ⟨u, hu, z3l hs⟩] at hz;rw [← hs]; exact (h.mem z).1 hz
   · intro e;cases e;exact zav ((h.mem z).2 hs)
 | none =>
   rw [Option.none_or, z13];constructor
   · intro hz;rcases z8g hz with hz | rfl
     · have := (h.mem z).1 hz; rw [hs] at this; cases this
     · rw [if_pos rfl]
   · intro e;by_cases hx : x.id = z.id
     · rw [if_pos hx] at e;cases e
       exact zh7 fun y hy e => by
        have h1 := (h.mem y).1 hy;rw [e, hs] at h1; cases h1
     · rw [if_neg hx] at e; cases e
end Go.Proofs.YtgjddkeogboojaaGreatDoor
namespace Go.Proofs.YtgjddkeogboojaaGreatDoor.Pk
open Go.Proofs.YtgjddkeogboojaaGreatDoor
structure Md where
 th : Bool
 kd : Int
 dt : Bs
 dp : Nat
deriving DecidableEq
def noMd : Md := ⟨false, 0, [], 0⟩
def zab (base d : Bs) : Option Bs := match Dl.applyL base d with
 | none => none
 | some t => if t.length ≤ 65536 then some t else none
def resE (e : Ent) (b : Md) : Except Int Md :=
 if e.kind = 6 ∨ e.kind = 7 then
  if b.th = false then .ok noMd
  else match zab b.dt e.data with
   | none => .error 3
   | some t => if (z0g b.kd t).isSome = true then (if 16 < b.dp + 1 then .error 2 else .ok ⟨true, b.kd, t, b.dp + 1⟩) else .error 3
 else if (z0g e.kind e.data).isSome = true then .ok ⟨true, e.kind, e.data, 0⟩ else .error 3
def hitB (x : Bs) (m : Md) : Bool := m.th && decide (idL m.kd m.dt = x)
def z1g (S : List Md) (x : Bs) : Option Nat := S.findIdx? (hitB x)
def zmi (h : Hld) : Md := ⟨true, h.kind, h.data, 0⟩
def z2s (S : List Md) (hv : List Hld) (j : Nat) (e : Ent) : Md :=
 if e.kind = 6 then S.getD (j - e.back.toNat) noMd
 else match z1g S e.base with
  | some k => S.getD k noMd
  | none => match z0t hv e.base with
    | some h => zmi h
    | none => noMd
def stepE (l : List Ent) (hv : List Hld) (j : Nat) (S : List Md) : Except Int (List Md × Bool) :=
 if (S.getD j noMd).th = true then .ok (S, false) else
 match resE (l.getD j z0p) (z2s S hv j (l.getD j z0p)) with
 | .error n => .error n
 | .ok m => if m.th = true then .ok (S.set j m, true) else .ok (S, false)
def z0o (l : List Ent) (hv : List Hld) : Nat → List Md → Except Int (List Md × Bool)
 | 0, S => .ok (S, false)
 | k + 1, S => match z0o l hv k S with
   | .error n => .error n
   | .ok (S', b) => match stepE l hv k S' with
     | .error n => .error n
     | .ok (S'', c) => .ok (S'', b || c)
def zfm (S : List Md) : Bool := S.all fun m => m.th
def endE (S : List Md) : Except Int (List Md) := if zfm S = true then .ok S else .error 51
def allE (l : List Ent) (hv : List Hld) : Nat → List Md → Except Int (List Md)
 | 0, S => .ok S
 | f + 1, S => match z0o l hv l.length S with
   | .error n => .error n
   | .ok (S', true) => allE l hv f S'
   | .ok (S', false) => endE S'
def z1b (l : List Ent) : List Md := List.replicate l.length noMd
def z0n (l : List Ent) (hv : List Hld) : Except Int (List Md) := if rightL l = true then allE l hv (l.length + 1) (z1b l) else .error 1
def left (S : List Md) : Nat := S.countP fun m => !m.th
theorem z9a (l : List Ent) : left (z1b l) = l.length := by
 unfold left z1b;rw [List.countP_replicate];rfl
theorem getD_lt {α : Type} {l : List α} {j : Nat} (h : j < l.length) (d : α) : l.getD j d = l[j] := by
 rw [zg, zj h]; rfl
theorem zh9 {S : List Md} {j : Nat} {m : Md} (hj : j < S.length) (h0 : (S.getD j noMd).th = false) (h1 : m.th = true) : left (S.set j m) + 1 = left S := by
 rw [getD_lt hj] at h0;unfold left;rw [List.countP_set hj];have h2 : (fun m : Md => !m.th) S[j] = true := by simp [h0]
 have h3 : ¬ (fun m : Md => !m.th) m = true := by simp [h1]
 have h4 : 0 < List.countP (fun m : Md => !m.th) S := List.countP_pos_iff.2 ⟨S[j], List.getElem_mem hj, h2⟩;rw [if_pos h2, if_neg h3];omega
theorem z8h {S : List Md} {j k : Nat} {m : Md} (hj : j < S.length) : (S.set j m).getD k noMd = if k = j then m else S.getD k noMd := by
 rw [zg, zg, List.getElem?_set];by_cases e : j = k
 · rw [if_pos e, if_pos hj, if_pos e.symm]; rfl
 · rw [if_neg e, if_neg (fun h => e h.symm)]
theorem zmj {l : List Ent} {hv : List Hld} {j : Nat} {S S' : List Md} {b : Bool} (h : stepE l hv j S = .ok (S', b)) :
 (b = false ∧ S' = S) ∨ (b = true ∧ (S.getD j noMd).th = false ∧ ∃ m, m.th = true ∧ S' = S.set j m ∧ resE (l.getD j z0p) (z2s S hv j (l.getD j z0p)) = .ok m) := by
 unfold stepE at h;by_cases h0 : (S.getD j noMd).th = true
 · rw [if_pos h0] at h;cases h;exact .inl ⟨rfl, rfl⟩
 · rw [if_neg h0] at h;cases hr : resE (l.getD j z0p) (z2s S hv j (l.getD j z0p)) with
   | error n => rw [hr] at h; cases h
   | ok m =>
     rw [hr] at h;simp only at h;by_cases hm : m.th = true
     · rw [if_pos hm] at h;cases h;exact .inr ⟨rfl, by simpa using h0, m, hm, rfl, rfl⟩
     · rw [if_neg hm] at h;cases h;exact .inl ⟨rfl, rfl⟩
theorem z4j {l : List Ent} {hv : List Hld} (P : List Md → Prop) (hstep : ∀ (j : Nat) (S : List Md) (m : Md), P S → j < S.length → (S.getD j noMd).th = false → m.th = true → resE (l.getD j z0p) (z2s S hv j (l.getD j z0p)) = .ok m → P (S.set j m)) :
 ∀ (k : Nat) (S S' : List Md) (b : Bool), P S → k ≤ S.length → z0o l hv k S = .ok (S', b) → P S' ∧ S'.length = S.length ∧ left S' ≤ left S ∧ (b = true → left S' < left S) ∧ (b = false → S' = S)
 | 0, S, S', b, hp, _, h => by
   unfold z0o at h;cases h;exact ⟨hp, rfl, Nat.le_refl _, (fun h => by cases h), fun _ => rfl⟩
 | k + 1, S, S', b, hp, hk, h => by
   unfold z0o at h;cases hr : z0o l hv k S with
   | error n => rw [hr] at h; cases h
   | ok p =>
     obtain ⟨S1, b1⟩ := p;rw [hr] at h;simp only at h;obtain ⟨p1, p2, p3, p4, p5⟩ := z4j P hstep k S S1 b1 hp (by omega) hr;cases hs : stepE l hv k S1 with
     | error n => rw [hs] at h; cases h
     | ok q =>
       obtain ⟨S2, b2⟩ := q;rw [hs] at h;simp only at h;cases h;rcases zmj hs with ⟨rfl, rfl⟩ | ⟨rfl, h0, m, hm, rfl, hre⟩
       · exact ⟨p1, p2, p3, by simpa using p4, by simpa using p5⟩
       · have := zh9 (by omega) h0 hm;exact ⟨hstep k S1 m p1 (by omega) h0 hm hre, by rw [List.length_set]; exact p2, by omega, fun _ => by omega, by simp⟩
theorem z9b {l : List Ent} {hv : List Hld} {k : Nat} {S S' : List Md} {b : Bool} (hk : k ≤ S.length) (h : z0o l hv k S = .ok (S', b)) : S'.length = S.length ∧ left S' ≤ left S ∧ (b = true → left S' < left S) ∧ (b = false → S' = S) :=
 (z4j (fun _ => True) (fun _ _ _ _ _ _ _ _ => trivial) k S S' b trivial hk h).2
theorem zha {l : List Ent} {hv : List Hld} : ∀ (f g : Nat) (S : List Md), S.length = l.length → left S < f → left S < g → allE l hv f S = allE l hv g S
 | 0, _, S, _, h, _ => by omega
 | _ + 1, 0, S, _, _, h => by omega
 | f + 1, g + 1, S, hl, hf, hg => by
   unfold allE;cases hr : z0o l hv l.length S with
   | error n => rfl
   | ok p =>
     obtain ⟨S', b⟩ := p;obtain ⟨h1, h2, h3, _⟩ := z9b (by omega) hr;cases b with
     | false => rfl
     | true =>
       simp only;have := h3 rfl;exact zha f g S' (by omega) (by omega) (by omega)
def goE (l : List Ent) (hv : List Hld) (S : List Md) : Except Int (List Md) := allE l hv (left S + 1) S
theorem zby {l : List Ent} {hv : List Hld} : goE l hv (z1b l) = allE l hv (l.length + 1) (z1b l) := by unfold goE; rw [z9a]
theorem go_step {l : List Ent} {hv : List Hld} {S : List Md} (hl : S.length = l.length) : goE l hv S = match z0o l hv l.length S with
 | .error n => .error n
 | .ok (S', true) => goE l hv S'
 | .ok (S', false) => endE S' := by
 unfold goE;rw [allE];cases hr : z0o l hv l.length S with
 | error n => rfl
 | ok p =>
   obtain ⟨S', b⟩ := p;obtain ⟨h1, h2, h3, _⟩ := z9b (by omega) hr;cases b with
   | false => rfl
   | true =>
     simp only;have := h3 rfl;exact zha _ _ S' (by omega) (by omega) (by omega)
theorem go_keeps {l : List Ent} {hv : List Hld} (P : List Md → Prop) (hstep : ∀ (j : Nat) (S : List Md) (m : Md), P S → j < S.length → (S.getD j noMd).th = false → m.th = true → resE (l.getD j z0p) (z2s S hv j (l.getD j z0p)) = .ok m → P (S.set j m)) :
 ∀ (n : Nat) (S R : List Md), left S ≤ n → S.length = l.length → P S → goE l hv S = .ok R → P R ∧ R.length = l.length ∧ zfm R = true := by
 intro n
 induction n with
 | zero =>
   intro S R hn hl hp h;rw [go_step hl] at h;cases hr : z0o l hv l.length S with
   | error n => rw [hr] at h; cases h
   | ok p =>
     obtain ⟨S', b⟩ := p;obtain ⟨h0, h1, h2, h3, _⟩ := z4j P hstep _ S S' b hp (by omega) hr;rw [hr] at h;cases b with
     | true => have := h3 rfl; omega
     | false =>
       simp only at h;unfold endE at h;split at h
       · cases h; exact ⟨h0, by omega, by assumption⟩
       · cases h
 | succ n ih =>
   intro S R hn hl hp h;rw [go_step hl] at h;cases hr : z0o l hv l.length S with
   | error n => rw [hr] at h; cases h
   | ok p =>
     obtain ⟨S', b⟩ := p;obtain ⟨h0, h1, h2, h3, _⟩ := z4j P hstep _ S S' b hp (by omega) hr;rw [hr] at h;cases b with
     | true => have := h3 rfl; exact ih S' R (by omega) (by omega) h0 h
     | false =>
       simp only at h;unfold endE at h;split at h
       · cases h; exact ⟨h0, by omega, by assumption⟩
       · cases h
theorem zmk (l : List Ent) (j : Nat) : ((z1b l).getD j noMd).th = false := by
 unfold z1b;rw [zg, List.getElem?_replicate];split <;> rfl
def RowS (l : List Ent) (hv : List Hld) (T : List Md) (k : Nat) : Prop := ∀ j, j < k → (T.getD j noMd).th = true ∧ resE (l.getD j z0p) (z2s (T.take j ++ List.replicate (l.length - j) noMd) hv j (l.getD j z0p)) = .ok (T.getD j noMd)
theorem zdo {l : List Ent} {hv : List Hld} {T : List Md} : ∀ (k : Nat), k ≤ T.length → k ≤ l.length → RowS l hv T k → z0o l hv k (z1b l) = .ok (T.take k ++ List.replicate (l.length - k) noMd, decide (0 < k))
 | 0, _, _, _ => by
   unfold z0o z1b;simp
 | k + 1, hT, hk, h => by
   unfold z0o;rw [zdo k (by omega) (by omega) fun j hj => h j (by omega)];simp only;obtain ⟨h1, h2⟩ := h k (by omega);have hlen : (T.take k).length = k := by rw [List.length_take]; omega
   have h0 : ((T.take k ++ List.replicate (l.length - k) noMd).getD k noMd).th = false := by
    rw [zg, List.getElem?_append_right (by omega), List.getElem?_replicate];split <;> rfl
   unfold stepE;rw [h0, if_neg (by simp), h2];simp only;rw [h1, if_pos rfl];simp only [Except.ok.injEq, Prod.mk.injEq];refine ⟨?_, by simp⟩;rw [List.set_append_right _ _ (by omega), hlen, Nat.sub_self];obtain ⟨n, hn⟩ : ∃ n, l.length - k = n + 1 := ⟨l.length - k - 1, by omega⟩
   rw [hn, List.replicate_succ, List.set_cons_zero, show l.length - (k + 1) = n by omega, List.take_add_one, List.append_assoc]
   congr 1
   rw [zj (by omega), getD_lt (by omega)];rfl
theorem zml {l : List Ent} {hv : List Hld} {S : List Md} (h : zfm S = true) {k : Nat} (hk : k < S.length) : stepE l hv k S = .ok (S, false) := by
 unfold stepE
 have : (S.getD k noMd).th = true := by
  rw [getD_lt hk];exact List.all_eq_true.1 h _ (List.getElem_mem hk)
 rw [if_pos this]
theorem zaw {l : List Ent} {hv : List Hld} {S : List Md} (h : zfm S = true) : ∀ (k : Nat), k ≤ S.length → z0o l hv k S = .ok (S, false)
 | 0, _ => rfl
 | k + 1, hk => by
   unfold z0o;rw [zaw h k (by omega)];simp only;rw [zml h (by omega)];rfl
theorem zfn {l : List Ent} {hv : List Hld} {T : List Md} (hr : rightL l = true) (hl : T.length = l.length) (h : RowS l hv T l.length) : z0n l hv = .ok T := by
 unfold z0n;rw [if_pos hr, ← zby]
 have hall : zfm T = true := List.all_eq_true.2 fun m hm => by
  obtain ⟨j, hj, rfl⟩ := List.mem_iff_getElem.1 hm;have := (h j (by omega)).1;rw [getD_lt hj] at this;exact this
 have hend : goE l hv T = .ok T := by
  rw [go_step hl, zaw hall _ (by omega)];simp only;unfold endE;rw [if_pos hall]
 rw [go_step (by unfold z1b; simp), zdo l.length (by omega) zl h];rw [Nat.sub_self, List.replicate_zero, List.append_nil, List.take_of_length_le (by omega)];cases hd : decide (0 < l.length) with
 | true => simp only; exact hend
 | false =>
   simp only;unfold endE;rw [if_pos hall]
theorem z9c {l : List Ent} {hv : List Hld} {n : Int} : ∀ {k : Nat} {S : List Md} (d : Nat), z0o l hv k S = .error n → z0o l hv (k + d) S = .error n
 | _, _, 0, h => h
 | k, S, d + 1, h => by
   have := z9c d h;show z0o l hv (k + d + 1) S = .error n;rw [z0o, this]
theorem z2j {S : List Md} {x : Bs} {k : Nat} : z1g S x = some k ↔ k < S.length ∧ hitB x (S.getD k noMd) = true ∧ ∀ i, i < k → hitB x (S.getD i noMd) = false := by
 unfold z1g;rw [List.findIdx?_eq_some_iff_getElem];constructor
 · rintro ⟨h, h1, h2⟩;refine ⟨h, by rw [getD_lt h]; exact h1, fun i hi => ?_⟩;have := h2 i hi;rw [getD_lt (by omega)];simpa using this
 · rintro ⟨h, h1, h2⟩;refine ⟨h, by rw [getD_lt h] at h1; exact h1, fun i hi => ?_⟩;have := h2 i hi;rw [getD_lt (by omega)] at this;simpa using this
theorem z5n {S : List Md} {x : Bs} : z1g S x = none ↔ ∀ i, i < S.length → hitB x (S.getD i noMd) = false := by
 unfold z1g;rw [List.findIdx?_eq_none_iff];constructor
 · intro h i hi;rw [getD_lt hi];exact h _ (List.getElem_mem hi)
 · intro h m hm;obtain ⟨i, hi, rfl⟩ := List.mem_iff_getElem.1 hm;have := h i hi;rw [getD_lt hi] at this;exact this
def putF (f : Option Nat) (j : Nat) : Option Nat := match f with
 | some k => if j < k then some j else some k
 | none => some j
theorem zdp {S : List Md} {j : Nat} {m : Md} (hj : j < S.length) (h0 : (S.getD j noMd).th = false) (hm : m.th = true) (x : Bs) :
 z1g (S.set j m) x = if x = idL m.kd m.dt then putF (z1g S x) j else z1g S x := by
 have hg : ∀ i, hitB x ((S.set j m).getD i noMd) = if i = j then decide (idL m.kd m.dt = x) else hitB x (S.getD i noMd) := fun i => by
  rw [z8h hj];by_cases e : i = j
  · rw [if_pos e, if_pos e]; unfold hitB; rw [hm, Bool.true_and]
  · rw [if_neg e, if_neg e]
 have hj0 : hitB x (S.getD j noMd) = false := by unfold hitB; rw [h0, Bool.false_and]
 by_cases e : x = idL m.kd m.dt
 · have ed : decide (idL m.kd m.dt = x) = true := by rw [decide_eq_true_eq]; exact e.symm
   rw [if_pos e];rw [ed] at hg;cases hf : z1g S x with
   | none =>
     have h1 := z5n.1 hf;refine z2j.2 ⟨by rw [List.length_set]; exact hj, by rw [hg, if_pos rfl], fun i hi => ?_⟩;rw [hg, if_neg (by omega)];exact h1 i (by omega)
   | some k =>
     obtain ⟨h1, h2, h3⟩ := z2j.1 hf;have hne : k ≠ j := fun h => by rw [h, hj0] at h2; cases h2
     unfold putF;simp only;by_cases hjk : j < k
     · rw [if_pos hjk];refine z2j.2 ⟨by rw [List.length_set]; exact hj, by rw [hg, if_pos rfl], fun i hi => ?_⟩;rw [hg, if_neg (by omega)];exact h3 i (by omega)
     · rw [if_neg hjk];refine z2j.2 ⟨by rw [List.length_set]; exact h1, by rw [hg, if_neg hne]; exact h2, fun i hi => ?_⟩;rw [hg, if_neg (by omega)];exact h3 i hi
 · have ed : decide (idL m.kd m.dt = x) = false := by rw [decide_eq_false_iff_not]; exact fun h => e h.symm
   rw [if_neg e];rw [ed] at hg
   have hg2 : ∀ i, hitB x ((S.set j m).getD i noMd) = hitB x (S.getD i noMd) := fun i => by
    rw [hg];by_cases e : i = j
    · rw [if_pos e, e, hj0]
    · rw [if_neg e]
   cases hf : z1g S x with
   | none =>
     have h1 := z5n.1 hf;refine z5n.2 fun i hi => ?_;rw [List.length_set] at hi;rw [hg2];exact h1 i hi
   | some k =>
     obtain ⟨h1, h2, h3⟩ := z2j.1 hf;refine z2j.2 ⟨by rw [List.length_set]; exact h1, by rw [hg2]; exact h2, fun i hi => ?_⟩;rw [hg2];exact h3 i hi
theorem z9d (l : List Ent) (x : Bs) : z1g (z1b l) x = none := z5n.2 fun i _ => by unfold hitB; rw [zmk, Bool.false_and]
def SafeM (e : Ent) (m : Md) : Prop := m.th = true → (z0g m.kd m.dt).isSome = true ∧ m.dp ≤ 16 ∧ (m.dp = 0 ↔ ¬ (e.kind = 6 ∨ e.kind = 7)) ∧ (e.kind ≠ 6 → e.kind ≠ 7 → m.kd = e.kind ∧ m.dt = e.data)
theorem zhb {e : Ent} {b m : Md} (h : resE e b = .ok m) : SafeM e m := by
 intro hm;unfold resE at h;by_cases hk : e.kind = 6 ∨ e.kind = 7
 · rw [if_pos hk] at h;split at h
   · cases h; cases hm
   · cases ht : zab b.dt e.data with
     | none => rw [ht] at h; cases h
     | some t =>
       rw [ht] at h;simp only at h;split at h
       · split at h
         · cases h
         · cases h;rename_i h1 h2;exact ⟨h1, by simp only; omega, ⟨fun h => by simp at h, fun h => absurd hk h⟩, fun h1 h2 => (hk.elim h1 h2).elim⟩
       · cases h
 · rw [if_neg hk] at h;split at h
   · cases h;rename_i h1;exact ⟨h1, by simp only; omega, ⟨fun _ => hk, fun _ => rfl⟩, fun _ _ => ⟨rfl, rfl⟩⟩
   · cases h
theorem zdq {l : List Ent} {hv : List Hld} {R : List Md} (h : z0n l hv = .ok R) : rightL l = true ∧ R.length = l.length ∧ ∀ j, j < l.length → (R.getD j noMd).th = true ∧ SafeM (l.getD j z0p) (R.getD j noMd) := by
 unfold z0n at h;by_cases hr : rightL l = true
 · rw [if_pos hr, ← zby] at h
   obtain ⟨h1, h2, h3⟩ := go_keeps (fun S => ∀ j, j < l.length → SafeM (l.getD j z0p) (S.getD j noMd)) (fun j S m hp hj _ _ hre i hi => by
    rw [z8h hj];by_cases e : i = j
    · rw [if_pos e, e]; exact zhb hre
    · rw [if_neg e]; exact hp i hi) _ (z1b l) R zl (by unfold z1b; simp) (fun j _ hm => by rw [zmk] at hm; cases hm) h
   refine ⟨hr, h2, fun j hj => ⟨?_, h1 j hj⟩⟩;rw [getD_lt (by omega)];exact List.all_eq_true.1 h3 _ (List.getElem_mem (by omega))
 · rw [if_neg hr] at h; cases h
theorem z6p {l : List Ent} {hv : List Hld} (h : rightL l = false) : z0n l hv = .error 1 := by unfold z0n; rw [h]; rfl
end Go.Proofs.YtgjddkeogboojaaGreatDoor.Pk
