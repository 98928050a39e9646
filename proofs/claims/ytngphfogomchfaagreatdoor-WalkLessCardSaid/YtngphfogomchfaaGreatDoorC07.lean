/-
  read: steps, one behind the other.
  errors.Is at a fault, made of errWrong or of errOther.
-/
import Derived.Test.YtngphfogomchfaaGreatDoorC06
import Derived.LaidEql
import Derived.Stop.Asserts
import Derived.Test.YtngphfogomchfaaGreatDoorC05

namespace Go.Proofs.YtngphfogomchfaaGreatDoor
open Go Go.RowKit Go.Shelf
/-- What a step comes to: what is left, and nothing; or an error. -/
def StepPost (Q : List UInt8 → World → Prop) (F : Value → World → Prop) (e : Ending) (w' : World) : Prop :=
  (∃ s', e = .returned (.tuple #[SV s', .nilIface]) ∧ Q s' w') ∨ (∃ s' p, e = .returned (.tuple #[.string s', .iface 134 (.pointer (some p))]) ∧ F (.iface 134 (.pointer (some p))) w')
set_option maxRecDepth 100000 in
set_option maxHeartbeats 2000000 in
theorem read_gen (n c blk : Nat) (hn : n ≤ 100) (gs : Nat → FuncId) (lbs : Nat → Array Value) (P : Nat → List UInt8 → World → Prop) (F : Value → World → Prop)
    (hcell : ∀ i s W, i < n → P i s W → W.cell? ⟨blk, 0 + i, none⟩ = some (.func (.func (gs i)) #[] (lbs i)))
    (hen : ∀ i, i < n → ∀ args w, (callFunc (gs i) args).run Tryz.prog w = .ok (.enter (gs i) args) w)
    (hstep : ∀ i s W, i < n → P i s W → Calls Tryz.prog (gs i) (#[.string ⟨s.toArray⟩] ++ lbs i) W (StepPost (P (i + 1)) F))
    (s : List UInt8) (W : World) (h0 : P 0 s W) :
    Calls Tryz.prog 140 #[.string ⟨s.toArray⟩, .slice (some ⟨blk, 0, none⟩) n c] W (StepPost (P n) F) := by
  have HC := Lib.hid hcell; have HE := Lib.hid hen; have HS := Lib.hid hstep; have H0 := Lib.hid h0
  clear hcell hen hstep h0
  go_enter Tryz.func140, Tryz.ntmps140
  go_wp2_with fail
  go_loopw [0, 12] (fun vs vi wr => ∃ (k : Nat) (r : List UInt8), k ≤ n ∧ vi = .int .i64 k ∧ vs = .string ⟨r.toArray⟩ ∧ Hid (P k r wr)) (fun _ vi _ => n - (intOf vi).toNat)
  case atStart => exact ⟨0, s, Nat.zero_le _, rfl, rfl, H0⟩
  case round =>
    obtain ⟨k, r, hk, rfl, rfl, hP⟩ := hrel
    by_cases hlt : k < n
    · have c0 := HC.out k r wr hlt hP.out
      have eg := HE.out k hlt
      have hst := HS.out k r wr hlt hP.out
      obtain ⟨g, hg⟩ : ∃ g, g = gs k := ⟨_, rfl⟩
      obtain ⟨lb, hlb⟩ : ∃ lb, lb = lbs k := ⟨_, rfl⟩
      rw [← hg] at c0 eg hst
      rw [← hlb] at c0 hst
      have HS1 := Lib.hid hst
      clear hst hg hlb
      rw [Nat.zero_add] at c0
      go_wp2_with fail
      refine HS1.out.mono ?_
      rintro e w1 (⟨s', rfl, hP1⟩ | ⟨s', p, rfl, hF⟩)
      · have HP1 := Lib.hid hP1
        unfold SV
        clear hP1
        go_wp2_with fail
        go_roundw
        case rel => exact ⟨k + 1, s', by omega, by go_num, rfl, HP1⟩
        case measure => simp [intOf]; omega
      · have HF := Lib.hid hF
        clear hF
        go_wp2_with fail
        go_ret2
        exact .inr ⟨_, p, rfl, HF.out⟩
    · obtain rfl : k = n := by omega
      go_wp2_with fail
      go_ret2
      exact .inl ⟨r, rfl, hP.out⟩
/-- Cell o of block tb is turned to x, and nothing else that lay there. -/
def Turned (w w' : World) (tb o : Nat) (x : Value) : Prop :=
  w.grownBy w' (some tb) ∧ ∀ cs t, w.heap[tb]? = some (.cells cs t (0, 0)) → w'.heap[tb]? = some (.cells (cs.setIfInBounds o x) t (0, 0))
theorem turned_set (w : World) (n : Nat) (tb o : Nat) (x : Value) : Turned w ((w.drewN n).setCell ⟨tb, o, none⟩ x) tb o x :=
  ⟨⟨rfl, rfl, rfl, by simp [World.setCell], fun k _ hk => Below.heap_setCell _ _ _ _ (fun e => hk (by rw [e]))⟩, fun cs t h => by
    simp [World.setCell, Array.getElem?_modify, World.drewN, h]⟩
theorem Turned.alloc {w w' : World} {tb o : Nat} {x : Value} (h : Turned w w' tb o x) (ob : Obj) : Turned w (w'.alloc ob) tb o x :=
  ⟨grown_alloc h.1 ob, fun cs t hc => by
    have := h.2 cs t hc
    rw [Below.heap_alloc _ _ _ (lt_heap this)]; exact this⟩
theorem prefix_drop (p s : List UInt8) (h : p.isPrefixOf s = true) : Lib.trimPrefix s p = s.drop p.length := by
  unfold Lib.trimPrefix Lib.hasPrefix; rw [if_pos h]
theorem prefix_none (p s : List UInt8) (h : p.isPrefixOf s = false) : Lib.trimPrefix s p = s := by
  unfold Lib.trimPrefix Lib.hasPrefix; rw [if_neg (by rw [h]; simp)]
set_option maxRecDepth 100000 in
set_option maxHeartbeats 1000000 in
theorem past_yes (s word : List UInt8) (b : Nat) (w : World) (hb : w.cell? ⟨b, 0, none⟩ = some (.string ⟨word.toArray⟩)) (he : Er w) (h : word.isPrefixOf s = true) :
    Calls Tryz.prog 161 #[.string ⟨s.toArray⟩, .pointer (some ⟨b, 0, none⟩)] w fun e w' => e = .returned (.tuple #[SV (s.drop word.length), .nilIface]) ∧ w = w' := by
  have hc := Any.strings_CutPrefix Tryz.cutpA ⟨s.toArray⟩ ⟨word.toArray⟩ w
  have e1 : Lib.trimPrefix (⟨s.toArray⟩ : ByteArray).data.toList (⟨word.toArray⟩ : ByteArray).data.toList = s.drop word.length := prefix_drop word s h
  have e2 : Lib.hasPrefix (⟨s.toArray⟩ : ByteArray).data.toList (⟨word.toArray⟩ : ByteArray).data.toList = true := h
  rw [e1, e2] at hc
  obtain ⟨a, b2, _, _, c3⟩ := he.two
  have H := Lib.hid hc
  have N := Lib.hid (fun pe => need_yes (.string ⟨word.toArray⟩) pe w)
  unfold SV
  clear hc e1 e2 he h
  go_enter Tryz.func161, Tryz.ntmps161
  go_wp2_with fail
  refine H.out.mono ?_
  rintro e w' ⟨rfl, rfl⟩
  go_wp2_with fail
  refine (N.out _).mono ?_
  rintro e w' ⟨rfl, rfl⟩
  go_wp2_with fail
  go_ret2
  exact ⟨rfl, rfl⟩
set_option maxRecDepth 100000 in
set_option maxHeartbeats 1000000 in
theorem past_no (s word : List UInt8) (b : Nat) (w : World) (hb : w.cell? ⟨b, 0, none⟩ = some (.string ⟨word.toArray⟩)) (pe : Value) (c3 : w.cell? ⟨5, 0, none⟩ = some (.iface 266 pe)) (h : word.isPrefixOf s = false) :
    Calls Tryz.prog 161 #[.string ⟨s.toArray⟩, .pointer (some ⟨b, 0, none⟩)] w fun e w' => e = .returned (.tuple #[.string ⟨s.toArray⟩, .iface 134 (.pointer (some ⟨w.heap.size, 0, none⟩))]) ∧ w.alloc (.cells #[.string ⟨word.toArray⟩, .iface 266 pe] 144) = w' := by
  have hc := Any.strings_CutPrefix Tryz.cutpA ⟨s.toArray⟩ ⟨word.toArray⟩ w
  have e1 : Lib.trimPrefix (⟨s.toArray⟩ : ByteArray).data.toList (⟨word.toArray⟩ : ByteArray).data.toList = s := prefix_none word s h
  have e2 : Lib.hasPrefix (⟨s.toArray⟩ : ByteArray).data.toList (⟨word.toArray⟩ : ByteArray).data.toList = false := h
  rw [e1, e2] at hc
  have H := Lib.hid hc
  have N := Lib.hid (need_no ⟨word.toArray⟩ 266 pe w)
  clear hc e1 e2 h
  go_enter Tryz.func161, Tryz.ntmps161
  go_wp2_with fail
  refine H.out.mono ?_
  rintro e w' ⟨rfl, rfl⟩
  go_wp2_with fail
  refine N.out.mono ?_
  rintro e w' ⟨rfl, rfl⟩
  go_wp2_with fail
  go_ret2
  exact ⟨rfl, rfl⟩
set_option maxRecDepth 100000 in
set_option maxHeartbeats 1000000 in
theorem until_yes (s a r : List UInt8) (hs : s.length ≤ 1000000) (c : UInt8) (b1 b2 tb o : Nat) (old : Value) (w : World) (h1 : w.cell? ⟨b1, 0, none⟩ = some (.string ⟨#[c]⟩)) (h2 : w.cell? ⟨b2, 0, none⟩ = some (.pointer (some ⟨tb, o, none⟩)))
    (h3 : w.cell? ⟨tb, o, none⟩ = some old) (h4 : w.frozen? ⟨tb, o, none⟩ = false) (he : Er w) (hg : 1 ≠ tb) (hc : cutAt c s = some (a, r)) :
    Calls Tryz.prog 174 #[.string ⟨s.toArray⟩, .pointer (some ⟨b1, 0, none⟩), .pointer (some ⟨b2, 0, none⟩)] w fun e w' => e = .returned (.tuple #[SV r, .nilIface]) ∧ Turned w w' tb o (SV a) := by
  have hcut := Cut_any s hs c w
  rw [hc] at hcut
  obtain ⟨ew, c1⟩ := he.wrong
  unfold cutV SV at hcut
  have H := Lib.hid hcut
  have c2 : ∀ n, (((w.drewN n).setCell ⟨tb, o, none⟩ (.string ⟨a.toArray⟩)).cell? ⟨1, 0, none⟩) = some (.iface 266 (.pointer (some ew))) := fun n => by
    rw [World.cell?_setCell_far _ _ _ _ (fun e => hg e.symm)]; exact c1
  have N := Lib.hid (fun W => need_yes (.string ⟨#[101, 110, 100]⟩) (.iface 266 (.pointer (some ew))) W)
  unfold SV
  clear hcut hc he hs hg
  go_enter Tryz.func174, Tryz.ntmps174
  go_wp2_with fail
  refine H.out.mono ?_
  rintro e w' ⟨rfl, n, rfl⟩
  have cn := c2 n
  go_wp2_with fail
  refine (N.out _).mono ?_
  rintro e w' ⟨rfl, rfl⟩
  go_wp2_with fail
  go_ret2
  exact ⟨rfl, turned_set w n tb o _⟩
set_option maxRecDepth 100000 in
set_option maxHeartbeats 1000000 in
theorem until_no (s : List UInt8) (hs : s.length ≤ 1000000) (c : UInt8) (b1 b2 tb o : Nat) (old : Value) (w : World) (h1 : w.cell? ⟨b1, 0, none⟩ = some (.string ⟨#[c]⟩)) (h2 : w.cell? ⟨b2, 0, none⟩ = some (.pointer (some ⟨tb, o, none⟩)))
    (h3 : w.cell? ⟨tb, o, none⟩ = some old) (h4 : w.frozen? ⟨tb, o, none⟩ = false) (ew : Addr) (c1 : w.cell? ⟨1, 0, none⟩ = some (.iface 266 (.pointer (some ew)))) (hg : 1 ≠ tb) (hc : cutAt c s = none) :
    Calls Tryz.prog 174 #[.string ⟨s.toArray⟩, .pointer (some ⟨b1, 0, none⟩), .pointer (some ⟨b2, 0, none⟩)] w fun e w' => e = .returned (.tuple #[.string ⟨#[]⟩, .iface 134 (.pointer (some ⟨w.heap.size, 0, none⟩))]) ∧ Turned w w' tb o (SV s) ∧ w'.heap[w.heap.size]? = some (.cells #[.string ⟨#[101, 110, 100]⟩, .iface 266 (.pointer (some ew))] 144 (0, 0)) := by
  have hcut := Cut_any s hs c w
  rw [hc] at hcut
  unfold cutV SV at hcut
  have H := Lib.hid hcut
  have c2 : ∀ n, (((w.drewN n).setCell ⟨tb, o, none⟩ (.string ⟨s.toArray⟩)).cell? ⟨1, 0, none⟩) = some (.iface 266 (.pointer (some ew))) := fun n => by
    rw [World.cell?_setCell_far _ _ _ _ (fun e => hg e.symm)]; exact c1
  have N := Lib.hid (fun W => need_no ⟨#[101, 110, 100]⟩ 266 (.pointer (some ew)) W)
  unfold SV
  clear hcut hc hs hg
  go_enter Tryz.func174, Tryz.ntmps174
  go_wp2_with fail
  refine H.out.mono ?_
  rintro e w' ⟨rfl, n, rfl⟩
  have cn := c2 n
  have hz : (((w.drewN n).setCell ⟨tb, o, none⟩ (.string ⟨s.toArray⟩))).heap.size = w.heap.size := by simp [World.setCell, World.drewN]
  have HZ := Lib.hid hz
  clear hz
  go_wp2_with fail
  refine (N.out _).mono ?_
  rintro e w' ⟨rfl, rfl⟩
  go_wp2_with fail
  go_ret2
  exact ⟨rfl, (turned_set w n tb o _).alloc _, by rw [← HZ.out]; exact heap_alloc_new _ _⟩
theorem turned_drew' (w : World) (tb o : Nat) (x : Value) : Turned w (w.setCell ⟨tb, o, none⟩ x).drew tb o x :=
  ⟨⟨rfl, rfl, rfl, by simp [World.setCell], fun k _ hk => Below.heap_setCell _ _ _ _ (fun e => hk (by rw [e]))⟩, fun cs t h => by
    simp [World.setCell, Array.getElem?_modify, World.drew, h]⟩
set_option maxRecDepth 100000 in
set_option maxHeartbeats 1000000 in
theorem some_yes (s : List UInt8) (n : Nat) (hn : n ≤ s.length) (b1 b2 tb o : Nat) (old : Value) (w : World) (h1 : w.cell? ⟨b1, 0, none⟩ = some (.int .i64 (n : Int))) (h2 : w.cell? ⟨b2, 0, none⟩ = some (.pointer (some ⟨tb, o, none⟩)))
    (h3 : w.cell? ⟨tb, o, none⟩ = some old) (h4 : w.frozen? ⟨tb, o, none⟩ = false) (hb : b1 ≠ tb) :
    Calls Tryz.prog 173 #[.string ⟨s.toArray⟩, .pointer (some ⟨b1, 0, none⟩), .pointer (some ⟨b2, 0, none⟩)] w fun e w' => e = .returned (.tuple #[SV (s.drop n), .nilIface]) ∧ Turned w w' tb o (SV (s.take n)) := by
  have x1 : (⟨s.toArray⟩ : ByteArray).extract 0 n = ⟨(s.take n).toArray⟩ := by rw [extract_S]; rfl
  have x2 : (⟨s.toArray⟩ : ByteArray).extract n s.length = ⟨(s.drop n).toArray⟩ := by rw [extract_S, List.take_length]
  have p0 : 0 ≤ (n : Int) := by omega
  have p1 : (n : Int) ≤ (s.length : Int) := by omega
  have p2 : ¬ (s.length : Int) < (n : Int) := by omega
  have p3 : ¬ s.length < n := by omega
  unfold SV
  generalize s.take n = ta at x1 ⊢
  generalize s.drop n = td at x2 ⊢
  have HB := Lib.hid hb
  have c2 : ((w.setCell ⟨tb, o, none⟩ (.string ⟨ta.toArray⟩)).cell? ⟨b1, 0, none⟩) = some (.int .i64 (n : Int)) := by
    rw [World.cell?_setCell_far _ _ _ _ (fun e => hb e.symm)]; exact h1
  clear hb
  go_enter Tryz.func173, Tryz.ntmps173
  go_wp2_with fail
  go_region
  all_goals
    go_wp2_with fail
    go_ret2
    exact ⟨rfl, turned_drew' w tb o _⟩
set_option maxRecDepth 100000 in
set_option maxHeartbeats 1000000 in
theorem some_no (s : List UInt8) (n : Nat) (hn : s.length < n) (b1 : Nat) (b2 : Value) (w : World) (h1 : w.cell? ⟨b1, 0, none⟩ = some (.int .i64 (n : Int))) (he : Er w) :
    Calls Tryz.prog 173 #[.string ⟨s.toArray⟩, .pointer (some ⟨b1, 0, none⟩), b2] w fun e w' => (∃ p, e = .returned (.tuple #[.string ⟨#[]⟩, .iface 134 (.pointer (some p))])) ∧ Below w.heap.size w w' := by
  obtain ⟨ew, c1⟩ := he.wrong
  have p2 : (s.length : Int) < (n : Int) := by omega
  clear he
  go_enter Tryz.func173, Tryz.ntmps173
  go_wp2_with fail
  go_region
  all_goals
    go_wp2_with fail
    go_ret2
    exact ⟨⟨_, rfl⟩, by first | exact ((Below.refl w.heap.size w).drew).alloc (Nat.le_refl _) _ | exact ((Below.refl w.heap.size w).alloc (Nat.le_refl _) _).drew⟩
theorem past_mk (s : ByteArray) (w : World) : Calls Tryz.prog 143 #[.string s] w fun e w' => e = .returned (.func (.func 161) #[] #[.pointer (some ⟨w.heap.size, 0, none⟩)]) ∧ w.alloc (.cells #[.string s] 9) = w' := by
  go_enter Tryz.func143, Tryz.ntmps143
  go_wp2
  go_ret
  exact ⟨rfl, rfl⟩
theorem until_mk (s : ByteArray) (t : Option Addr) (w : World) : Calls Tryz.prog 154 #[.string s, .pointer t] w fun e w' => e = .returned (.func (.func 174) #[] #[.pointer (some ⟨w.heap.size, 0, none⟩), .pointer (some ⟨w.heap.size + 1, 0, none⟩)]) ∧ (w.alloc (.cells #[.string s] 9)).alloc (.cells #[.pointer t] 217) = w' := by
  go_enter Tryz.func154, Tryz.ntmps154
  go_wp2
  go_ret
  exact ⟨rfl, rfl⟩
theorem some_mk (n : Int) (t : Option Addr) (w : World) : Calls Tryz.prog 153 #[.int .i64 n, .pointer t] w fun e w' => e = .returned (.func (.func 173) #[] #[.pointer (some ⟨w.heap.size, 0, none⟩), .pointer (some ⟨w.heap.size + 1, 0, none⟩)]) ∧ (w.alloc (.cells #[.int .i64 n] 3)).alloc (.cells #[.pointer t] 217) = w' := by
  go_enter Tryz.func153, Tryz.ntmps153
  go_wp2
  go_ret
  exact ⟨rfl, rfl⟩
theorem line_mk (s : ByteArray) (t : Option Addr) (w : World) : Calls Tryz.prog 141 #[.string s, .pointer t] w fun e w' => e = .returned (.func (.func 158) #[] #[.pointer (some ⟨w.heap.size, 0, none⟩), .pointer (some ⟨w.heap.size + 1, 0, none⟩)]) ∧ (w.alloc (.cells #[.string s] 9)).alloc (.cells #[.pointer t] 217) = w' := by
  go_enter Tryz.func141, Tryz.ntmps141
  go_wp2
  go_ret
  exact ⟨rfl, rfl⟩
theorem lines_mk (s : ByteArray) (n : Int) (t : Option Addr) (w : World) : Calls Tryz.prog 142 #[.string s, .int .i64 n, .pointer t] w fun e w' => e = .returned (.func (.func 159) #[] #[.pointer (some ⟨w.heap.size + 2, 0, none⟩), .pointer (some ⟨w.heap.size + 1, 0, none⟩), .pointer (some ⟨w.heap.size, 0, none⟩)]) ∧ ((w.alloc (.cells #[.string s] 9)).alloc (.cells #[.int .i64 n] 3)).alloc (.cells #[.pointer t] 219) = w' := by
  go_enter Tryz.func142, Tryz.ntmps142
  go_wp2
  go_ret
  exact ⟨rfl, rfl⟩
end Go.Proofs.YtngphfogomchfaaGreatDoor


namespace Go.Proofs.YtngphfogomchfaaGreatDoor
open Go Go.RowKit Go.Extern.Stop Go.Stop Go.Extern
/-- The blocks that errWrong and errOther point to are two. -/
structure Eb (w : World) : Prop where
  er : Er w
  blk : ∃ a b : Addr, ∃ ca cb : Array Value, ∃ ta tb, a ≠ b ∧ w.cell? ⟨1, 0, none⟩ = some (.iface 266 (.pointer (some a))) ∧ w.cell? ⟨5, 0, none⟩ = some (.iface 266 (.pointer (some b)))
    ∧ w.heap[a.block]? = some (.cells ca ta (0, 0)) ∧ w.heap[b.block]? = some (.cells cb tb (0, 0))
theorem Eb.below {w w' : World} (h : Eb w) (hb : Below w.heap.size w w') : Eb w' := by
  obtain ⟨h1, a, b, ca, cb, ta, tb, hab, h2, h3, h4, h5⟩ := h
  exact ⟨h1.below hb, a, b, ca, cb, ta, tb, hab, cell_to h2 hb, cell_to h3 hb, (hb.block _ (lt_heap h4)).trans h4, (hb.block _ (lt_heap h5)).trans h5⟩
theorem mUnwrap (a : Addr) (w : World) : (Go.method 397 134 (.pointer (some a)) "Unwrap").run Tryz.prog w = .ok (225, .pointer (some a)) w := by kernel_rfl
theorem mComparable (h : Value) (w : World) : (Go.method 397 178 (.agg #[h]) "Comparable").run Tryz.prog w = .ok (231, .agg #[h]) w := by kernel_rfl
theorem unwrapF (v : Value) (xT : TypeId) (w : World) : (Instr.typeAssert (.iface 134 v) xT 186 true).run Tryz.prog w = .ok (.tuple #[.iface 134 v, .bool true]) w := run_typeAssert_hasB Tryz.underlying186 (by kernel_rfl) v xT w
theorem noIsF (v : Value) (xT : TypeId) (w : World) : (Instr.typeAssert (.iface 134 v) xT 258 true).run Tryz.prog w = .ok (.tuple #[.nilIface, .bool false]) w := run_typeAssert_lacksB Tryz.underlying258 (by kernel_rfl) (by kernel_rfl) v xT w
theorem noIsE (v : Value) (xT : TypeId) (w : World) : (Instr.typeAssert (.iface 266 v) xT 258 true).run Tryz.prog w = .ok (.tuple #[.nilIface, .bool false]) w := run_typeAssert_lacksB Tryz.underlying258 (by kernel_rfl) (by kernel_rfl) v xT w
theorem noUnwrapE (v : Value) (xT : TypeId) (w : World) : (Instr.typeAssert (.iface 266 v) xT 186 true).run Tryz.prog w = .ok (.tuple #[.nilIface, .bool false]) w := run_typeAssert_lacksB Tryz.underlying186 (by kernel_rfl) (by kernel_rfl) v xT w
theorem noUnwrapsE (v : Value) (xT : TypeId) (w : World) : (Instr.typeAssert (.iface 266 v) xT 188 true).run Tryz.prog w = .ok (.tuple #[.nilIface, .bool false]) w := run_typeAssert_lacksB Tryz.underlying188 (by kernel_rfl) (by kernel_rfl) v xT w
theorem eqlFE (vx vy : Value) (w : World) : (binOp .eql 99 (.iface 134 vx) (.iface 266 vy)).run Tryz.prog w = .ok (.bool false) w := run_eql_iface_types _ _ vx vy Tryz.underlying99 (by decide) w
theorem infoPS : (Tryz.prog.info? 266).map (·.comparable) = some true := by kernel_rfl
theorem infoS : (Tryz.prog.info? 287).map (fun i => decide (i.size ≠ 0)) = some true := by kernel_rfl
theorem eqlSame (a : Addr) (w : World) : (binOp .eql 99 (.iface 266 (.pointer (some a))) (.iface 266 (.pointer (some a)))).run Tryz.prog w = .ok (.bool true) w := by
  obtain ⟨i, hi, hc⟩ := Option.map_eq_some_iff.1 infoPS
  obtain ⟨j, hj, _⟩ := Option.map_eq_some_iff.1 infoS
  exact run_eql_iface_ptr_same w a Tryz.underlying99 Tryz.underlying266 hi hc hj
theorem eqlOther {a b : Addr} {ca cb : Array Value} {ta tb : TypeId} (w : World) (hne : a ≠ b) (ha : w.heap[a.block]? = some (.cells ca ta (0, 0))) (hb : w.heap[b.block]? = some (.cells cb tb (0, 0))) :
    (binOp .eql 99 (.iface 266 (.pointer (some a))) (.iface 266 (.pointer (some b)))).run Tryz.prog w = .ok (.bool false) w := by
  obtain ⟨i, hi, hc⟩ := Option.map_eq_some_iff.1 infoPS
  obtain ⟨j, hj, hs⟩ := Option.map_eq_some_iff.1 infoS
  exact run_eql_iface_ptr_other w Tryz.underlying99 Tryz.underlying266 hi hc hj (of_decide_eq_true hs) hne ha hb
theorem eqlNil (v : Value) (w : World) : (binOp .eql 99 .nilIface (.iface 266 v)).run Tryz.prog w = .ok (.bool false) w := run_eql_iface_nil_left w _ v Tryz.underlying99
theorem typeOfE (v : Value) (w : World) : (ReflectliteType.typeOf #[.iface 266 v]).run Tryz.prog w = .ok (.iface 178 (.agg #[.pointer (some ⟨11, 266, none⟩)])) w := by kernel_rfl
theorem comparableE (w : World) : (ReflectliteType.method (fun t => do Rtype.noPackHeld "Comparable" t; (fun a => Value.bool a.comparable) <$> typeInfo t) #[.agg #[.pointer (some ⟨11, 266, none⟩)]]).run Tryz.prog w = .ok (.bool true) w := by kernel_rfl
theorem unwrap_any (a : Nat) (x : ByteArray) (p : Value) (w : World) (h : w.heap[a]? = some (.cells #[.string x, .iface 266 p] 144 (0, 0))) :
    Calls Tryz.prog 225 #[.pointer (some ⟨a, 0, none⟩)] w fun e w' => e = .returned (.iface 266 p) ∧ w = w' := by
  have c1 : w.cell? ⟨a, 1, none⟩ = some (.iface 266 p) := by simp [World.cell?, h]
  go_enter Tryz.func225, Tryz.ntmps225
  go_wp2
  go_ret
  exact ⟨rfl, rfl⟩
def BoolPost (b : Bool) (w : World) (e : Ending) (w' : World) : Prop := e = .returned (.bool b) ∧ w = w'
set_option maxHeartbeats 4000000 in
set_option maxRecDepth 100000 in
theorem is_same (a : Nat) (b : Addr) (x : ByteArray) (w : World) (h : w.heap[a]? = some (.cells #[.string x, .iface 266 (.pointer (some b))] 144 (0, 0))) :
    Calls Tryz.prog 179 #[.iface 134 (.pointer (some ⟨a, 0, none⟩)), .iface 266 (.pointer (some b)), .bool true] w (BoolPost true w) := by
  have q1 := noIsF; have q2 := noIsE; have q3 := noUnwrapE; have q4 := noUnwrapsE; have q5 := eqlFE; have q6 := mUnwrap; have q7 := unwrapF; have q8 := eqlSame b
  go_enter Tryz.func179, Tryz.ntmps179
  go_wp2
  refine wp_loop_rounds 2 ?_
  rw [rounds_succ]
  go_wp2_with fail
  refine (unwrap_any a x _ _ h).mono ?_
  rintro e w' ⟨rfl, rfl⟩
  go_wp2_with fail
  rw [rounds_succ]
  go_wp2_with fail
  go_ret
  exact ⟨rfl, rfl⟩
set_option maxHeartbeats 4000000 in
set_option maxRecDepth 100000 in
theorem is_other (a : Nat) (b c : Addr) (x : ByteArray) (w : World) (h : w.heap[a]? = some (.cells #[.string x, .iface 266 (.pointer (some c))] 144 (0, 0)))
    {cc cb : Array Value} {tc tb : TypeId} (hne : c ≠ b) (hc : w.heap[c.block]? = some (.cells cc tc (0, 0))) (hb : w.heap[b.block]? = some (.cells cb tb (0, 0))) :
    Calls Tryz.prog 179 #[.iface 134 (.pointer (some ⟨a, 0, none⟩)), .iface 266 (.pointer (some b)), .bool true] w (BoolPost false w) := by
  have q1 := noIsF; have q2 := noIsE; have q3 := noUnwrapE; have q4 := noUnwrapsE; have q5 := eqlFE; have q6 := mUnwrap; have q7 := unwrapF; have q8 := eqlOther w hne hc hb
  clear hne hc hb
  go_enter Tryz.func179, Tryz.ntmps179
  go_wp2
  refine wp_loop_rounds 2 ?_
  rw [rounds_succ]
  go_wp2_with fail
  refine (unwrap_any a x _ _ h).mono ?_
  rintro e w' ⟨rfl, rfl⟩
  go_wp2_with fail
  rw [rounds_succ]
  go_wp2_with fail
  go_ret
  exact ⟨rfl, rfl⟩
set_option maxHeartbeats 1000000 in
set_option maxRecDepth 100000 in
theorem errIs_nil (v : Value) (w : World) : Calls Tryz.prog 160 #[.nilIface, .iface 266 v] w (BoolPost false w) := by
  have q1 := eqlNil
  go_enter Tryz.func160, Tryz.ntmps160
  go_wp2
  go_ret
  exact ⟨rfl, rfl⟩
set_option maxHeartbeats 1000000 in
set_option maxRecDepth 100000 in
theorem errIs_of (a : Nat) (b : Addr) (r : Bool) (w : World) (h : Calls Tryz.prog 179 #[.iface 134 (.pointer (some ⟨a, 0, none⟩)), .iface 266 (.pointer (some b)), .bool true] w (BoolPost r w)) :
    Calls Tryz.prog 160 #[.iface 134 (.pointer (some ⟨a, 0, none⟩)), .iface 266 (.pointer (some b))] w (BoolPost r w) := by
  have hTO := @run_callFunc_extern Tryz.prog 120 _ ReflectliteType.typeOf Tryz.func120 (by kernel_rfl) (by kernel_rfl) (by kernel_rfl) (by kernel_rfl)
  have hCo := @run_callFunc_extern Tryz.prog 231 _ (ReflectliteType.method (fun t => do Rtype.noPackHeld "Comparable" t; pure (.bool (← typeInfo t).comparable))) Tryz.func231 (by kernel_rfl) (by kernel_rfl) (by kernel_rfl) (by kernel_rfl)
  have q1 := typeOfE; have q2 := mComparable; have q3 := comparableE
  have Hin := Lib.hid h; clear h
  go_enter Tryz.func160, Tryz.ntmps160
  go_wp2_with fail
  refine Hin.out.mono ?_
  rintro e w' ⟨rfl, rfl⟩
  go_wp2
  go_ret
  exact ⟨rfl, rfl⟩
end Go.Proofs.YtngphfogomchfaaGreatDoor
