/-
  does, Fuse, Down: the walks.
-/
import Derived.Test.YtccloieikkdcoaaGreatDoorDoes
namespace Go.Proofs.YtccloieikkdcoaaGreatDoor
open Go Go.RowKit Go.Maps Go.Shelf Go.Deep

def opV (o : OpR) (bv kv : Value) : Value := .agg #[.int .i64 o.what, S o.path, S o.to, bv, .int .i64 o.n, kv]

set_option maxHeartbeats 8000000 in
set_option maxRecDepth 100000 in
theorem does_any {w : World} {base s f y k : Nat} {lv : Value} {st : St} (h : Ok w base s f y lv st) (hbd : Bd st k) (het : Et w) (hg : 0 < base) {o : OpR} {bv kv : Value} (hb : BytesAt w bv o.b)
    (l1 : o.path.length ≤ maxLen) (l2 : o.to.length ≤ maxLen) (l3 : o.b.length ≤ maxLen) :
    Calls Tryz.prog 32 #[.pointer (some ⟨s, 0, none⟩), opV o bv kv] w (DoPost base s f y (doesN o st) (doesSt o st) w) := by
  obtain ⟨va, vc, rfl⟩ := hb.slice
  obtain ⟨what, path, to, b, n, keep⟩ := o
  have hbw := h.base_le
  by_cases h0 : what = 0
  · subst h0
    show Calls Tryz.prog 32 #[.pointer (some ⟨s, 0, none⟩), .agg #[.int .i64 0, S path, S to, .slice va b.length vc, .int .i64 n, kv]] w (DoPost base s f y (doN st (writeErr path b.length st)) (doSt st (writeErr path b.length st) (wrote path b st)) w)
    have B := below_alloc w (.cells #[.int .i64 0, S path, S to, .slice va b.length vc, .int .i64 n, kv] 34)
    have Hw := Lib.hid (Write_any (h.keep B) hbd (het.keep (K.of_new B h.base_le) hg) hg l1 l3 (hb.below B))
    have HB := Lib.hid B
    clear hb h hbd het B
    unfold S at Hw ⊢
    go_enter Tryz.func32, Tryz.ntmps32
    go_wp2_with fail
    refine Hw.out.mono ?_
    rintro e w' hD
    obtain ⟨rfl, hk, hx⟩ := hD.from HB.out hbw
    have HK := Lib.hid hk
    have HX := Lib.hid hx
    clear hk hx hD
    go_wp2_with fail
    go_ret
    exact ⟨rfl, HK.out, HX.out⟩
  by_cases h1 : what = 1
  · subst h1
    show Calls Tryz.prog 32 #[.pointer (some ⟨s, 0, none⟩), .agg #[.int .i64 1, S path, S to, .slice va b.length vc, .int .i64 n, kv]] w (DoPost base s f y (doN st (writeErr path b.length st)) (doSt st (writeErr path b.length st) (wrote path b st)) w)
    have B := below_alloc w (.cells #[.int .i64 1, S path, S to, .slice va b.length vc, .int .i64 n, kv] 34)
    have Hw := Lib.hid (Write_any (h.keep B) hbd (het.keep (K.of_new B h.base_le) hg) hg l1 l3 (hb.below B))
    have HB := Lib.hid B
    clear hb h hbd het B
    unfold S at Hw ⊢
    go_enter Tryz.func32, Tryz.ntmps32
    go_wp2_with fail
    refine Hw.out.mono ?_
    rintro e w' hD
    obtain ⟨rfl, hk, hx⟩ := hD.from HB.out hbw
    have HK := Lib.hid hk
    have HX := Lib.hid hx
    clear hk hx hD
    go_wp2_with fail
    go_ret
    exact ⟨rfl, HK.out, HX.out⟩
  by_cases h2 : what = 2
  · subst h2
    show Calls Tryz.prog 32 #[.pointer (some ⟨s, 0, none⟩), .agg #[.int .i64 2, S path, S to, .slice va b.length vc, .int .i64 n, kv]] w (DoPost base s f y (doN st (renameErr path to st.files)) (doSt st (renameErr path to st.files) (renamed path to st)) w)
    have B := below_alloc w (.cells #[.int .i64 2, S path, S to, .slice va b.length vc, .int .i64 n, kv] 34)
    have Hw := Lib.hid (Rename_any (h.keep B) hbd (het.keep (K.of_new B h.base_le) hg) hg l1 l2)
    have HB := Lib.hid B
    clear hb h hbd het B
    unfold S at Hw ⊢
    go_enter Tryz.func32, Tryz.ntmps32
    go_wp2_with fail
    refine Hw.out.mono ?_
    rintro e w' hD
    obtain ⟨rfl, hk, hx⟩ := hD.from HB.out hbw
    have HK := Lib.hid hk
    have HX := Lib.hid hx
    clear hk hx hD
    go_wp2_with fail
    go_ret
    exact ⟨rfl, HK.out, HX.out⟩
  by_cases h3 : what = 3
  · subst h3
    show Calls Tryz.prog 32 #[.pointer (some ⟨s, 0, none⟩), .agg #[.int .i64 3, S path, S to, .slice va b.length vc, .int .i64 n, kv]] w (DoPost base s f y (doN st (thereErr path st.files)) (doSt st (thereErr path st.files) (removed path st)) w)
    have B := below_alloc w (.cells #[.int .i64 3, S path, S to, .slice va b.length vc, .int .i64 n, kv] 34)
    have Hw := Lib.hid (Remove_any (h.keep B) hbd (het.keep (K.of_new B h.base_le) hg) hg l1)
    have HB := Lib.hid B
    clear hb h hbd het B
    unfold S at Hw ⊢
    go_enter Tryz.func32, Tryz.ntmps32
    go_wp2_with fail
    refine Hw.out.mono ?_
    rintro e w' hD
    obtain ⟨rfl, hk, hx⟩ := hD.from HB.out hbw
    have HK := Lib.hid hk
    have HX := Lib.hid hx
    clear hk hx hD
    go_wp2_with fail
    go_ret
    exact ⟨rfl, HK.out, HX.out⟩
  by_cases h4 : what = 4
  · subst h4
    show Calls Tryz.prog 32 #[.pointer (some ⟨s, 0, none⟩), .agg #[.int .i64 4, S path, S to, .slice va b.length vc, .int .i64 n, kv]] w (DoPost base s f y (doN st (syncErr path)) (doSt st (syncErr path) (syncedSt path st)) w)
    have B := below_alloc w (.cells #[.int .i64 4, S path, S to, .slice va b.length vc, .int .i64 n, kv] 34)
    have Hw := Lib.hid (Sync_any (h.keep B) hbd (het.keep (K.of_new B h.base_le) hg) hg l1)
    have HB := Lib.hid B
    clear hb h hbd het B
    unfold S at Hw ⊢
    go_enter Tryz.func32, Tryz.ntmps32
    go_wp2_with fail
    refine Hw.out.mono ?_
    rintro e w' hD
    obtain ⟨rfl, hk, hx⟩ := hD.from HB.out hbw
    have HK := Lib.hid hk
    have HX := Lib.hid hx
    clear hk hx hD
    go_wp2_with fail
    go_ret
    exact ⟨rfl, HK.out, HX.out⟩
  · have hn : ¬ (what = 0 ∨ what = 1) := by omega
    unfold doesN doesSt opV
    simp only [if_neg hn, if_neg h2, if_neg h3, if_neg h4]
    have B := below_alloc w (.cells #[.int .i64 what, S path, S to, .slice va b.length vc, .int .i64 n, kv] 34)
    have HX := Lib.hid (h.keep B)
    have HK := Lib.hid (K.of_new B h.base_le)
    clear hb h hbd het B
    unfold S at HX HK ⊢
    go_enter Tryz.func32, Tryz.ntmps32
    go_wp2_with fail
    go_ret
    exact ⟨rfl, HK.out, _, HX.out⟩
end Go.Proofs.YtccloieikkdcoaaGreatDoor
