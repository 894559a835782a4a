/- The reference's PutEdge where it refuses. -/
import Derived.Test.YtagibmgbjhemkaaGreatStNew
import Derived.Test.YtagibmgbjhemkaaGreatRel7
import Derived.Test.YtagibmgbjhemkaaGreatRefAddE
import Derived.Test.YtagibmgbjhemkaaGreatRefPutM
namespace Go.Proofs.YtagibmgbjhemkaaGreat
section
section
open Go.RowKit Go.Maps
theorem Recs.idx {es : List EdgeV} (h : Recs es) {i j : Nat} {a b : EdgeV} (hi : es[i]? = some a) (hj : es[j]? = some b) (e : a.1 = b.1) : i = j := by
  obtain ⟨hi1, hi2⟩ := List.getElem?_eq_some_iff.1 hi
  obtain ⟨hj1, hj2⟩ := List.getElem?_eq_some_iff.1 hj
  rcases Nat.lt_trichotomy i j with h' | h' | h'
  · have := List.pairwise_iff_getElem.1 h i j hi1 hj1 h'; rw [hi2, hj2] at this; omega
  · exact h'
  · have := List.pairwise_iff_getElem.1 h j i hj1 hi1 h'; rw [hi2, hj2] at this; omega
theorem RelG.lk {g : Gr} {vs : List Int} {es : List EdgeV} (h : RelG g vs es) {x : EdgeV} (hx : x ∈ es) : Go.Proofs.YtagibmgbjhemkaaGreat.lk g.ps x.1 = some x := by
  obtain ⟨i, hi⟩ := (h.mem x).1 hx
  rw [(h.edge i x hi).1]
  exact lk_yes hi
end

section
open Go.RowKit Go.Maps
set_option maxHeartbeats 2000000 in
set_option maxRecDepth 100000 in
theorem refAddENoU {w : World} {vv ev : Value} {rd wr_0 : Int} {vs : List Int} {es : List EdgeV} (u v n : Int) (h : NRow w vv vs) (hE : GRow 0 w ev es) (hlv : vs.length ≤ 1000000) (hl : es.length ≤ 1000000) (hu : u ∉ vs) :
    Calls Tryz.prog 68 #[.agg #[vv, ev, .int .i64 rd, .int .i64 wr_0], .int .i64 u, .int .i64 v, .int .u32 n] w fun e w' => Hid (AnsGI w vv ev vs es rd wr_0 0 5 e w') := by
  have HF : Hid (∀ W, Below w.heap.size w W → NRow W vv vs ∧ GRow 0 W ev es) := fun W hW => ⟨nrow_below h hW, grow_below hE hW⟩
  have CH : Hid (∀ W, AFit w vv ev rd wr_0 W → ∀ k, Calls Tryz.prog 19 #[.agg #[vv, ev, .int .i64 rd, .int .i64 wr_0], .int .i64 k] W fun e w' => e = .returned (.bool (decide (k ∈ vs))) ∧ Hid (AFit w vv ev rd wr_0 w')) := fun W hW k => by
    refine (refHas k (nrow_below h hW.2.2.1) hlv).mono ?_
    rintro e w' ⟨rfl, g⟩
    exact ⟨rfl, hW.step g⟩
  have CA : Hid (∀ n W, Calls Tryz.prog 99 #[.int .u32 n] W fun e w' => e = .returned (ansK (kept n)) ∧ w' = W) := fun n W => refAdmit n W
  obtain ⟨va, vc, hvv, -⟩ := brow_shape h
  obtain ⟨vn, hvv'⟩ : ∃ vn, vv = .slice va vn vc := ⟨_, hvv⟩
  obtain ⟨ea, en, ec, hev⟩ := grow_shape hE
  have CT : Hid (∀ W, AFit w vv ev rd wr_0 W → Calls Tryz.prog 58 #[.agg #[vv, ev, .int .i64 rd, .int .i64 wr_0]] W fun e w' => ∃ r, e = .returned (.int .i64 r) ∧ Hid (RFree es r ∧ AFit w vv ev rd wr_0 w')) := fun W hW => by
    refine (refFree (grow_below hE hW.2.2.1) hl ⟨_, _, _, hvv'⟩).mono ?_
    rintro e w' ⟨r, rfl, g⟩
    exact ⟨r, rfl, (unhide g).1, hW.step (unhide g).2⟩
  have HP := hide (afit_new w vv ev rd wr_0)
  clear h hE hvv hl hlv
  subst hvv' hev
  go_enter Tryz.func68, Tryz.ntmps68
  go_upto_region 1 with fail
  change Code.wp _ _ _ _ ((w.alloc (oG (.slice va vn vc) (.slice ea en ec) rd wr_0)).alloc oZ)
  generalize (w.alloc (oG (.slice va vn vc) (.slice ea en ec) rd wr_0)).alloc oZ = wb at *
  have n1 : ¬ w.heap.size = w.heap.size + 1 := by omega
  have n2 : ¬ w.heap.size + 1 = w.heap.size := by omega
  have HCwb := unhide HP
  obtain ⟨c0, c1, c2, c3, cf⟩ := cellsG HCwb.1
  obtain ⟨d0, d1, d2, d3, df⟩ := cellsG (vv := .slice none 0 0) (ev := .slice none 0 0) (rd := 0) (wr := 0) HCwb.2.1
  clear HCwb
  go_wp2_with fail
  refine (unhide CH _ (unhide HP) _).mono ?_
  rintro e w2 ⟨rfl, H2⟩
  rw [decide_eq_false hu]
  clear c0 c1 c2 c3 cf d0 d1 d2 d3 df
  have HCw2 := unhide H2
  obtain ⟨c0, c1, c2, c3, cf⟩ := cellsG HCw2.1
  obtain ⟨d0, d1, d2, d3, df⟩ := cellsG (vv := .slice none 0 0) (ev := .slice none 0 0) (rd := 0) (wr := 0) HCw2.2.1
  clear HCw2
  go_wp2_with fail
  (try simp only [Exit.inBlock, Exit.then])
  change bodyPost _ _ _ _ _ (set4 w2 (w.heap.size + 1) _ _ _ _)
  refine bodyPost_ret (results_cell_tmp_tmp rfl _ _ _ ⟨w.heap.size + 1, 0, none⟩ _ rfl (loadG _ _ _ _ _ _ (set4G_at (unhide H2).2.1 _ _ _ _))) rfl ?_
  have hB := set4_below (unhide H2).2.2.1 (by omega : w.heap.size ≤ w.heap.size + 1) (.slice va vn vc) (.slice ea en ec) (.int .i64 rd) (.int .i64 wr_0)
  exact ⟨_, _, rfl, (unhide HF _ hB).1, (unhide HF _ hB).2, hB, Apt.refl _ _, Apt.refl _ _⟩
end

section
open Go.RowKit Go.Maps
set_option maxHeartbeats 2000000 in
set_option maxRecDepth 100000 in
theorem refAddENoV {w : World} {vv ev : Value} {rd wr_0 : Int} {vs : List Int} {es : List EdgeV} (u v n : Int) (h : NRow w vv vs) (hE : GRow 0 w ev es) (hlv : vs.length ≤ 1000000) (hl : es.length ≤ 1000000) (hu : u ∈ vs) (hv : v ∉ vs) :
    Calls Tryz.prog 68 #[.agg #[vv, ev, .int .i64 rd, .int .i64 wr_0], .int .i64 u, .int .i64 v, .int .u32 n] w fun e w' => Hid (AnsGI w vv ev vs es rd wr_0 0 5 e w') := by
  have HF : Hid (∀ W, Below w.heap.size w W → NRow W vv vs ∧ GRow 0 W ev es) := fun W hW => ⟨nrow_below h hW, grow_below hE hW⟩
  have CH : Hid (∀ W, AFit w vv ev rd wr_0 W → ∀ k, Calls Tryz.prog 19 #[.agg #[vv, ev, .int .i64 rd, .int .i64 wr_0], .int .i64 k] W fun e w' => e = .returned (.bool (decide (k ∈ vs))) ∧ Hid (AFit w vv ev rd wr_0 w')) := fun W hW k => by
    refine (refHas k (nrow_below h hW.2.2.1) hlv).mono ?_
    rintro e w' ⟨rfl, g⟩
    exact ⟨rfl, hW.step g⟩
  have CA : Hid (∀ n W, Calls Tryz.prog 99 #[.int .u32 n] W fun e w' => e = .returned (ansK (kept n)) ∧ w' = W) := fun n W => refAdmit n W
  obtain ⟨va, vc, hvv, -⟩ := brow_shape h
  obtain ⟨vn, hvv'⟩ : ∃ vn, vv = .slice va vn vc := ⟨_, hvv⟩
  obtain ⟨ea, en, ec, hev⟩ := grow_shape hE
  have CT : Hid (∀ W, AFit w vv ev rd wr_0 W → Calls Tryz.prog 58 #[.agg #[vv, ev, .int .i64 rd, .int .i64 wr_0]] W fun e w' => ∃ r, e = .returned (.int .i64 r) ∧ Hid (RFree es r ∧ AFit w vv ev rd wr_0 w')) := fun W hW => by
    refine (refFree (grow_below hE hW.2.2.1) hl ⟨_, _, _, hvv'⟩).mono ?_
    rintro e w' ⟨r, rfl, g⟩
    exact ⟨r, rfl, (unhide g).1, hW.step (unhide g).2⟩
  have HP := hide (afit_new w vv ev rd wr_0)
  clear h hE hvv hl hlv
  subst hvv' hev
  go_enter Tryz.func68, Tryz.ntmps68
  go_upto_region 1 with fail
  change Code.wp _ _ _ _ ((w.alloc (oG (.slice va vn vc) (.slice ea en ec) rd wr_0)).alloc oZ)
  generalize (w.alloc (oG (.slice va vn vc) (.slice ea en ec) rd wr_0)).alloc oZ = wb at *
  have n1 : ¬ w.heap.size = w.heap.size + 1 := by omega
  have n2 : ¬ w.heap.size + 1 = w.heap.size := by omega
  have HCwb := unhide HP
  obtain ⟨c0, c1, c2, c3, cf⟩ := cellsG HCwb.1
  obtain ⟨d0, d1, d2, d3, df⟩ := cellsG (vv := .slice none 0 0) (ev := .slice none 0 0) (rd := 0) (wr := 0) HCwb.2.1
  clear HCwb
  go_wp2_with fail
  refine (unhide CH _ (unhide HP) _).mono ?_
  rintro e w2 ⟨rfl, H2⟩
  rw [decide_eq_true hu]
  clear c0 c1 c2 c3 cf d0 d1 d2 d3 df
  have HCw2 := unhide H2
  obtain ⟨c0, c1, c2, c3, cf⟩ := cellsG HCw2.1
  obtain ⟨d0, d1, d2, d3, df⟩ := cellsG (vv := .slice none 0 0) (ev := .slice none 0 0) (rd := 0) (wr := 0) HCw2.2.1
  clear HCw2
  go_wp2_with fail
  refine (unhide CH _ (unhide H2) _).mono ?_
  rintro e w3 ⟨rfl, H3⟩
  rw [decide_eq_false hv]
  clear c0 c1 c2 c3 cf d0 d1 d2 d3 df
  have HCw3 := unhide H3
  obtain ⟨c0, c1, c2, c3, cf⟩ := cellsG HCw3.1
  obtain ⟨d0, d1, d2, d3, df⟩ := cellsG (vv := .slice none 0 0) (ev := .slice none 0 0) (rd := 0) (wr := 0) HCw3.2.1
  clear HCw3
  go_wp2_with fail
  (try simp only [Exit.inBlock, Exit.then])
  change bodyPost _ _ _ _ _ (set4 w3 (w.heap.size + 1) _ _ _ _)
  refine bodyPost_ret (results_cell_tmp_tmp rfl _ _ _ ⟨w.heap.size + 1, 0, none⟩ _ rfl (loadG _ _ _ _ _ _ (set4G_at (unhide H3).2.1 _ _ _ _))) rfl ?_
  have hB := set4_below (unhide H3).2.2.1 (by omega : w.heap.size ≤ w.heap.size + 1) (.slice va vn vc) (.slice ea en ec) (.int .i64 rd) (.int .i64 wr_0)
  exact ⟨_, _, rfl, (unhide HF _ hB).1, (unhide HF _ hB).2, hB, Apt.refl _ _, Apt.refl _ _⟩
end

section
open Go.RowKit Go.Maps
set_option maxHeartbeats 2000000 in
set_option maxRecDepth 100000 in
theorem refAddEBad {w : World} {vv ev : Value} {rd wr_0 : Int} {vs : List Int} {es : List EdgeV} (u v n : Int) (h : NRow w vv vs) (hE : GRow 0 w ev es) (hlv : vs.length ≤ 1000000) (hl : es.length ≤ 1000000) (hu : u ∈ vs) (hv : v ∈ vs) (hk : kept n = none) :
    Calls Tryz.prog 68 #[.agg #[vv, ev, .int .i64 rd, .int .i64 wr_0], .int .i64 u, .int .i64 v, .int .u32 n] w fun e w' => Hid (AnsGI w vv ev vs es rd wr_0 0 7 e w') := by
  have HF : Hid (∀ W, Below w.heap.size w W → NRow W vv vs ∧ GRow 0 W ev es) := fun W hW => ⟨nrow_below h hW, grow_below hE hW⟩
  have CH : Hid (∀ W, AFit w vv ev rd wr_0 W → ∀ k, Calls Tryz.prog 19 #[.agg #[vv, ev, .int .i64 rd, .int .i64 wr_0], .int .i64 k] W fun e w' => e = .returned (.bool (decide (k ∈ vs))) ∧ Hid (AFit w vv ev rd wr_0 w')) := fun W hW k => by
    refine (refHas k (nrow_below h hW.2.2.1) hlv).mono ?_
    rintro e w' ⟨rfl, g⟩
    exact ⟨rfl, hW.step g⟩
  have CA : Hid (∀ n W, Calls Tryz.prog 99 #[.int .u32 n] W fun e w' => e = .returned (ansK (kept n)) ∧ w' = W) := fun n W => refAdmit n W
  obtain ⟨va, vc, hvv, -⟩ := brow_shape h
  obtain ⟨vn, hvv'⟩ : ∃ vn, vv = .slice va vn vc := ⟨_, hvv⟩
  obtain ⟨ea, en, ec, hev⟩ := grow_shape hE
  have CT : Hid (∀ W, AFit w vv ev rd wr_0 W → Calls Tryz.prog 58 #[.agg #[vv, ev, .int .i64 rd, .int .i64 wr_0]] W fun e w' => ∃ r, e = .returned (.int .i64 r) ∧ Hid (RFree es r ∧ AFit w vv ev rd wr_0 w')) := fun W hW => by
    refine (refFree (grow_below hE hW.2.2.1) hl ⟨_, _, _, hvv'⟩).mono ?_
    rintro e w' ⟨r, rfl, g⟩
    exact ⟨r, rfl, (unhide g).1, hW.step (unhide g).2⟩
  have HP := hide (afit_new w vv ev rd wr_0)
  clear h hE hvv hl hlv
  subst hvv' hev
  go_enter Tryz.func68, Tryz.ntmps68
  go_upto_region 1 with fail
  change Code.wp _ _ _ _ ((w.alloc (oG (.slice va vn vc) (.slice ea en ec) rd wr_0)).alloc oZ)
  generalize (w.alloc (oG (.slice va vn vc) (.slice ea en ec) rd wr_0)).alloc oZ = wb at *
  have n1 : ¬ w.heap.size = w.heap.size + 1 := by omega
  have n2 : ¬ w.heap.size + 1 = w.heap.size := by omega
  have HCwb := unhide HP
  obtain ⟨c0, c1, c2, c3, cf⟩ := cellsG HCwb.1
  obtain ⟨d0, d1, d2, d3, df⟩ := cellsG (vv := .slice none 0 0) (ev := .slice none 0 0) (rd := 0) (wr := 0) HCwb.2.1
  clear HCwb
  go_wp2_with fail
  refine (unhide CH _ (unhide HP) _).mono ?_
  rintro e w2 ⟨rfl, H2⟩
  rw [decide_eq_true hu]
  clear c0 c1 c2 c3 cf d0 d1 d2 d3 df
  have HCw2 := unhide H2
  obtain ⟨c0, c1, c2, c3, cf⟩ := cellsG HCw2.1
  obtain ⟨d0, d1, d2, d3, df⟩ := cellsG (vv := .slice none 0 0) (ev := .slice none 0 0) (rd := 0) (wr := 0) HCw2.2.1
  clear HCw2
  go_wp2_with fail
  refine (unhide CH _ (unhide H2) _).mono ?_
  rintro e w3 ⟨rfl, H3⟩
  rw [decide_eq_true hv]
  clear c0 c1 c2 c3 cf d0 d1 d2 d3 df
  have HCw3 := unhide H3
  obtain ⟨c0, c1, c2, c3, cf⟩ := cellsG HCw3.1
  obtain ⟨d0, d1, d2, d3, df⟩ := cellsG (vv := .slice none 0 0) (ev := .slice none 0 0) (rd := 0) (wr := 0) HCw3.2.1
  clear HCw3
  go_wp2_with fail
  refine (unhide CA _ _).mono ?_
  rintro e w4 ⟨rfl, rfl⟩
  rw [hk]
  unfold ansK
  go_wp2_with fail
  (try simp only [Exit.inBlock, Exit.then])
  change bodyPost _ _ _ _ _ (set4 w4 (w.heap.size + 1) _ _ _ _)
  refine bodyPost_ret (results_cell_tmp_tmp rfl _ _ _ ⟨w.heap.size + 1, 0, none⟩ _ rfl (loadG _ _ _ _ _ _ (set4G_at (unhide H3).2.1 _ _ _ _))) rfl ?_
  have hB := set4_below (unhide H3).2.2.1 (by omega : w.heap.size ≤ w.heap.size + 1) (.slice va vn vc) (.slice ea en ec) (.int .i64 rd) (.int .i64 wr_0)
  exact ⟨_, _, rfl, (unhide HF _ hB).1, (unhide HF _ hB).2, hB, Apt.refl _ _, Apt.refl _ _⟩
end

section
open Go.RowKit Go.Maps
set_option maxHeartbeats 2000000 in
set_option maxRecDepth 100000 in
theorem refAddEMany {w : World} {vv ev : Value} {rd wr_0 : Int} {vs : List Int} {es : List EdgeV} (u v n : Int) (h : NRow w vv vs) (hE : GRow 0 w ev es) (hlv : vs.length ≤ 1000000) (hl : es.length ≤ 1000000) (hu : u ∈ vs) (hv : v ∈ vs) {b : Int} (hk : kept n = some b) (ht : ∀ i : Nat, i < 1024 → HasNo es ((i : Int) + 1)) :
    Calls Tryz.prog 68 #[.agg #[vv, ev, .int .i64 rd, .int .i64 wr_0], .int .i64 u, .int .i64 v, .int .u32 n] w fun e w' => Hid (AnsGI w vv ev vs es rd wr_0 0 8 e w') := by
  have HF : Hid (∀ W, Below w.heap.size w W → NRow W vv vs ∧ GRow 0 W ev es) := fun W hW => ⟨nrow_below h hW, grow_below hE hW⟩
  have CH : Hid (∀ W, AFit w vv ev rd wr_0 W → ∀ k, Calls Tryz.prog 19 #[.agg #[vv, ev, .int .i64 rd, .int .i64 wr_0], .int .i64 k] W fun e w' => e = .returned (.bool (decide (k ∈ vs))) ∧ Hid (AFit w vv ev rd wr_0 w')) := fun W hW k => by
    refine (refHas k (nrow_below h hW.2.2.1) hlv).mono ?_
    rintro e w' ⟨rfl, g⟩
    exact ⟨rfl, hW.step g⟩
  have CA : Hid (∀ n W, Calls Tryz.prog 99 #[.int .u32 n] W fun e w' => e = .returned (ansK (kept n)) ∧ w' = W) := fun n W => refAdmit n W
  obtain ⟨va, vc, hvv, -⟩ := brow_shape h
  obtain ⟨vn, hvv'⟩ : ∃ vn, vv = .slice va vn vc := ⟨_, hvv⟩
  obtain ⟨ea, en, ec, hev⟩ := grow_shape hE
  have CT : Hid (∀ W, AFit w vv ev rd wr_0 W → Calls Tryz.prog 58 #[.agg #[vv, ev, .int .i64 rd, .int .i64 wr_0]] W fun e w' => ∃ r, e = .returned (.int .i64 r) ∧ Hid (RFree es r ∧ AFit w vv ev rd wr_0 w')) := fun W hW => by
    refine (refFree (grow_below hE hW.2.2.1) hl ⟨_, _, _, hvv'⟩).mono ?_
    rintro e w' ⟨r, rfl, g⟩
    exact ⟨r, rfl, (unhide g).1, hW.step (unhide g).2⟩
  have HP := hide (afit_new w vv ev rd wr_0)
  clear h hE hvv hl hlv
  subst hvv' hev
  go_enter Tryz.func68, Tryz.ntmps68
  go_upto_region 1 with fail
  change Code.wp _ _ _ _ ((w.alloc (oG (.slice va vn vc) (.slice ea en ec) rd wr_0)).alloc oZ)
  generalize (w.alloc (oG (.slice va vn vc) (.slice ea en ec) rd wr_0)).alloc oZ = wb at *
  have n1 : ¬ w.heap.size = w.heap.size + 1 := by omega
  have n2 : ¬ w.heap.size + 1 = w.heap.size := by omega
  have HT := hide ht
  clear ht
  have HCwb := unhide HP
  obtain ⟨c0, c1, c2, c3, cf⟩ := cellsG HCwb.1
  obtain ⟨d0, d1, d2, d3, df⟩ := cellsG (vv := .slice none 0 0) (ev := .slice none 0 0) (rd := 0) (wr := 0) HCwb.2.1
  clear HCwb
  go_wp2_with fail
  refine (unhide CH _ (unhide HP) _).mono ?_
  rintro e w2 ⟨rfl, H2⟩
  rw [decide_eq_true hu]
  clear c0 c1 c2 c3 cf d0 d1 d2 d3 df
  have HCw2 := unhide H2
  obtain ⟨c0, c1, c2, c3, cf⟩ := cellsG HCw2.1
  obtain ⟨d0, d1, d2, d3, df⟩ := cellsG (vv := .slice none 0 0) (ev := .slice none 0 0) (rd := 0) (wr := 0) HCw2.2.1
  clear HCw2
  go_wp2_with fail
  refine (unhide CH _ (unhide H2) _).mono ?_
  rintro e w3 ⟨rfl, H3⟩
  rw [decide_eq_true hv]
  clear c0 c1 c2 c3 cf d0 d1 d2 d3 df
  have HCw3 := unhide H3
  obtain ⟨c0, c1, c2, c3, cf⟩ := cellsG HCw3.1
  obtain ⟨d0, d1, d2, d3, df⟩ := cellsG (vv := .slice none 0 0) (ev := .slice none 0 0) (rd := 0) (wr := 0) HCw3.2.1
  clear HCw3
  go_wp2_with fail
  refine (unhide CA _ _).mono ?_
  rintro e w4 ⟨rfl, rfl⟩
  rw [hk]
  unfold ansK
  go_wp2_with fail
  refine (unhide CT _ (unhide H3)).mono ?_
  rintro e w5 ⟨r, rfl, H5'⟩
  have hr : r = 0 := by
    rcases (unhide H5').1 with ⟨j, hj, -, -, h⟩ | ⟨h, -⟩
    · exact absurd (unhide HT j hj) h
    · exact h
  subst hr
  have H5 := hide (unhide H5').2
  clear H5'
  clear c0 c1 c2 c3 cf d0 d1 d2 d3 df
  have HCw5 := unhide H5
  obtain ⟨c0, c1, c2, c3, cf⟩ := cellsG HCw5.1
  obtain ⟨d0, d1, d2, d3, df⟩ := cellsG (vv := .slice none 0 0) (ev := .slice none 0 0) (rd := 0) (wr := 0) HCw5.2.1
  clear HCw5
  go_wp2_with fail
  (try simp only [Exit.inBlock, Exit.then])
  change bodyPost _ _ _ _ _ (set4 w5 (w.heap.size + 1) _ _ _ _)
  refine bodyPost_ret (results_cell_tmp_tmp rfl _ _ _ ⟨w.heap.size + 1, 0, none⟩ _ rfl (loadG _ _ _ _ _ _ (set4G_at (unhide H5).2.1 _ _ _ _))) rfl ?_
  have hB := set4_below (unhide H5).2.2.1 (by omega : w.heap.size ≤ w.heap.size + 1) (.slice va vn vc) (.slice ea en ec) (.int .i64 rd) (.int .i64 wr_0)
  exact ⟨_, _, rfl, (unhide HF _ hB).1, (unhide HF _ hB).2, hB, Apt.refl _ _, Apt.refl _ _⟩
end
end
section
section
open Go.RowKit Go.Maps
set_option maxHeartbeats 2000000 in
set_option maxRecDepth 100000 in
theorem refPutERange {w : World} {vv ev : Value} {rd wr_0 : Int} {vs : List Int} {es : List EdgeV} (x : EdgeV) (h : NRow w vv vs) (hE : GRow 0 w ev es) (hlv : vs.length ≤ 1000000) (hl : es.length ≤ 1000000) (hx : x.1 < 1 ∨ 1024 < x.1) :
    Calls Tryz.prog 69 #[.agg #[vv, ev, .int .i64 rd, .int .i64 wr_0], .agg #[.int .i64 x.1, .int .i64 x.2.1, .int .i64 x.2.2.1, .int .u32 x.2.2.2]] w fun e w' => Hid (AnsG w vv ev vs es rd wr_0 1 e w') := by
  have HF : Hid (∀ W, Below w.heap.size w W → NRow W vv vs ∧ GRow 0 W ev es) := fun W hW => ⟨nrow_below h hW, grow_below hE hW⟩
  have CH : Hid (∀ W, PFit w vv ev rd wr_0 x W → ∀ k, Calls Tryz.prog 19 #[.agg #[vv, ev, .int .i64 rd, .int .i64 wr_0], .int .i64 k] W fun e w' => e = .returned (.bool (decide (k ∈ vs))) ∧ Hid (PFit w vv ev rd wr_0 x w')) := fun W hW k => by
    refine (refHas k (nrow_below h hW.2.2.2.1) hlv).mono ?_
    rintro e w' ⟨rfl, g⟩
    exact ⟨rfl, hW.step g⟩
  have CT : Hid (∀ W, PFit w vv ev rd wr_0 x W → ∀ k, HasNo es k → Calls Tryz.prog 38 #[.agg #[vv, ev, .int .i64 rd, .int .i64 wr_0], .int .i64 k] W fun e w' => ∃ i : Nat, e = .returned (.int .i64 (i : Int)) ∧ Hid (PFit w vv ev rd wr_0 x w')) := fun W hW k hk => by
    refine (refAt k (grow_below hE hW.2.2.2.1) hl).mono ?_
    rintro e w' ⟨r, rfl, g⟩
    obtain ⟨g1, g2⟩ := unhide g
    rcases g1 with ⟨i, a, rfl, -, -⟩ | ⟨-, h1⟩
    · exact ⟨i, rfl, hW.step g2⟩
    · obtain ⟨j, b, hb, e⟩ := hk
      exact absurd e (h1 j b hb)
  have CA : Hid (∀ n W, Calls Tryz.prog 99 #[.int .u32 n] W fun e w' => e = .returned (ansK (kept n)) ∧ w' = W) := fun n W => refAdmit n W
  obtain ⟨va, vc, hvv, -⟩ := brow_shape h
  obtain ⟨vn, hvv'⟩ : ∃ vn, vv = .slice va vn vc := ⟨_, hvv⟩
  obtain ⟨ea, en, ec, hev⟩ := grow_shape hE
  have HP := hide (pfit_new w vv ev rd wr_0 x)
  clear h hE hvv hl hlv
  subst hvv' hev
  go_enter Tryz.func69, Tryz.ntmps69
  go_upto_region 1 with fail
  change Code.wp _ _ _ _ (((w.alloc (oG (.slice va vn vc) (.slice ea en ec) rd wr_0)).alloc (oX x)).alloc oZ)
  generalize ((w.alloc (oG (.slice va vn vc) (.slice ea en ec) rd wr_0)).alloc (oX x)).alloc oZ = wb at *
  have HZ : Hid (∃ b1 b2, b1 = w.heap.size + 1 ∧ b2 = w.heap.size + 2) := ⟨_, _, rfl, rfl⟩
  have n1 : ¬ w.heap.size = w.heap.size + 1 := by omega
  have n2 : ¬ w.heap.size + 1 = w.heap.size := by omega
  have n3 : ¬ w.heap.size = w.heap.size + 2 := by omega
  have n4 : ¬ w.heap.size + 2 = w.heap.size := by omega
  have n5 : ¬ w.heap.size + 1 = w.heap.size + 2 := by omega
  have n6 : ¬ w.heap.size + 2 = w.heap.size + 1 := by omega
  clear HZ
  have HCwb := unhide HP
  obtain ⟨c0, c1, c2, c3, cf⟩ := cellsG HCwb.1
  obtain ⟨x0, x1, x2, x3, xf⟩ := cellsX HCwb.2.1
  obtain ⟨d0, d1, d2, d3, df⟩ := cellsG (vv := .slice none 0 0) (ev := .slice none 0 0) (rd := 0) (wr := 0) HCwb.2.2.1
  clear HCwb
  by_cases hx1 : x.1 < 1
  · go_wp2_with fail
    (try simp only [Exit.inBlock, Exit.then])
    change bodyPost _ _ _ _ _ (set4 wb (w.heap.size + 2) _ _ _ _)
    refine bodyPost_ret (resG rfl _ _ (w.heap.size + 2) _ _ _ _ rfl (set4G_at (unhide HP).2.2.1 _ _ _ _)) rfl ?_
    have hB := set4_below (unhide HP).2.2.2.1 (by omega : w.heap.size ≤ w.heap.size + 2) (.slice va vn vc) (.slice ea en ec) (.int .i64 rd) (.int .i64 wr_0)
    exact ⟨_, _, rfl, (unhide HF _ hB).1, (unhide HF _ hB).2, hB, Apt.refl _ _, Apt.refl _ _⟩
  · have hx2 : 1024 < x.1 := by omega
    go_wp2_with fail
    (try simp only [Exit.inBlock, Exit.then])
    change bodyPost _ _ _ _ _ (set4 wb (w.heap.size + 2) _ _ _ _)
    refine bodyPost_ret (resG rfl _ _ (w.heap.size + 2) _ _ _ _ rfl (set4G_at (unhide HP).2.2.1 _ _ _ _)) rfl ?_
    have hB := set4_below (unhide HP).2.2.2.1 (by omega : w.heap.size ≤ w.heap.size + 2) (.slice va vn vc) (.slice ea en ec) (.int .i64 rd) (.int .i64 wr_0)
    exact ⟨_, _, rfl, (unhide HF _ hB).1, (unhide HF _ hB).2, hB, Apt.refl _ _, Apt.refl _ _⟩
end

section
open Go.RowKit Go.Maps
set_option maxHeartbeats 2000000 in
set_option maxRecDepth 100000 in
theorem refPutENoU {w : World} {vv ev : Value} {rd wr_0 : Int} {vs : List Int} {es : List EdgeV} (x : EdgeV) (h : NRow w vv vs) (hE : GRow 0 w ev es) (hlv : vs.length ≤ 1000000) (hl : es.length ≤ 1000000) (hx1 : ¬ x.1 < 1) (hx2 : ¬ 1024 < x.1) (hu : x.2.1 ∉ vs) :
    Calls Tryz.prog 69 #[.agg #[vv, ev, .int .i64 rd, .int .i64 wr_0], .agg #[.int .i64 x.1, .int .i64 x.2.1, .int .i64 x.2.2.1, .int .u32 x.2.2.2]] w fun e w' => Hid (AnsG w vv ev vs es rd wr_0 5 e w') := by
  have HF : Hid (∀ W, Below w.heap.size w W → NRow W vv vs ∧ GRow 0 W ev es) := fun W hW => ⟨nrow_below h hW, grow_below hE hW⟩
  have CH : Hid (∀ W, PFit w vv ev rd wr_0 x W → ∀ k, Calls Tryz.prog 19 #[.agg #[vv, ev, .int .i64 rd, .int .i64 wr_0], .int .i64 k] W fun e w' => e = .returned (.bool (decide (k ∈ vs))) ∧ Hid (PFit w vv ev rd wr_0 x w')) := fun W hW k => by
    refine (refHas k (nrow_below h hW.2.2.2.1) hlv).mono ?_
    rintro e w' ⟨rfl, g⟩
    exact ⟨rfl, hW.step g⟩
  have CT : Hid (∀ W, PFit w vv ev rd wr_0 x W → ∀ k, HasNo es k → Calls Tryz.prog 38 #[.agg #[vv, ev, .int .i64 rd, .int .i64 wr_0], .int .i64 k] W fun e w' => ∃ i : Nat, e = .returned (.int .i64 (i : Int)) ∧ Hid (PFit w vv ev rd wr_0 x w')) := fun W hW k hk => by
    refine (refAt k (grow_below hE hW.2.2.2.1) hl).mono ?_
    rintro e w' ⟨r, rfl, g⟩
    obtain ⟨g1, g2⟩ := unhide g
    rcases g1 with ⟨i, a, rfl, -, -⟩ | ⟨-, h1⟩
    · exact ⟨i, rfl, hW.step g2⟩
    · obtain ⟨j, b, hb, e⟩ := hk
      exact absurd e (h1 j b hb)
  have CA : Hid (∀ n W, Calls Tryz.prog 99 #[.int .u32 n] W fun e w' => e = .returned (ansK (kept n)) ∧ w' = W) := fun n W => refAdmit n W
  obtain ⟨va, vc, hvv, -⟩ := brow_shape h
  obtain ⟨vn, hvv'⟩ : ∃ vn, vv = .slice va vn vc := ⟨_, hvv⟩
  obtain ⟨ea, en, ec, hev⟩ := grow_shape hE
  have HP := hide (pfit_new w vv ev rd wr_0 x)
  clear h hE hvv hl hlv
  subst hvv' hev
  go_enter Tryz.func69, Tryz.ntmps69
  go_upto_region 1 with fail
  change Code.wp _ _ _ _ (((w.alloc (oG (.slice va vn vc) (.slice ea en ec) rd wr_0)).alloc (oX x)).alloc oZ)
  generalize ((w.alloc (oG (.slice va vn vc) (.slice ea en ec) rd wr_0)).alloc (oX x)).alloc oZ = wb at *
  have HZ : Hid (∃ b1 b2, b1 = w.heap.size + 1 ∧ b2 = w.heap.size + 2) := ⟨_, _, rfl, rfl⟩
  have n1 : ¬ w.heap.size = w.heap.size + 1 := by omega
  have n2 : ¬ w.heap.size + 1 = w.heap.size := by omega
  have n3 : ¬ w.heap.size = w.heap.size + 2 := by omega
  have n4 : ¬ w.heap.size + 2 = w.heap.size := by omega
  have n5 : ¬ w.heap.size + 1 = w.heap.size + 2 := by omega
  have n6 : ¬ w.heap.size + 2 = w.heap.size + 1 := by omega
  clear HZ
  have HCwb := unhide HP
  obtain ⟨c0, c1, c2, c3, cf⟩ := cellsG HCwb.1
  obtain ⟨x0, x1, x2, x3, xf⟩ := cellsX HCwb.2.1
  obtain ⟨d0, d1, d2, d3, df⟩ := cellsG (vv := .slice none 0 0) (ev := .slice none 0 0) (rd := 0) (wr := 0) HCwb.2.2.1
  clear HCwb
  go_wp2_with fail
  refine (unhide CH _ (unhide HP) _).mono ?_
  rintro e w2 ⟨rfl, H2⟩
  rw [decide_eq_false hu]
  clear c0 c1 c2 c3 cf x0 x1 x2 x3 xf d0 d1 d2 d3 df
  have HCw2 := unhide H2
  obtain ⟨c0, c1, c2, c3, cf⟩ := cellsG HCw2.1
  obtain ⟨x0, x1, x2, x3, xf⟩ := cellsX HCw2.2.1
  obtain ⟨d0, d1, d2, d3, df⟩ := cellsG (vv := .slice none 0 0) (ev := .slice none 0 0) (rd := 0) (wr := 0) HCw2.2.2.1
  clear HCw2
  go_wp2_with fail
  (try simp only [Exit.inBlock, Exit.then])
  change bodyPost _ _ _ _ _ (set4 w2 (w.heap.size + 2) _ _ _ _)
  refine bodyPost_ret (resG rfl _ _ (w.heap.size + 2) _ _ _ _ rfl (set4G_at (unhide H2).2.2.1 _ _ _ _)) rfl ?_
  have hB := set4_below (unhide H2).2.2.2.1 (by omega : w.heap.size ≤ w.heap.size + 2) (.slice va vn vc) (.slice ea en ec) (.int .i64 rd) (.int .i64 wr_0)
  exact ⟨_, _, rfl, (unhide HF _ hB).1, (unhide HF _ hB).2, hB, Apt.refl _ _, Apt.refl _ _⟩
end

section
open Go.RowKit Go.Maps
set_option maxHeartbeats 2000000 in
set_option maxRecDepth 100000 in
theorem refPutENoV {w : World} {vv ev : Value} {rd wr_0 : Int} {vs : List Int} {es : List EdgeV} (x : EdgeV) (h : NRow w vv vs) (hE : GRow 0 w ev es) (hlv : vs.length ≤ 1000000) (hl : es.length ≤ 1000000) (hx1 : ¬ x.1 < 1) (hx2 : ¬ 1024 < x.1) (hu : x.2.1 ∈ vs) (hv : x.2.2.1 ∉ vs) :
    Calls Tryz.prog 69 #[.agg #[vv, ev, .int .i64 rd, .int .i64 wr_0], .agg #[.int .i64 x.1, .int .i64 x.2.1, .int .i64 x.2.2.1, .int .u32 x.2.2.2]] w fun e w' => Hid (AnsG w vv ev vs es rd wr_0 5 e w') := by
  have HF : Hid (∀ W, Below w.heap.size w W → NRow W vv vs ∧ GRow 0 W ev es) := fun W hW => ⟨nrow_below h hW, grow_below hE hW⟩
  have CH : Hid (∀ W, PFit w vv ev rd wr_0 x W → ∀ k, Calls Tryz.prog 19 #[.agg #[vv, ev, .int .i64 rd, .int .i64 wr_0], .int .i64 k] W fun e w' => e = .returned (.bool (decide (k ∈ vs))) ∧ Hid (PFit w vv ev rd wr_0 x w')) := fun W hW k => by
    refine (refHas k (nrow_below h hW.2.2.2.1) hlv).mono ?_
    rintro e w' ⟨rfl, g⟩
    exact ⟨rfl, hW.step g⟩
  have CT : Hid (∀ W, PFit w vv ev rd wr_0 x W → ∀ k, HasNo es k → Calls Tryz.prog 38 #[.agg #[vv, ev, .int .i64 rd, .int .i64 wr_0], .int .i64 k] W fun e w' => ∃ i : Nat, e = .returned (.int .i64 (i : Int)) ∧ Hid (PFit w vv ev rd wr_0 x w')) := fun W hW k hk => by
    refine (refAt k (grow_below hE hW.2.2.2.1) hl).mono ?_
    rintro e w' ⟨r, rfl, g⟩
    obtain ⟨g1, g2⟩ := unhide g
    rcases g1 with ⟨i, a, rfl, -, -⟩ | ⟨-, h1⟩
    · exact ⟨i, rfl, hW.step g2⟩
    · obtain ⟨j, b, hb, e⟩ := hk
      exact absurd e (h1 j b hb)
  have CA : Hid (∀ n W, Calls Tryz.prog 99 #[.int .u32 n] W fun e w' => e = .returned (ansK (kept n)) ∧ w' = W) := fun n W => refAdmit n W
  obtain ⟨va, vc, hvv, -⟩ := brow_shape h
  obtain ⟨vn, hvv'⟩ : ∃ vn, vv = .slice va vn vc := ⟨_, hvv⟩
  obtain ⟨ea, en, ec, hev⟩ := grow_shape hE
  have HP := hide (pfit_new w vv ev rd wr_0 x)
  clear h hE hvv hl hlv
  subst hvv' hev
  go_enter Tryz.func69, Tryz.ntmps69
  go_upto_region 1 with fail
  change Code.wp _ _ _ _ (((w.alloc (oG (.slice va vn vc) (.slice ea en ec) rd wr_0)).alloc (oX x)).alloc oZ)
  generalize ((w.alloc (oG (.slice va vn vc) (.slice ea en ec) rd wr_0)).alloc (oX x)).alloc oZ = wb at *
  have HZ : Hid (∃ b1 b2, b1 = w.heap.size + 1 ∧ b2 = w.heap.size + 2) := ⟨_, _, rfl, rfl⟩
  have n1 : ¬ w.heap.size = w.heap.size + 1 := by omega
  have n2 : ¬ w.heap.size + 1 = w.heap.size := by omega
  have n3 : ¬ w.heap.size = w.heap.size + 2 := by omega
  have n4 : ¬ w.heap.size + 2 = w.heap.size := by omega
  have n5 : ¬ w.heap.size + 1 = w.heap.size + 2 := by omega
  have n6 : ¬ w.heap.size + 2 = w.heap.size + 1 := by omega
  clear HZ
  have HCwb := unhide HP
  obtain ⟨c0, c1, c2, c3, cf⟩ := cellsG HCwb.1
  obtain ⟨x0, x1, x2, x3, xf⟩ := cellsX HCwb.2.1
  obtain ⟨d0, d1, d2, d3, df⟩ := cellsG (vv := .slice none 0 0) (ev := .slice none 0 0) (rd := 0) (wr := 0) HCwb.2.2.1
  clear HCwb
  go_wp2_with fail
  refine (unhide CH _ (unhide HP) _).mono ?_
  rintro e w2 ⟨rfl, H2⟩
  rw [decide_eq_true hu]
  clear c0 c1 c2 c3 cf x0 x1 x2 x3 xf d0 d1 d2 d3 df
  have HCw2 := unhide H2
  obtain ⟨c0, c1, c2, c3, cf⟩ := cellsG HCw2.1
  obtain ⟨x0, x1, x2, x3, xf⟩ := cellsX HCw2.2.1
  obtain ⟨d0, d1, d2, d3, df⟩ := cellsG (vv := .slice none 0 0) (ev := .slice none 0 0) (rd := 0) (wr := 0) HCw2.2.2.1
  clear HCw2
  go_wp2_with fail
  refine (unhide CH _ (unhide H2) _).mono ?_
  rintro e w3 ⟨rfl, H3⟩
  rw [decide_eq_false hv]
  clear c0 c1 c2 c3 cf x0 x1 x2 x3 xf d0 d1 d2 d3 df
  have HCw3 := unhide H3
  obtain ⟨c0, c1, c2, c3, cf⟩ := cellsG HCw3.1
  obtain ⟨x0, x1, x2, x3, xf⟩ := cellsX HCw3.2.1
  obtain ⟨d0, d1, d2, d3, df⟩ := cellsG (vv := .slice none 0 0) (ev := .slice none 0 0) (rd := 0) (wr := 0) HCw3.2.2.1
  clear HCw3
  go_wp2_with fail
  (try simp only [Exit.inBlock, Exit.then])
  change bodyPost _ _ _ _ _ (set4 w3 (w.heap.size + 2) _ _ _ _)
  refine bodyPost_ret (resG rfl _ _ (w.heap.size + 2) _ _ _ _ rfl (set4G_at (unhide H3).2.2.1 _ _ _ _)) rfl ?_
  have hB := set4_below (unhide H3).2.2.2.1 (by omega : w.heap.size ≤ w.heap.size + 2) (.slice va vn vc) (.slice ea en ec) (.int .i64 rd) (.int .i64 wr_0)
  exact ⟨_, _, rfl, (unhide HF _ hB).1, (unhide HF _ hB).2, hB, Apt.refl _ _, Apt.refl _ _⟩
end

section
open Go.RowKit Go.Maps
set_option maxHeartbeats 2000000 in
set_option maxRecDepth 100000 in
theorem refPutEBad {w : World} {vv ev : Value} {rd wr_0 : Int} {vs : List Int} {es : List EdgeV} (x : EdgeV) (h : NRow w vv vs) (hE : GRow 0 w ev es) (hlv : vs.length ≤ 1000000) (hl : es.length ≤ 1000000) (hx1 : ¬ x.1 < 1) (hx2 : ¬ 1024 < x.1) (hu : x.2.1 ∈ vs) (hv : x.2.2.1 ∈ vs) (hk : kept x.2.2.2 = none) :
    Calls Tryz.prog 69 #[.agg #[vv, ev, .int .i64 rd, .int .i64 wr_0], .agg #[.int .i64 x.1, .int .i64 x.2.1, .int .i64 x.2.2.1, .int .u32 x.2.2.2]] w fun e w' => Hid (AnsG w vv ev vs es rd wr_0 7 e w') := by
  have HF : Hid (∀ W, Below w.heap.size w W → NRow W vv vs ∧ GRow 0 W ev es) := fun W hW => ⟨nrow_below h hW, grow_below hE hW⟩
  have CH : Hid (∀ W, PFit w vv ev rd wr_0 x W → ∀ k, Calls Tryz.prog 19 #[.agg #[vv, ev, .int .i64 rd, .int .i64 wr_0], .int .i64 k] W fun e w' => e = .returned (.bool (decide (k ∈ vs))) ∧ Hid (PFit w vv ev rd wr_0 x w')) := fun W hW k => by
    refine (refHas k (nrow_below h hW.2.2.2.1) hlv).mono ?_
    rintro e w' ⟨rfl, g⟩
    exact ⟨rfl, hW.step g⟩
  have CT : Hid (∀ W, PFit w vv ev rd wr_0 x W → ∀ k, HasNo es k → Calls Tryz.prog 38 #[.agg #[vv, ev, .int .i64 rd, .int .i64 wr_0], .int .i64 k] W fun e w' => ∃ i : Nat, e = .returned (.int .i64 (i : Int)) ∧ Hid (PFit w vv ev rd wr_0 x w')) := fun W hW k hk => by
    refine (refAt k (grow_below hE hW.2.2.2.1) hl).mono ?_
    rintro e w' ⟨r, rfl, g⟩
    obtain ⟨g1, g2⟩ := unhide g
    rcases g1 with ⟨i, a, rfl, -, -⟩ | ⟨-, h1⟩
    · exact ⟨i, rfl, hW.step g2⟩
    · obtain ⟨j, b, hb, e⟩ := hk
      exact absurd e (h1 j b hb)
  have CA : Hid (∀ n W, Calls Tryz.prog 99 #[.int .u32 n] W fun e w' => e = .returned (ansK (kept n)) ∧ w' = W) := fun n W => refAdmit n W
  obtain ⟨va, vc, hvv, -⟩ := brow_shape h
  obtain ⟨vn, hvv'⟩ : ∃ vn, vv = .slice va vn vc := ⟨_, hvv⟩
  obtain ⟨ea, en, ec, hev⟩ := grow_shape hE
  have HP := hide (pfit_new w vv ev rd wr_0 x)
  clear h hE hvv hl hlv
  subst hvv' hev
  go_enter Tryz.func69, Tryz.ntmps69
  go_upto_region 1 with fail
  change Code.wp _ _ _ _ (((w.alloc (oG (.slice va vn vc) (.slice ea en ec) rd wr_0)).alloc (oX x)).alloc oZ)
  generalize ((w.alloc (oG (.slice va vn vc) (.slice ea en ec) rd wr_0)).alloc (oX x)).alloc oZ = wb at *
  have HZ : Hid (∃ b1 b2, b1 = w.heap.size + 1 ∧ b2 = w.heap.size + 2) := ⟨_, _, rfl, rfl⟩
  have n1 : ¬ w.heap.size = w.heap.size + 1 := by omega
  have n2 : ¬ w.heap.size + 1 = w.heap.size := by omega
  have n3 : ¬ w.heap.size = w.heap.size + 2 := by omega
  have n4 : ¬ w.heap.size + 2 = w.heap.size := by omega
  have n5 : ¬ w.heap.size + 1 = w.heap.size + 2 := by omega
  have n6 : ¬ w.heap.size + 2 = w.heap.size + 1 := by omega
  clear HZ
  have HCwb := unhide HP
  obtain ⟨c0, c1, c2, c3, cf⟩ := cellsG HCwb.1
  obtain ⟨x0, x1, x2, x3, xf⟩ := cellsX HCwb.2.1
  obtain ⟨d0, d1, d2, d3, df⟩ := cellsG (vv := .slice none 0 0) (ev := .slice none 0 0) (rd := 0) (wr := 0) HCwb.2.2.1
  clear HCwb
  go_wp2_with fail
  refine (unhide CH _ (unhide HP) _).mono ?_
  rintro e w2 ⟨rfl, H2⟩
  rw [decide_eq_true hu]
  clear c0 c1 c2 c3 cf x0 x1 x2 x3 xf d0 d1 d2 d3 df
  have HCw2 := unhide H2
  obtain ⟨c0, c1, c2, c3, cf⟩ := cellsG HCw2.1
  obtain ⟨x0, x1, x2, x3, xf⟩ := cellsX HCw2.2.1
  obtain ⟨d0, d1, d2, d3, df⟩ := cellsG (vv := .slice none 0 0) (ev := .slice none 0 0) (rd := 0) (wr := 0) HCw2.2.2.1
  clear HCw2
  go_wp2_with fail
  refine (unhide CH _ (unhide H2) _).mono ?_
  rintro e w3 ⟨rfl, H3⟩
  rw [decide_eq_true hv]
  clear c0 c1 c2 c3 cf x0 x1 x2 x3 xf d0 d1 d2 d3 df
  have HCw3 := unhide H3
  obtain ⟨c0, c1, c2, c3, cf⟩ := cellsG HCw3.1
  obtain ⟨x0, x1, x2, x3, xf⟩ := cellsX HCw3.2.1
  obtain ⟨d0, d1, d2, d3, df⟩ := cellsG (vv := .slice none 0 0) (ev := .slice none 0 0) (rd := 0) (wr := 0) HCw3.2.2.1
  clear HCw3
  go_wp2_with fail
  refine (unhide CA _ _).mono ?_
  rintro e w4 ⟨rfl, rfl⟩
  rw [hk]
  unfold ansK
  go_wp2_with fail
  (try simp only [Exit.inBlock, Exit.then])
  change bodyPost _ _ _ _ _ (set4 w4 (w.heap.size + 2) _ _ _ _)
  refine bodyPost_ret (resG rfl _ _ (w.heap.size + 2) _ _ _ _ rfl (set4G_at (unhide H3).2.2.1 _ _ _ _)) rfl ?_
  have hB := set4_below (unhide H3).2.2.2.1 (by omega : w.heap.size ≤ w.heap.size + 2) (.slice va vn vc) (.slice ea en ec) (.int .i64 rd) (.int .i64 wr_0)
  exact ⟨_, _, rfl, (unhide HF _ hB).1, (unhide HF _ hB).2, hB, Apt.refl _ _, Apt.refl _ _⟩
end
end
end Go.Proofs.YtagibmgbjhemkaaGreat
