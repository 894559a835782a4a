/- The reference's AddEdge where it refuses. -/
import Derived.Test.YtagibmgbjhemkaaGreatRefAddF
namespace Go.Proofs.YtagibmgbjhemkaaGreat
open Go.RowKit Go.Maps

set_option maxHeartbeats 2000000 in
set_option maxRecDepth 100000 in
theorem refAddENoU {w : World} {vv ev : Value} {rd wr_0 : Int} {vs : List Int} {es : List EdgeV} (u v n : Int) (h : NRow w vv vs) (hE : GRow 0 w ev es) (hlv : vs.length ≤ 1000000) (hl : es.length ≤ 1000000) (hu : u ∉ vs) :
    Calls Tryz.prog 68 #[.agg #[vv, ev, .int .i64 rd, .int .i64 wr_0], .int .i64 u, .int .i64 v, .int .u32 n] w fun e w' => Hid (AnsGI w vv ev vs es rd wr_0 0 5 e w') := by
  have HF : Hid (∀ W, Below w.heap.size w W → NRow W vv vs ∧ GRow 0 W ev es) := fun W hW => ⟨nrow_below h hW, grow_below hE hW⟩
  have CH : Hid (∀ W, AFit w vv ev rd wr_0 W → ∀ k, Calls Tryz.prog 19 #[.agg #[vv, ev, .int .i64 rd, .int .i64 wr_0], .int .i64 k] W fun e w' => e = .returned (.bool (decide (k ∈ vs))) ∧ Hid (AFit w vv ev rd wr_0 w')) := fun W hW k => by
    refine (refHas k (nrow_below h hW.2.2.1) hlv).mono ?_
    rintro e w' ⟨rfl, g⟩
    exact ⟨rfl, hW.step g⟩
  have CA : Hid (∀ n W, Calls Tryz.prog 99 #[.int .u32 n] W fun e w' => e = .returned (ansK (kept n)) ∧ w' = W) := fun n W => refAdmit n W
  obtain ⟨va, vc, hvv, -⟩ := brow_shape h
  obtain ⟨vn, hvv'⟩ : ∃ vn, vv = .slice va vn vc := ⟨_, hvv⟩
  obtain ⟨ea, en, ec, hev⟩ := grow_shape hE
  have CT : Hid (∀ W, AFit w vv ev rd wr_0 W → Calls Tryz.prog 58 #[.agg #[vv, ev, .int .i64 rd, .int .i64 wr_0]] W fun e w' => ∃ r, e = .returned (.int .i64 r) ∧ Hid (RFree es r ∧ AFit w vv ev rd wr_0 w')) := fun W hW => by
    refine (refFree (grow_below hE hW.2.2.1) hl ⟨_, _, _, hvv'⟩).mono ?_
    rintro e w' ⟨r, rfl, g⟩
    exact ⟨r, rfl, (unhide g).1, hW.step (unhide g).2⟩
  have HP := hide (afit_new w vv ev rd wr_0)
  clear h hE hvv hl hlv
  subst hvv' hev
  go_enter Tryz.func68, Tryz.ntmps68
  go_upto_region 1 with fail
  change Code.wp _ _ _ _ ((w.alloc (oG (.slice va vn vc) (.slice ea en ec) rd wr_0)).alloc oZ)
  generalize (w.alloc (oG (.slice va vn vc) (.slice ea en ec) rd wr_0)).alloc oZ = wb at *
  have n1 : ¬ w.heap.size = w.heap.size + 1 := by omega
  have n2 : ¬ w.heap.size + 1 = w.heap.size := by omega
  have HCwb := unhide HP
  obtain ⟨c0, c1, c2, c3, cf⟩ := cellsG HCwb.1
  obtain ⟨d0, d1, d2, d3, df⟩ := cellsG (vv := .slice none 0 0) (ev := .slice none 0 0) (rd := 0) (wr := 0) HCwb.2.1
  clear HCwb
  go_wp2_with fail
  refine (unhide CH _ (unhide HP) _).mono ?_
  rintro e w2 ⟨rfl, H2⟩
  rw [decide_eq_false hu]
  clear c0 c1 c2 c3 cf d0 d1 d2 d3 df
  have HCw2 := unhide H2
  obtain ⟨c0, c1, c2, c3, cf⟩ := cellsG HCw2.1
  obtain ⟨d0, d1, d2, d3, df⟩ := cellsG (vv := .slice none 0 0) (ev := .slice none 0 0) (rd := 0) (wr := 0) HCw2.2.1
  clear HCw2
  go_wp2_with fail
  (try simp only [Exit.inBlock, Exit.then])
  change bodyPost _ _ _ _ _ (set4 w2 (w.heap.size + 1) _ _ _ _)
  refine bodyPost_ret (results_cell_tmp_tmp rfl _ _ _ ⟨w.heap.size + 1, 0, none⟩ _ rfl (loadG _ _ _ _ _ _ (set4G_at (unhide H2).2.1 _ _ _ _))) rfl ?_
  have hB := set4_below (unhide H2).2.2.1 (by omega : w.heap.size ≤ w.heap.size + 1) (.slice va vn vc) (.slice ea en ec) (.int .i64 rd) (.int .i64 wr_0)
  exact ⟨_, _, rfl, (unhide HF _ hB).1, (unhide HF _ hB).2, hB, Apt.refl _ _, Apt.refl _ _⟩
end Go.Proofs.YtagibmgbjhemkaaGreat
