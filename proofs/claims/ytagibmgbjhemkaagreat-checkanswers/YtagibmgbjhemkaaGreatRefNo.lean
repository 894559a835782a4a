/- The reference's DropEdge and Reweigh where there is no such edge. -/
import Derived.Test.YtagibmgbjhemkaaGreatRefEdge
namespace Go.Proofs.YtagibmgbjhemkaaGreat
open Go.RowKit Go.Maps

theorem results_cell_tmp_tmp {fn : Func} {p u q : Tmp} {ty : TypeId} (h : fn.results = #[.cell p ty, .tmp u, .tmp q]) (tmps : Array Value) (P : Program) (w : World) (x : Addr) (vx : Value) (hp : tmps.getD p undef = .pointer (some x)) (hx : (loadVar ty x).run P w = .ok vx w) :
    (results fn tmps).run P w = .ok (.tuple #[vx, tmps.getD u undef, tmps.getD q undef]) w := by
  have hp' : tmps[p]?.getD undef = .pointer (some x) := by simpa using hp
  simp [results, h, hp', asAddr, hx]
/-- What a call of the reference answers: a graph, a word, a code. -/
def AnsGU (w : World) (vv0 ev0 : Value) (vs : List Int) (es : List EdgeV) (rd wr n code : Int) (e : Ending) (w' : World) : Prop :=
  ∃ vv ev, e = .returned (.tuple #[.agg #[vv, ev, .int .i64 rd, .int .i64 wr], .int .u32 n, .int .i64 code]) ∧ NRow w' vv vs ∧ GRow 0 w' ev es ∧ Below w.heap.size w w' ∧ Apt w vv0 vv ∧ Apt w ev0 ev

set_option maxHeartbeats 2000000 in
set_option maxRecDepth 100000 in
theorem refDropENo {w : World} {vv ev : Value} {rd wr_0 : Int} {vs : List Int} {es : List EdgeV} (v : Int) (h : NRow w vv vs) (hE : GRow 0 w ev es) (hl : es.length ≤ 1000000) (hno : ¬ HasNo es v) :
    Calls Tryz.prog 70 #[.agg #[vv, ev, .int .i64 rd, .int .i64 wr_0], .int .i64 v] w fun e w' => Hid (AnsGE w vv ev vs es rd wr_0 (0, 0, 0, 0) 6 e w') := by
  obtain ⟨t1, t2, t3, t4, t5⟩ := three_boxes w (oG vv ev rd wr_0)
  obtain ⟨c0, c1, c2, c3, cf⟩ := cellsG t1
  have HF : Hid (∀ W, Below w.heap.size w W → NRow W vv vs ∧ GRow 0 W ev es) := fun W hW => ⟨nrow_below h hW, grow_below hE hW⟩
  have CH : Hid (Calls Tryz.prog 38 #[.agg #[vv, ev, .int .i64 rd, .int .i64 wr_0], .int .i64 v] (((w.alloc (oG vv ev rd wr_0)).alloc oZ).alloc o34) fun e w2 => e = .returned (.int .i64 (-1)) ∧ Hid (w2.heap[w.heap.size + 1]? = some oZ ∧ w2.heap[w.heap.size + 2]? = some o34 ∧ w2.heap[w.heap.size]? = some (oG vv ev rd wr_0) ∧ Below w.heap.size w w2)) := by
    refine (refAt v (grow_below hE t4) hl).mono ?_
    rintro e w2 ⟨r, rfl, g⟩
    obtain ⟨g1, g2⟩ := unhide g
    have hr : r = -1 := by
      rcases g1 with ⟨i, a, rfl, k1, k2, -⟩ | ⟨e, -⟩
      · exact absurd ⟨i, a, k1, k2⟩ hno
      · exact e
    subst hr
    have gs := g2.size
    exact ⟨rfl, (g2.block _ (by omega)).trans t2, (g2.block _ (by omega)).trans t3, (g2.block _ (by omega)).trans t1, t4.trans (g2.mono (by omega))⟩
  obtain ⟨va, vc, hvv, -⟩ := brow_shape h
  obtain ⟨vn, hvv'⟩ : ∃ vn, vv = .slice va vn vc := ⟨_, hvv⟩
  obtain ⟨ea, en, ec, hev⟩ := grow_shape hE
  clear t1 t2 t3 t4 t5 h hE hvv hl hno
  subst hvv' hev
  go_enter Tryz.func70, Tryz.ntmps70
  go_upto_region 1 with fail
  change Code.wp _ _ _ _ (((w.alloc (oG (.slice va vn vc) (.slice ea en ec) rd wr_0)).alloc oZ).alloc o34)
  generalize ((w.alloc (oG (.slice va vn vc) (.slice ea en ec) rd wr_0)).alloc oZ).alloc o34 = wb at *
  have hne1 : ¬ w.heap.size = w.heap.size + 1 := by omega
  generalize hb2 : w.heap.size + 2 = b2 at *
  generalize hb1 : w.heap.size + 1 = b1 at *
  generalize hbb : w.heap.size = bb at *
  go_wp2_with fail
  refine (unhide CH).mono ?_
  rintro e w2 ⟨rfl, h2⟩
  obtain ⟨k1, k2, k3, k4⟩ := unhide h2
  clear c0 c1 c2 c3 cf CH h2
  obtain ⟨c0, c1, c2, c3, cf⟩ := cellsG k3
  obtain ⟨d0, d1, d2, d3, df⟩ := cellsG (vv := .slice none 0 0) (ev := .slice none 0 0) (rd := 0) (wr := 0) k1
  obtain ⟨x0, x1, x2, x3, xf⟩ := cells34 k2
  have HT1 := hide k1
  have HT2 := hide k2
  have HB := hide k4
  have n1 : ¬ bb = b1 := by omega
  have n2 : ¬ b1 = bb := by omega
  have n3 : ¬ bb = b2 := by omega
  have n4 : ¬ b2 = bb := by omega
  have n5 : ¬ b1 = b2 := by omega
  have n6 : ¬ b2 = b1 := by omega
  clear k1 k2 k3 k4
  go_wp2_with fail
  (try simp only [Exit.inBlock, Exit.then])
  change bodyPost _ _ _ _ _ (set4 (set4 w2 b1 _ _ _ _) b2 _ _ _ _)
  refine bodyPost_ret (results_cell_cell_tmp rfl _ _ _ ⟨b1, 0, none⟩ ⟨b2, 0, none⟩ _ _ rfl rfl (loadG _ _ _ _ _ _ ((set4_other n5 _ _ _ _).trans (set4G_at (unhide HT1) _ _ _ _))) (load34 _ _ _ _ _ _ (set4_at ((set4_other n6 _ _ _ _).trans (unhide HT2)) _ _ _ _))) rfl ?_
  have hB := set4_below (set4_below (unhide HB) (by omega : bb ≤ b1) (.slice va vn vc) (.slice ea en ec) (.int .i64 rd) (.int .i64 wr_0)) (by omega : bb ≤ b2) (.int .i64 0) (.int .i64 0) (.int .i64 0) (.int .u32 0)
  exact ⟨_, _, rfl, (unhide HF _ hB).1, (unhide HF _ hB).2, by first | exact hB | (rw [hbb]; exact hB), Apt.refl _ _, Apt.refl _ _⟩

set_option maxHeartbeats 2000000 in
set_option maxRecDepth 100000 in
theorem refReweighNo {w : World} {vv ev : Value} {rd wr_0 : Int} {vs : List Int} {es : List EdgeV} (v n : Int) (h : NRow w vv vs) (hE : GRow 0 w ev es) (hl : es.length ≤ 1000000) (hno : ¬ HasNo es v) :
    Calls Tryz.prog 72 #[.agg #[vv, ev, .int .i64 rd, .int .i64 wr_0], .int .i64 v, .int .u32 n] w fun e w' => Hid (AnsGU w vv ev vs es rd wr_0 0 6 e w') := by
  obtain ⟨t1, t2, t4, t5⟩ := two_boxes w (oG vv ev rd wr_0)
  obtain ⟨c0, c1, c2, c3, cf⟩ := cellsG t1
  have HF : Hid (∀ W, Below w.heap.size w W → NRow W vv vs ∧ GRow 0 W ev es) := fun W hW => ⟨nrow_below h hW, grow_below hE hW⟩
  have CH : Hid (Calls Tryz.prog 38 #[.agg #[vv, ev, .int .i64 rd, .int .i64 wr_0], .int .i64 v] ((w.alloc (oG vv ev rd wr_0)).alloc oZ) fun e w2 => e = .returned (.int .i64 (-1)) ∧ Hid (w2.heap[w.heap.size + 1]? = some oZ ∧ w2.heap[w.heap.size]? = some (oG vv ev rd wr_0) ∧ Below w.heap.size w w2)) := by
    refine (refAt v (grow_below hE t4) hl).mono ?_
    rintro e w2 ⟨r, rfl, g⟩
    obtain ⟨g1, g2⟩ := unhide g
    have hr : r = -1 := by
      rcases g1 with ⟨i, a, rfl, k1, k2, -⟩ | ⟨e, -⟩
      · exact absurd ⟨i, a, k1, k2⟩ hno
      · exact e
    subst hr
    have gs := g2.size
    exact ⟨rfl, (g2.block _ (by omega)).trans t2, (g2.block _ (by omega)).trans t1, t4.trans (g2.mono (by omega))⟩
  obtain ⟨va, vc, hvv, -⟩ := brow_shape h
  obtain ⟨vn, hvv'⟩ : ∃ vn, vv = .slice va vn vc := ⟨_, hvv⟩
  obtain ⟨ea, en, ec, hev⟩ := grow_shape hE
  clear t1 t2 t4 t5 h hE hvv hl hno
  subst hvv' hev
  go_enter Tryz.func72, Tryz.ntmps72
  go_upto_region 1 with fail
  change Code.wp _ _ _ _ ((w.alloc (oG (.slice va vn vc) (.slice ea en ec) rd wr_0)).alloc oZ)
  generalize (w.alloc (oG (.slice va vn vc) (.slice ea en ec) rd wr_0)).alloc oZ = wb at *
  have hne1 : ¬ w.heap.size = w.heap.size + 1 := by omega
  generalize hb1 : w.heap.size + 1 = b1 at *
  generalize hbb : w.heap.size = bb at *
  go_wp2_with fail
  refine (unhide CH).mono ?_
  rintro e w2 ⟨rfl, h2⟩
  obtain ⟨k1, k3, k4⟩ := unhide h2
  clear c0 c1 c2 c3 cf CH h2
  obtain ⟨c0, c1, c2, c3, cf⟩ := cellsG k3
  obtain ⟨d0, d1, d2, d3, df⟩ := cellsG (vv := .slice none 0 0) (ev := .slice none 0 0) (rd := 0) (wr := 0) k1
  have HT1 := hide k1
  have HB := hide k4
  have n1 : ¬ bb = b1 := by omega
  have n2 : ¬ b1 = bb := by omega
  clear k1 k3 k4
  go_wp2_with fail
  (try simp only [Exit.inBlock, Exit.then])
  change bodyPost _ _ _ _ _ (set4 w2 b1 _ _ _ _)
  refine bodyPost_ret (results_cell_tmp_tmp rfl _ _ _ ⟨b1, 0, none⟩ _ rfl (loadG _ _ _ _ _ _ (set4G_at (unhide HT1) _ _ _ _))) rfl ?_
  have hB := set4_below (unhide HB) (by omega : bb ≤ b1) (.slice va vn vc) (.slice ea en ec) (.int .i64 rd) (.int .i64 wr_0)
  exact ⟨_, _, rfl, (unhide HF _ hB).1, (unhide HF _ hB).2, by first | exact hB | (rw [hbb]; exact hB), Apt.refl _ _, Apt.refl _ _⟩
end Go.Proofs.YtagibmgbjhemkaaGreat
