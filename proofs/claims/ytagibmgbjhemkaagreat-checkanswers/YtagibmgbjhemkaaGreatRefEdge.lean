/- The reference's Edge. -/
import Derived.Test.YtagibmgbjhemkaaGreatRefFree
namespace Go.Proofs.YtagibmgbjhemkaaGreat
open Go.RowKit Go.Maps

theorem results_cell_cell_tmp {fn : Func} {p q u : Tmp} {ty ty2 : TypeId} (h : fn.results = #[.cell p ty, .cell q ty2, .tmp u]) (tmps : Array Value) (P : Program) (w : World) (x y : Addr) (vx vy : Value) (hp : tmps.getD p undef = .pointer (some x)) (hq : tmps.getD q undef = .pointer (some y)) (hx : (loadVar ty x).run P w = .ok vx w) (hy : (loadVar ty2 y).run P w = .ok vy w) :
    (results fn tmps).run P w = .ok (.tuple #[vx, vy, tmps.getD u undef]) w := by
  have hp' : tmps[p]?.getD undef = .pointer (some x) := by simpa using hp
  have hq' : tmps[q]?.getD undef = .pointer (some y) := by simpa using hq
  simp [results, h, hp', hq', asAddr, hx, hy]
theorem drewAt {w : World} {b : Nat} {o : Obj} (h : w.heap[b]? = some o) : w.drew.heap[b]? = some o := h
/-- A graph's box, the box of the result, and that of a record. -/
theorem three_boxes (w : World) (o : Obj) : (((w.alloc o).alloc oZ).alloc o34).heap[w.heap.size]? = some o ∧ (((w.alloc o).alloc oZ).alloc o34).heap[w.heap.size + 1]? = some oZ ∧ (((w.alloc o).alloc oZ).alloc o34).heap[w.heap.size + 2]? = some o34 ∧ Below w.heap.size w (((w.alloc o).alloc oZ).alloc o34) ∧ (((w.alloc o).alloc oZ).alloc o34).heap.size = w.heap.size + 3 := by
  obtain ⟨h1, h2, h3, h4⟩ := two_boxes w o
  refine ⟨(heap_alloc_old _ _ (by omega)).trans h1, (heap_alloc_old _ _ (by omega)).trans h2, ?_, h3.trans ((below_new _ _).mono (by omega)), by simp⟩
  have := heap_alloc_new ((w.alloc o).alloc oZ) o34
  rwa [h4] at this

/-- What a call of the reference answers: a graph, a record, a code. -/
def AnsGE (w : World) (vv0 ev0 : Value) (vs : List Int) (es : List EdgeV) (rd wr : Int) (x : EdgeV) (code : Int) (e : Ending) (w' : World) : Prop :=
  ∃ vv ev, e = .returned (.tuple #[.agg #[vv, ev, .int .i64 rd, .int .i64 wr], .agg #[.int .i64 x.1, .int .i64 x.2.1, .int .i64 x.2.2.1, .int .u32 x.2.2.2], .int .i64 code]) ∧ NRow w' vv vs ∧ GRow 0 w' ev es ∧ Below w.heap.size w w' ∧ Apt w vv0 vv ∧ Apt w ev0 ev

set_option maxHeartbeats 2000000 in
set_option maxRecDepth 100000 in
theorem refEdgeNo {w : World} {vv ev : Value} {rd wr_0 : Int} {vs : List Int} {es : List EdgeV} (v : Int) (h : NRow w vv vs) (hE : GRow 0 w ev es) (hl : es.length ≤ 1000000) (hno : ¬ HasNo es v) :
    Calls Tryz.prog 74 #[.agg #[vv, ev, .int .i64 rd, .int .i64 wr_0], .int .i64 v] w fun e w' => Hid (AnsGE w vv ev vs es rd wr_0 (0, 0, 0, 0) 6 e w') := by
  obtain ⟨t1, t2, t3, t4, t5⟩ := three_boxes w (oG vv ev rd wr_0)
  obtain ⟨c0, c1, c2, c3, cf⟩ := cellsG t1
  have HF : Hid (∀ W, Below w.heap.size w W → NRow W vv vs ∧ GRow 0 W ev es) := fun W hW => ⟨nrow_below h hW, grow_below hE hW⟩
  have CH : Hid (Calls Tryz.prog 38 #[.agg #[vv, ev, .int .i64 rd, .int .i64 wr_0], .int .i64 v] (((w.alloc (oG vv ev rd wr_0)).alloc oZ).alloc o34) fun e w2 => e = .returned (.int .i64 (-1)) ∧ Hid (w2.heap[w.heap.size + 1]? = some oZ ∧ w2.heap[w.heap.size + 2]? = some o34 ∧ w2.heap[w.heap.size]? = some (oG vv ev rd wr_0) ∧ Below w.heap.size w w2)) := by
    refine (refAt v (grow_below hE t4) hl).mono ?_
    rintro e w2 ⟨r, rfl, g⟩
    obtain ⟨g1, g2⟩ := unhide g
    have hr : r = -1 := by
      rcases g1 with ⟨i, a, rfl, k1, k2, -⟩ | ⟨e, -⟩
      · exact absurd ⟨i, a, k1, k2⟩ hno
      · exact e
    subst hr
    have gs := g2.size
    exact ⟨rfl, (g2.block _ (by omega)).trans t2, (g2.block _ (by omega)).trans t3, (g2.block _ (by omega)).trans t1, t4.trans (g2.mono (by omega))⟩
  obtain ⟨va, vc, hvv, -⟩ := brow_shape h
  obtain ⟨vn, hvv'⟩ : ∃ vn, vv = .slice va vn vc := ⟨_, hvv⟩
  obtain ⟨ea, en, ec, hev⟩ := grow_shape hE
  clear t1 t2 t3 t4 t5 h hE hvv hl hno
  subst hvv' hev
  go_enter Tryz.func74, Tryz.ntmps74
  go_upto_region 1 with fail
  change Code.wp _ _ _ _ (((w.alloc (oG (.slice va vn vc) (.slice ea en ec) rd wr_0)).alloc oZ).alloc o34)
  generalize ((w.alloc (oG (.slice va vn vc) (.slice ea en ec) rd wr_0)).alloc oZ).alloc o34 = wb at *
  have hne1 : ¬ w.heap.size = w.heap.size + 1 := by omega
  generalize hb2 : w.heap.size + 2 = b2 at *
  generalize hb1 : w.heap.size + 1 = b1 at *
  generalize hbb : w.heap.size = bb at *
  go_wp2_with fail
  refine (unhide CH).mono ?_
  rintro e w2 ⟨rfl, h2⟩
  obtain ⟨k1, k2, k3, k4⟩ := unhide h2
  clear c0 c1 c2 c3 cf CH h2
  obtain ⟨c0, c1, c2, c3, cf⟩ := cellsG k3
  obtain ⟨d0, d1, d2, d3, df⟩ := cellsG (vv := .slice none 0 0) (ev := .slice none 0 0) (rd := 0) (wr := 0) k1
  obtain ⟨x0, x1, x2, x3, xf⟩ := cells34 k2
  have HT1 := hide k1
  have HT2 := hide k2
  have HB := hide k4
  have n1 : ¬ bb = b1 := by omega
  have n2 : ¬ b1 = bb := by omega
  have n3 : ¬ bb = b2 := by omega
  have n4 : ¬ b2 = bb := by omega
  have n5 : ¬ b1 = b2 := by omega
  have n6 : ¬ b2 = b1 := by omega
  clear k1 k2 k3 k4
  go_wp2_with fail
  (try simp only [Exit.inBlock, Exit.then])
  change bodyPost _ _ _ _ _ (set4 (set4 w2 b1 _ _ _ _) b2 _ _ _ _)
  refine bodyPost_ret (results_cell_cell_tmp rfl _ _ _ ⟨b1, 0, none⟩ ⟨b2, 0, none⟩ _ _ rfl rfl (loadG _ _ _ _ _ _ ((set4_other n5 _ _ _ _).trans (set4G_at (unhide HT1) _ _ _ _))) (load34 _ _ _ _ _ _ (set4_at ((set4_other n6 _ _ _ _).trans (unhide HT2)) _ _ _ _))) rfl ?_
  have hB := set4_below (set4_below (unhide HB) (by omega : bb ≤ b1) (.slice va vn vc) (.slice ea en ec) (.int .i64 rd) (.int .i64 wr_0)) (by omega : bb ≤ b2) (.int .i64 0) (.int .i64 0) (.int .i64 0) (.int .u32 0)
  exact ⟨_, _, rfl, (unhide HF _ hB).1, (unhide HF _ hB).2, by first | exact hB | (rw [hbb]; exact hB), Apt.refl _ _, Apt.refl _ _⟩
set_option maxHeartbeats 2000000 in
set_option maxRecDepth 100000 in
theorem refEdge {w : World} {vv ev : Value} {rd wr_0 : Int} {vs : List Int} {es : List EdgeV} (v : Int) (h : NRow w vv vs) (hE : GRow 0 w ev es) (hl : es.length ≤ 1000000) (hr0 : 0 ≤ rd) (hr1 : rd ≤ 1000000000) {x : EdgeV} (hx : ∃ i : Nat, es[i]? = some x) (hxv : x.1 = v) (hone : ∀ (i j : Nat) (a b : EdgeV), es[i]? = some a → es[j]? = some b → a.1 = b.1 → a = b) :
    Calls Tryz.prog 74 #[.agg #[vv, ev, .int .i64 rd, .int .i64 wr_0], .int .i64 v] w fun e w' => Hid (AnsGE w vv ev vs es (rd + 1) wr_0 x 0 e w') := by
  obtain ⟨t1, t2, t3, t4, t5⟩ := three_boxes w (oG vv ev rd wr_0)
  obtain ⟨c0, c1, c2, c3, cf⟩ := cellsG t1
  have HF : Hid (∀ W, Below w.heap.size w W → NRow W vv vs ∧ GRow 0 W ev es) := fun W hW => ⟨nrow_below h hW, grow_below hE hW⟩
  have CH : Hid (Calls Tryz.prog 38 #[.agg #[vv, ev, .int .i64 rd, .int .i64 wr_0], .int .i64 v] (((w.alloc (oG vv ev rd wr_0)).alloc oZ).alloc o34) fun e w2 => ∃ (i : Nat) (g : Nat) (c : Nat), e = .returned (.int .i64 (i : Int)) ∧ (ev = .slice (some ⟨g, 0, none⟩) es.length c ∧ i < es.length ∧ g < w.heap.size ∧ w2.cell? ⟨g, i * 4, none⟩ = some (.int .i64 x.1) ∧ w2.cell? ⟨g, i * 4 + 1, none⟩ = some (.int .i64 x.2.1) ∧ w2.cell? ⟨g, i * 4 + 2, none⟩ = some (.int .i64 x.2.2.1) ∧ w2.cell? ⟨g, i * 4 + 3, none⟩ = some (.int .u32 x.2.2.2)) ∧ Hid (w2.heap[w.heap.size + 1]? = some oZ ∧ w2.heap[w.heap.size + 2]? = some o34 ∧ w2.heap[w.heap.size]? = some (oG vv ev rd wr_0) ∧ Below w.heap.size w w2)) := by
    refine (refAt v (grow_below hE t4) hl).mono ?_
    rintro e w2 ⟨r, rfl, g⟩
    obtain ⟨g1, g2⟩ := unhide g
    obtain ⟨i0, hi0⟩ := hx
    obtain ⟨i, a, rfl, k1, k2, -⟩ : ∃ (i : Nat) (a : EdgeV), r = (i : Int) ∧ es[i]? = some a ∧ a.1 = v ∧ ∀ (j : Nat) (b : EdgeV), j < i → es[j]? = some b → b.1 ≠ v := by
      rcases g1 with h | ⟨-, h⟩
      · exact h
      · exact absurd hxv (h i0 x hi0)
    have hax : a = x := hone i i0 a x k1 hi0 (k2.trans hxv.symm)
    subst hax
    have hil := (List.getElem?_eq_some_iff.1 k1).1
    have hEw := grow_below (grow_below hE t4) g2
    obtain ⟨g, c, eg, hc⟩ := grow_at hEw (by omega)
    have hgw : g < w.heap.size := (hE.lt g (by rw [eg]; rfl)).2
    obtain ⟨y0, y1, y2, y3⟩ := hc i a k1
    have gs := g2.size
    exact ⟨i, g, c, rfl, ⟨eg, hil, hgw, y0, y1, y2, y3⟩, (g2.block _ (by omega)).trans t2, (g2.block _ (by omega)).trans t3, (g2.block _ (by omega)).trans t1, t4.trans (g2.mono (by omega))⟩
  obtain ⟨va, vc, hvv, -⟩ := brow_shape h
  obtain ⟨vn, hvv'⟩ : ∃ vn, vv = .slice va vn vc := ⟨_, hvv⟩
  obtain ⟨ea, en, ec, hev⟩ := grow_shape hE
  have hwr : IntKind.i64.wrap (rd + 1) = rd + 1 := by rw [IntKind.wrap_i64]; omega
  have HLE : Hid (es.length ≤ 1000000) := hl
  clear t1 t2 t3 t4 t5 h hE hvv hl hx hxv hone hr0 hr1
  subst hvv' hev
  go_enter Tryz.func74, Tryz.ntmps74
  go_upto_region 1 with fail
  change Code.wp _ _ _ _ (((w.alloc (oG (.slice va vn vc) (.slice ea en ec) rd wr_0)).alloc oZ).alloc o34)
  generalize ((w.alloc (oG (.slice va vn vc) (.slice ea en ec) rd wr_0)).alloc oZ).alloc o34 = wb at *
  have hne1 : ¬ w.heap.size = w.heap.size + 1 := by omega
  generalize hb2 : w.heap.size + 2 = b2 at *
  generalize hb1 : w.heap.size + 1 = b1 at *
  generalize hbb : w.heap.size = bb at *
  go_wp2_with fail
  refine (unhide CH).mono ?_
  rintro e w2 ⟨i, g, c, rfl, ⟨eg, hil, hgw, y0, y1, y2, y3⟩, h2⟩
  injection eg with eg1 eg2 eg3
  subst eg1 eg2 eg3
  obtain ⟨k1, k2, k3, k4⟩ := unhide h2
  clear c0 c1 c2 c3 cf CH h2
  obtain ⟨c0, c1, c2, c3, cf⟩ := cellsG k3
  have HT1 := hide k1
  have HT2 := hide k2
  have HT3 := hide k3
  have HB := hide k4
  have n1 : ¬ bb = b1 := by omega
  have n2 : ¬ b1 = bb := by omega
  have n3 : ¬ bb = b2 := by omega
  have n4 : ¬ b2 = bb := by omega
  have n5 : ¬ b1 = b2 := by omega
  have n6 : ¬ b2 = b1 := by omega
  have n7 : ¬ g = bb := by omega
  have n8 : ¬ bb = g := by omega
  have n9 : ¬ g = b1 := by omega
  have n10 : ¬ g = b2 := by omega
  have hz : (i : Int) < (es.length : Int) := by omega
  have hi0 : ¬ (i : Int) < 0 := by omega
  clear k1 k2 k3 k4
  go_upto_region 5 with fail
  have e1 : (w2.setCell ⟨bb, 2, none⟩ (.int .i64 (rd + 1))).heap[b1]? = some oZ := (heap_setCell_other _ _ _ _ n2).trans (unhide HT1)
  have e2 : (w2.setCell ⟨bb, 2, none⟩ (.int .i64 (rd + 1))).heap[b2]? = some o34 := (heap_setCell_other _ _ _ _ n4).trans (unhide HT2)
  have e3 : (w2.setCell ⟨bb, 2, none⟩ (.int .i64 (rd + 1))).heap[bb]? = some (oG (.slice va vn vc) (.slice (some ⟨g, 0, none⟩) es.length ec) (rd + 1) wr_0) := by rw [heap_setCell_same _ _ _ _ _ _ (unhide HT3)]; rfl
  have e4 : ∀ o, (w2.setCell ⟨bb, 2, none⟩ (.int .i64 (rd + 1))).cell? ⟨g, o, none⟩ = w2.cell? ⟨g, o, none⟩ := fun o => cell_of_heap (heap_setCell_other _ _ _ _ n7)
  have HB3 : Hid (Below bb w (w2.setCell ⟨bb, 2, none⟩ (.int .i64 (rd + 1)))) := (unhide HB).setCell (p := ⟨bb, 2, none⟩) (Nat.le_refl _) _
  rw [← e4] at y0 y1 y2 y3
  clear e4 HT1 HT2 HT3 HB c0 c1 c2 c3 cf
  generalize w2.setCell ⟨bb, 2, none⟩ (.int .i64 (rd + 1)) = w3 at *
  obtain ⟨c0, c1, c2, c3, cf⟩ := cellsG e3
  obtain ⟨d0, d1, d2, d3, df⟩ := cellsG (vv := .slice none 0 0) (ev := .slice none 0 0) (rd := 0) (wr := 0) e1
  obtain ⟨x0, x1, x2, x3, xf⟩ := cells34 e2
  have HT1 := hide e1
  have HT2 := hide e2
  have HB := hide (unhide HB3)
  clear e1 e2 e3 HB3
  go_region
  all_goals
    go_wp2_with fail
    change bodyPost _ _ _ _ _ (set4 (set4 w3 b1 (.slice va vn vc) (.slice (some ⟨g, 0, none⟩) es.length ec) (.int .i64 (rd + 1)) (.int .i64 wr_0)) b2 (.int .i64 x.1) (.int .i64 x.2.1) (.int .i64 x.2.2.1) (.int .u32 x.2.2.2)).drew
    have hB : Below bb w (set4 (set4 w3 b1 (.slice va vn vc) (.slice (some ⟨g, 0, none⟩) es.length ec) (.int .i64 (rd + 1)) (.int .i64 wr_0)) b2 (.int .i64 x.1) (.int .i64 x.2.1) (.int .i64 x.2.2.1) (.int .u32 x.2.2.2)).drew := (set4_below (set4_below (unhide HB) (by omega : bb ≤ b1) _ _ _ _) (by omega : bb ≤ b2) _ _ _ _).drew
    have e1 : ((set4 (set4 w3 b1 (.slice va vn vc) (.slice (some ⟨g, 0, none⟩) es.length ec) (.int .i64 (rd + 1)) (.int .i64 wr_0)) b2 (.int .i64 x.1) (.int .i64 x.2.1) (.int .i64 x.2.2.1) (.int .u32 x.2.2.2)).drew).heap[b1]? = some (oG (.slice va vn vc) (.slice (some ⟨g, 0, none⟩) es.length ec) (rd + 1) wr_0) := drewAt ((set4_other n5 _ _ _ _).trans (set4G_at (unhide HT1) _ _ _ _))
    have e2 : ((set4 (set4 w3 b1 (.slice va vn vc) (.slice (some ⟨g, 0, none⟩) es.length ec) (.int .i64 (rd + 1)) (.int .i64 wr_0)) b2 (.int .i64 x.1) (.int .i64 x.2.1) (.int .i64 x.2.2.1) (.int .u32 x.2.2.2)).drew).heap[b2]? = some (.cells #[.int .i64 x.1, .int .i64 x.2.1, .int .i64 x.2.2.1, .int .u32 x.2.2.2] 64 (0, 0)) := drewAt (set4_at ((set4_other n6 _ _ _ _).trans (unhide HT2)) _ _ _ _)
    generalize (set4 (set4 w3 b1 (.slice va vn vc) (.slice (some ⟨g, 0, none⟩) es.length ec) (.int .i64 (rd + 1)) (.int .i64 wr_0)) b2 (.int .i64 x.1) (.int .i64 x.2.1) (.int .i64 x.2.2.1) (.int .u32 x.2.2.2)).drew = w4 at *
    clear HT1 HT2 HB c0 c1 c2 c3 cf d0 d1 d2 d3 df x0 x1 x2 x3 xf y0 y1 y2 y3
    refine bodyPost_ret (results_cell_cell_tmp rfl _ _ _ ⟨b1, 0, none⟩ ⟨b2, 0, none⟩ _ _ rfl rfl (loadG _ _ _ _ _ _ e1) (load34 _ _ _ _ _ _ e2)) rfl ?_
    have hF := unhide HF _ hB
    exact ⟨_, _, rfl, hF.1, hF.2, by rw [hbb]; exact hB, Apt.refl _ _, Apt.refl _ _⟩
end Go.Proofs.YtagibmgbjhemkaaGreat
