/- A part of a list of records is appended. -/
import Derived.Test.YtgocbcacfcfblaaGreatRefFree
import Derived.Laws.StructEq
namespace Go.Proofs.YtgocbcacfcfblaaGreat

section
open Go.RowKit Go.Maps
theorem results_cell_cell_tmp {fn : Func} {p q u : Tmp} {ty ty2 : TypeId} (h : fn.results = #[.cell p ty, .cell q ty2, .tmp u]) (tmps : Array Value) (P : Program) (w : World) (x y : Addr) (vx vy : Value) (hp : tmps.getD p undef = .pointer (some x)) (hq : tmps.getD q undef = .pointer (some y)) (hx : (loadVar ty x).run P w = .ok vx w) (hy : (loadVar ty2 y).run P w = .ok vy w) :
    (results fn tmps).run P w = .ok (.tuple #[vx, vy, tmps.getD u undef]) w := by
  have hp' : tmps[p]?.getD undef = .pointer (some x) := by simpa using hp
  have hq' : tmps[q]?.getD undef = .pointer (some y) := by simpa using hq
  simp [results, h, hp', hq', asAddr, hx, hy]
theorem drewAt {w : World} {b : Nat} {o : Obj} (h : w.heap[b]? = some o) : w.drew.heap[b]? = some o := h
/-- A graph's box, the box of the result, and that of a record. -/
theorem three_boxes (w : World) (o : Obj) : (((w.alloc o).alloc oZ).alloc o34).heap[w.heap.size]? = some o ∧ (((w.alloc o).alloc oZ).alloc o34).heap[w.heap.size + 1]? = some oZ ∧ (((w.alloc o).alloc oZ).alloc o34).heap[w.heap.size + 2]? = some o34 ∧ Below w.heap.size w (((w.alloc o).alloc oZ).alloc o34) ∧ (((w.alloc o).alloc oZ).alloc o34).heap.size = w.heap.size + 3 := by
  obtain ⟨h1, h2, h3, h4⟩ := two_boxes w o
  refine ⟨(heap_alloc_old _ _ (by omega)).trans h1, (heap_alloc_old _ _ (by omega)).trans h2, ?_, h3.trans ((below_new _ _).mono (by omega)), by simp⟩
  have := heap_alloc_new ((w.alloc o).alloc oZ) o34
  rwa [h4] at this

/-- What a call of the reference answers: a graph, a record, a code. -/
def AnsGE (w : World) (vv0 ev0 : Value) (vs : List Int) (es : List EdgeV) (rd wr : Int) (x : EdgeV) (code : Int) (e : Ending) (w' : World) : Prop :=
  ∃ vv ev, e = .returned (.tuple #[.agg #[vv, ev, .int .i64 rd, .int .i64 wr], .agg #[.int .i64 x.1, .int .i64 x.2.1, .int .i64 x.2.2.1, .int .u32 x.2.2.2], .int .i64 code]) ∧ NRow w' vv vs ∧ GRow 0 w' ev es ∧ Below w.heap.size w w' ∧ Apt w vv0 vv ∧ Apt w ev0 ev

set_option maxHeartbeats 2000000 in
set_option maxRecDepth 100000 in
theorem refEdgeNo {w : World} {vv ev : Value} {rd wr_0 : Int} {vs : List Int} {es : List EdgeV} (v : Int) (h : NRow w vv vs) (hE : GRow 0 w ev es) (hl : es.length ≤ 1000000) (hno : ¬ HasNo es v) :
    Calls Tryz.prog 63 #[.agg #[vv, ev, .int .i64 rd, .int .i64 wr_0], .int .i64 v] w fun e w' => Hid (AnsGE w vv ev vs es rd wr_0 (0, 0, 0, 0) 6 e w') := by
  obtain ⟨t1, t2, t3, t4, t5⟩ := three_boxes w (oG vv ev rd wr_0)
  obtain ⟨c0, c1, c2, c3, cf⟩ := cellsG t1
  have HF : Hid (∀ W, Below w.heap.size w W → NRow W vv vs ∧ GRow 0 W ev es) := fun W hW => ⟨nrow_below h hW, grow_below hE hW⟩
  have CH : Hid (Calls Tryz.prog 26 #[.agg #[vv, ev, .int .i64 rd, .int .i64 wr_0], .int .i64 v] (((w.alloc (oG vv ev rd wr_0)).alloc oZ).alloc o34) fun e w2 => e = .returned (.int .i64 (-1)) ∧ Hid (w2.heap[w.heap.size + 1]? = some oZ ∧ w2.heap[w.heap.size + 2]? = some o34 ∧ w2.heap[w.heap.size]? = some (oG vv ev rd wr_0) ∧ Below w.heap.size w w2)) := by
    refine (refAt v (grow_below hE t4) hl).mono ?_
    rintro e w2 ⟨r, rfl, g⟩
    obtain ⟨g1, g2⟩ := unhide g
    have hr : r = -1 := by
      rcases g1 with ⟨i, a, rfl, k1, k2, -⟩ | ⟨e, -⟩
      · exact absurd ⟨i, a, k1, k2⟩ hno
      · exact e
    subst hr
    have gs := g2.size
    exact ⟨rfl, (g2.block _ (by omega)).trans t2, (g2.block _ (by omega)).trans t3, (g2.block _ (by omega)).trans t1, t4.trans (g2.mono (by omega))⟩
  obtain ⟨va, vc, hvv, -⟩ := brow_shape h
  obtain ⟨vn, hvv'⟩ : ∃ vn, vv = .slice va vn vc := ⟨_, hvv⟩
  obtain ⟨ea, en, ec, hev⟩ := grow_shape hE
  clear t1 t2 t3 t4 t5 h hE hvv hl hno
  subst hvv' hev
  go_enter Tryz.func63, Tryz.ntmps63
  go_upto_region 1 with fail
  change Code.wp _ _ _ _ (((w.alloc (oG (.slice va vn vc) (.slice ea en ec) rd wr_0)).alloc oZ).alloc o34)
  generalize ((w.alloc (oG (.slice va vn vc) (.slice ea en ec) rd wr_0)).alloc oZ).alloc o34 = wb at *
  have hne1 : ¬ w.heap.size = w.heap.size + 1 := by omega
  generalize hb2 : w.heap.size + 2 = b2 at *
  generalize hb1 : w.heap.size + 1 = b1 at *
  generalize hbb : w.heap.size = bb at *
  go_wp2_with fail
  refine (unhide CH).mono ?_
  rintro e w2 ⟨rfl, h2⟩
  obtain ⟨k1, k2, k3, k4⟩ := unhide h2
  clear c0 c1 c2 c3 cf CH h2
  obtain ⟨c0, c1, c2, c3, cf⟩ := cellsG k3
  obtain ⟨d0, d1, d2, d3, df⟩ := cellsG (vv := .slice none 0 0) (ev := .slice none 0 0) (rd := 0) (wr := 0) k1
  obtain ⟨x0, x1, x2, x3, xf⟩ := cells34 k2
  have HT1 := hide k1
  have HT2 := hide k2
  have HB := hide k4
  have n1 : ¬ bb = b1 := by omega
  have n2 : ¬ b1 = bb := by omega
  have n3 : ¬ bb = b2 := by omega
  have n4 : ¬ b2 = bb := by omega
  have n5 : ¬ b1 = b2 := by omega
  have n6 : ¬ b2 = b1 := by omega
  clear k1 k2 k3 k4
  go_wp2_with fail
  (try simp only [Exit.inBlock, Exit.then])
  change bodyPost _ _ _ _ _ (set4 (set4 w2 b1 _ _ _ _) b2 _ _ _ _)
  refine bodyPost_ret (results_cell_cell_tmp rfl _ _ _ ⟨b1, 0, none⟩ ⟨b2, 0, none⟩ _ _ rfl rfl (loadG _ _ _ _ _ _ ((set4_other n5 _ _ _ _).trans (set4G_at (unhide HT1) _ _ _ _))) (load34 _ _ _ _ _ _ (set4_at ((set4_other n6 _ _ _ _).trans (unhide HT2)) _ _ _ _))) rfl ?_
  have hB := set4_below (set4_below (unhide HB) (by omega : bb ≤ b1) (.slice va vn vc) (.slice ea en ec) (.int .i64 rd) (.int .i64 wr_0)) (by omega : bb ≤ b2) (.int .i64 0) (.int .i64 0) (.int .i64 0) (.int .u32 0)
  exact ⟨_, _, rfl, (unhide HF _ hB).1, (unhide HF _ hB).2, by first | exact hB | (rw [hbb]; exact hB), Apt.refl _ _, Apt.refl _ _⟩
set_option maxHeartbeats 2000000 in
set_option maxRecDepth 100000 in
theorem refEdge {w : World} {vv ev : Value} {rd wr_0 : Int} {vs : List Int} {es : List EdgeV} (v : Int) (h : NRow w vv vs) (hE : GRow 0 w ev es) (hl : es.length ≤ 1000000) (hr0 : 0 ≤ rd) (hr1 : rd ≤ 1000000000) {x : EdgeV} (hx : ∃ i : Nat, es[i]? = some x) (hxv : x.1 = v) (hone : ∀ (i j : Nat) (a b : EdgeV), es[i]? = some a → es[j]? = some b → a.1 = b.1 → a = b) :
    Calls Tryz.prog 63 #[.agg #[vv, ev, .int .i64 rd, .int .i64 wr_0], .int .i64 v] w fun e w' => Hid (AnsGE w vv ev vs es (rd + 1) wr_0 x 0 e w') := by
  obtain ⟨t1, t2, t3, t4, t5⟩ := three_boxes w (oG vv ev rd wr_0)
  obtain ⟨c0, c1, c2, c3, cf⟩ := cellsG t1
  have HF : Hid (∀ W, Below w.heap.size w W → NRow W vv vs ∧ GRow 0 W ev es) := fun W hW => ⟨nrow_below h hW, grow_below hE hW⟩
  have CH : Hid (Calls Tryz.prog 26 #[.agg #[vv, ev, .int .i64 rd, .int .i64 wr_0], .int .i64 v] (((w.alloc (oG vv ev rd wr_0)).alloc oZ).alloc o34) fun e w2 => ∃ (i : Nat) (g : Nat) (c : Nat), e = .returned (.int .i64 (i : Int)) ∧ (ev = .slice (some ⟨g, 0, none⟩) es.length c ∧ i < es.length ∧ g < w.heap.size ∧ w2.cell? ⟨g, i * 4, none⟩ = some (.int .i64 x.1) ∧ w2.cell? ⟨g, i * 4 + 1, none⟩ = some (.int .i64 x.2.1) ∧ w2.cell? ⟨g, i * 4 + 2, none⟩ = some (.int .i64 x.2.2.1) ∧ w2.cell? ⟨g, i * 4 + 3, none⟩ = some (.int .u32 x.2.2.2)) ∧ Hid (w2.heap[w.heap.size + 1]? = some oZ ∧ w2.heap[w.heap.size + 2]? = some o34 ∧ w2.heap[w.heap.size]? = some (oG vv ev rd wr_0) ∧ Below w.heap.size w w2)) := by
    refine (refAt v (grow_below hE t4) hl).mono ?_
    rintro e w2 ⟨r, rfl, g⟩
    obtain ⟨g1, g2⟩ := unhide g
    obtain ⟨i0, hi0⟩ := hx
    obtain ⟨i, a, rfl, k1, k2, -⟩ : ∃ (i : Nat) (a : EdgeV), r = (i : Int) ∧ es[i]? = some a ∧ a.1 = v ∧ ∀ (j : Nat) (b : EdgeV), j < i → es[j]? = some b → b.1 ≠ v := by
      rcases g1 with h | ⟨-, h⟩
      · exact h
      · exact absurd hxv (h i0 x hi0)
    have hax : a = x := hone i i0 a x k1 hi0 (k2.trans hxv.symm)
    subst hax
    have hil := (List.getElem?_eq_some_iff.1 k1).1
    have hEw := grow_below (grow_below hE t4) g2
    obtain ⟨g, c, eg, hc⟩ := grow_at hEw (by omega)
    have hgw : g < w.heap.size := (hE.lt g (by rw [eg]; rfl)).2
    obtain ⟨y0, y1, y2, y3⟩ := hc i a k1
    have gs := g2.size
    exact ⟨i, g, c, rfl, ⟨eg, hil, hgw, y0, y1, y2, y3⟩, (g2.block _ (by omega)).trans t2, (g2.block _ (by omega)).trans t3, (g2.block _ (by omega)).trans t1, t4.trans (g2.mono (by omega))⟩
  obtain ⟨va, vc, hvv, -⟩ := brow_shape h
  obtain ⟨vn, hvv'⟩ : ∃ vn, vv = .slice va vn vc := ⟨_, hvv⟩
  obtain ⟨ea, en, ec, hev⟩ := grow_shape hE
  have hwr : IntKind.i64.wrap (rd + 1) = rd + 1 := by rw [IntKind.wrap_i64]; omega
  have HLE : Hid (es.length ≤ 1000000) := hl
  clear t1 t2 t3 t4 t5 h hE hvv hl hx hxv hone hr0 hr1
  subst hvv' hev
  go_enter Tryz.func63, Tryz.ntmps63
  go_upto_region 1 with fail
  change Code.wp _ _ _ _ (((w.alloc (oG (.slice va vn vc) (.slice ea en ec) rd wr_0)).alloc oZ).alloc o34)
  generalize ((w.alloc (oG (.slice va vn vc) (.slice ea en ec) rd wr_0)).alloc oZ).alloc o34 = wb at *
  have hne1 : ¬ w.heap.size = w.heap.size + 1 := by omega
  generalize hb2 : w.heap.size + 2 = b2 at *
  generalize hb1 : w.heap.size + 1 = b1 at *
  generalize hbb : w.heap.size = bb at *
  go_wp2_with fail
  refine (unhide CH).mono ?_
  rintro e w2 ⟨i, g, c, rfl, ⟨eg, hil, hgw, y0, y1, y2, y3⟩, h2⟩
  injection eg with eg1 eg2 eg3
  subst eg1 eg2 eg3
  obtain ⟨k1, k2, k3, k4⟩ := unhide h2
  clear c0 c1 c2 c3 cf CH h2
  obtain ⟨c0, c1, c2, c3, cf⟩ := cellsG k3
  have HT1 := hide k1
  have HT2 := hide k2
  have HT3 := hide k3
  have HB := hide k4
  have n1 : ¬ bb = b1 := by omega
  have n2 : ¬ b1 = bb := by omega
  have n3 : ¬ bb = b2 := by omega
  have n4 : ¬ b2 = bb := by omega
  have n5 : ¬ b1 = b2 := by omega
  have n6 : ¬ b2 = b1 := by omega
  have n7 : ¬ g = bb := by omega
  have n8 : ¬ bb = g := by omega
  have n9 : ¬ g = b1 := by omega
  have n10 : ¬ g = b2 := by omega
  have hz : (i : Int) < (es.length : Int) := by omega
  have hi0 : ¬ (i : Int) < 0 := by omega
  clear k1 k2 k3 k4
  go_upto_region 5 with fail
  have e1 : (w2.setCell ⟨bb, 2, none⟩ (.int .i64 (rd + 1))).heap[b1]? = some oZ := (heap_setCell_other _ _ _ _ n2).trans (unhide HT1)
  have e2 : (w2.setCell ⟨bb, 2, none⟩ (.int .i64 (rd + 1))).heap[b2]? = some o34 := (heap_setCell_other _ _ _ _ n4).trans (unhide HT2)
  have e3 : (w2.setCell ⟨bb, 2, none⟩ (.int .i64 (rd + 1))).heap[bb]? = some (oG (.slice va vn vc) (.slice (some ⟨g, 0, none⟩) es.length ec) (rd + 1) wr_0) := by rw [heap_setCell_same _ _ _ _ _ _ (unhide HT3)]; rfl
  have e4 : ∀ o, (w2.setCell ⟨bb, 2, none⟩ (.int .i64 (rd + 1))).cell? ⟨g, o, none⟩ = w2.cell? ⟨g, o, none⟩ := fun o => cell_of_heap (heap_setCell_other _ _ _ _ n7)
  have HB3 : Hid (Below bb w (w2.setCell ⟨bb, 2, none⟩ (.int .i64 (rd + 1)))) := (unhide HB).setCell (p := ⟨bb, 2, none⟩) (Nat.le_refl _) _
  rw [← e4] at y0 y1 y2 y3
  clear e4 HT1 HT2 HT3 HB c0 c1 c2 c3 cf
  generalize w2.setCell ⟨bb, 2, none⟩ (.int .i64 (rd + 1)) = w3 at *
  obtain ⟨c0, c1, c2, c3, cf⟩ := cellsG e3
  obtain ⟨d0, d1, d2, d3, df⟩ := cellsG (vv := .slice none 0 0) (ev := .slice none 0 0) (rd := 0) (wr := 0) e1
  obtain ⟨x0, x1, x2, x3, xf⟩ := cells34 e2
  have HT1 := hide e1
  have HT2 := hide e2
  have HB := hide (unhide HB3)
  clear e1 e2 e3 HB3
  go_region
  all_goals
    go_wp2_with fail
    change bodyPost _ _ _ _ _ (set4 (set4 w3 b1 (.slice va vn vc) (.slice (some ⟨g, 0, none⟩) es.length ec) (.int .i64 (rd + 1)) (.int .i64 wr_0)) b2 (.int .i64 x.1) (.int .i64 x.2.1) (.int .i64 x.2.2.1) (.int .u32 x.2.2.2)).drew
    have hB : Below bb w (set4 (set4 w3 b1 (.slice va vn vc) (.slice (some ⟨g, 0, none⟩) es.length ec) (.int .i64 (rd + 1)) (.int .i64 wr_0)) b2 (.int .i64 x.1) (.int .i64 x.2.1) (.int .i64 x.2.2.1) (.int .u32 x.2.2.2)).drew := (set4_below (set4_below (unhide HB) (by omega : bb ≤ b1) _ _ _ _) (by omega : bb ≤ b2) _ _ _ _).drew
    have e1 : ((set4 (set4 w3 b1 (.slice va vn vc) (.slice (some ⟨g, 0, none⟩) es.length ec) (.int .i64 (rd + 1)) (.int .i64 wr_0)) b2 (.int .i64 x.1) (.int .i64 x.2.1) (.int .i64 x.2.2.1) (.int .u32 x.2.2.2)).drew).heap[b1]? = some (oG (.slice va vn vc) (.slice (some ⟨g, 0, none⟩) es.length ec) (rd + 1) wr_0) := drewAt ((set4_other n5 _ _ _ _).trans (set4G_at (unhide HT1) _ _ _ _))
    have e2 : ((set4 (set4 w3 b1 (.slice va vn vc) (.slice (some ⟨g, 0, none⟩) es.length ec) (.int .i64 (rd + 1)) (.int .i64 wr_0)) b2 (.int .i64 x.1) (.int .i64 x.2.1) (.int .i64 x.2.2.1) (.int .u32 x.2.2.2)).drew).heap[b2]? = some (.cells #[.int .i64 x.1, .int .i64 x.2.1, .int .i64 x.2.2.1, .int .u32 x.2.2.2] 50 (0, 0)) := drewAt (set4_at ((set4_other n6 _ _ _ _).trans (unhide HT2)) _ _ _ _)
    generalize (set4 (set4 w3 b1 (.slice va vn vc) (.slice (some ⟨g, 0, none⟩) es.length ec) (.int .i64 (rd + 1)) (.int .i64 wr_0)) b2 (.int .i64 x.1) (.int .i64 x.2.1) (.int .i64 x.2.2.1) (.int .u32 x.2.2.2)).drew = w4 at *
    clear HT1 HT2 HB c0 c1 c2 c3 cf d0 d1 d2 d3 df x0 x1 x2 x3 xf y0 y1 y2 y3
    refine bodyPost_ret (results_cell_cell_tmp rfl _ _ _ ⟨b1, 0, none⟩ ⟨b2, 0, none⟩ _ _ rfl rfl (loadG _ _ _ _ _ _ e1) (load34 _ _ _ _ _ _ e2)) rfl ?_
    have hF := unhide HF _ hB
    exact ⟨_, _, rfl, hF.1, hF.2, by rw [hbb]; exact hB, Apt.refl _ _, Apt.refl _ _⟩
end

section
open Go.RowKit Go.Maps
theorem results_cell_tmp_tmp {fn : Func} {p u q : Tmp} {ty : TypeId} (h : fn.results = #[.cell p ty, .tmp u, .tmp q]) (tmps : Array Value) (P : Program) (w : World) (x : Addr) (vx : Value) (hp : tmps.getD p undef = .pointer (some x)) (hx : (loadVar ty x).run P w = .ok vx w) :
    (results fn tmps).run P w = .ok (.tuple #[vx, tmps.getD u undef, tmps.getD q undef]) w := by
  have hp' : tmps[p]?.getD undef = .pointer (some x) := by simpa using hp
  simp [results, h, hp', asAddr, hx]
/-- What a call of the reference answers: a graph, a word, a code. -/
def AnsGU (w : World) (vv0 ev0 : Value) (vs : List Int) (es : List EdgeV) (rd wr n code : Int) (e : Ending) (w' : World) : Prop :=
  ∃ vv ev, e = .returned (.tuple #[.agg #[vv, ev, .int .i64 rd, .int .i64 wr], .int .u32 n, .int .i64 code]) ∧ NRow w' vv vs ∧ GRow 0 w' ev es ∧ Below w.heap.size w w' ∧ Apt w vv0 vv ∧ Apt w ev0 ev

set_option maxHeartbeats 2000000 in
set_option maxRecDepth 100000 in
theorem refDropENo {w : World} {vv ev : Value} {rd wr_0 : Int} {vs : List Int} {es : List EdgeV} (v : Int) (h : NRow w vv vs) (hE : GRow 0 w ev es) (hl : es.length ≤ 1000000) (hno : ¬ HasNo es v) :
    Calls Tryz.prog 59 #[.agg #[vv, ev, .int .i64 rd, .int .i64 wr_0], .int .i64 v] w fun e w' => Hid (AnsGE w vv ev vs es rd wr_0 (0, 0, 0, 0) 6 e w') := by
  obtain ⟨t1, t2, t3, t4, t5⟩ := three_boxes w (oG vv ev rd wr_0)
  obtain ⟨c0, c1, c2, c3, cf⟩ := cellsG t1
  have HF : Hid (∀ W, Below w.heap.size w W → NRow W vv vs ∧ GRow 0 W ev es) := fun W hW => ⟨nrow_below h hW, grow_below hE hW⟩
  have CH : Hid (Calls Tryz.prog 26 #[.agg #[vv, ev, .int .i64 rd, .int .i64 wr_0], .int .i64 v] (((w.alloc (oG vv ev rd wr_0)).alloc oZ).alloc o34) fun e w2 => e = .returned (.int .i64 (-1)) ∧ Hid (w2.heap[w.heap.size + 1]? = some oZ ∧ w2.heap[w.heap.size + 2]? = some o34 ∧ w2.heap[w.heap.size]? = some (oG vv ev rd wr_0) ∧ Below w.heap.size w w2)) := by
    refine (refAt v (grow_below hE t4) hl).mono ?_
    rintro e w2 ⟨r, rfl, g⟩
    obtain ⟨g1, g2⟩ := unhide g
    have hr : r = -1 := by
      rcases g1 with ⟨i, a, rfl, k1, k2, -⟩ | ⟨e, -⟩
      · exact absurd ⟨i, a, k1, k2⟩ hno
      · exact e
    subst hr
    have gs := g2.size
    exact ⟨rfl, (g2.block _ (by omega)).trans t2, (g2.block _ (by omega)).trans t3, (g2.block _ (by omega)).trans t1, t4.trans (g2.mono (by omega))⟩
  obtain ⟨va, vc, hvv, -⟩ := brow_shape h
  obtain ⟨vn, hvv'⟩ : ∃ vn, vv = .slice va vn vc := ⟨_, hvv⟩
  obtain ⟨ea, en, ec, hev⟩ := grow_shape hE
  clear t1 t2 t3 t4 t5 h hE hvv hl hno
  subst hvv' hev
  go_enter Tryz.func59, Tryz.ntmps59
  go_upto_region 1 with fail
  change Code.wp _ _ _ _ (((w.alloc (oG (.slice va vn vc) (.slice ea en ec) rd wr_0)).alloc oZ).alloc o34)
  generalize ((w.alloc (oG (.slice va vn vc) (.slice ea en ec) rd wr_0)).alloc oZ).alloc o34 = wb at *
  have hne1 : ¬ w.heap.size = w.heap.size + 1 := by omega
  generalize hb2 : w.heap.size + 2 = b2 at *
  generalize hb1 : w.heap.size + 1 = b1 at *
  generalize hbb : w.heap.size = bb at *
  go_wp2_with fail
  refine (unhide CH).mono ?_
  rintro e w2 ⟨rfl, h2⟩
  obtain ⟨k1, k2, k3, k4⟩ := unhide h2
  clear c0 c1 c2 c3 cf CH h2
  obtain ⟨c0, c1, c2, c3, cf⟩ := cellsG k3
  obtain ⟨d0, d1, d2, d3, df⟩ := cellsG (vv := .slice none 0 0) (ev := .slice none 0 0) (rd := 0) (wr := 0) k1
  obtain ⟨x0, x1, x2, x3, xf⟩ := cells34 k2
  have HT1 := hide k1
  have HT2 := hide k2
  have HB := hide k4
  have n1 : ¬ bb = b1 := by omega
  have n2 : ¬ b1 = bb := by omega
  have n3 : ¬ bb = b2 := by omega
  have n4 : ¬ b2 = bb := by omega
  have n5 : ¬ b1 = b2 := by omega
  have n6 : ¬ b2 = b1 := by omega
  clear k1 k2 k3 k4
  go_wp2_with fail
  (try simp only [Exit.inBlock, Exit.then])
  change bodyPost _ _ _ _ _ (set4 (set4 w2 b1 _ _ _ _) b2 _ _ _ _)
  refine bodyPost_ret (results_cell_cell_tmp rfl _ _ _ ⟨b1, 0, none⟩ ⟨b2, 0, none⟩ _ _ rfl rfl (loadG _ _ _ _ _ _ ((set4_other n5 _ _ _ _).trans (set4G_at (unhide HT1) _ _ _ _))) (load34 _ _ _ _ _ _ (set4_at ((set4_other n6 _ _ _ _).trans (unhide HT2)) _ _ _ _))) rfl ?_
  have hB := set4_below (set4_below (unhide HB) (by omega : bb ≤ b1) (.slice va vn vc) (.slice ea en ec) (.int .i64 rd) (.int .i64 wr_0)) (by omega : bb ≤ b2) (.int .i64 0) (.int .i64 0) (.int .i64 0) (.int .u32 0)
  exact ⟨_, _, rfl, (unhide HF _ hB).1, (unhide HF _ hB).2, by first | exact hB | (rw [hbb]; exact hB), Apt.refl _ _, Apt.refl _ _⟩

set_option maxHeartbeats 2000000 in
set_option maxRecDepth 100000 in
theorem refReweighNo {w : World} {vv ev : Value} {rd wr_0 : Int} {vs : List Int} {es : List EdgeV} (v n : Int) (h : NRow w vv vs) (hE : GRow 0 w ev es) (hl : es.length ≤ 1000000) (hno : ¬ HasNo es v) :
    Calls Tryz.prog 61 #[.agg #[vv, ev, .int .i64 rd, .int .i64 wr_0], .int .i64 v, .int .u32 n] w fun e w' => Hid (AnsGU w vv ev vs es rd wr_0 0 6 e w') := by
  obtain ⟨t1, t2, t4, t5⟩ := two_boxes w (oG vv ev rd wr_0)
  obtain ⟨c0, c1, c2, c3, cf⟩ := cellsG t1
  have HF : Hid (∀ W, Below w.heap.size w W → NRow W vv vs ∧ GRow 0 W ev es) := fun W hW => ⟨nrow_below h hW, grow_below hE hW⟩
  have CH : Hid (Calls Tryz.prog 26 #[.agg #[vv, ev, .int .i64 rd, .int .i64 wr_0], .int .i64 v] ((w.alloc (oG vv ev rd wr_0)).alloc oZ) fun e w2 => e = .returned (.int .i64 (-1)) ∧ Hid (w2.heap[w.heap.size + 1]? = some oZ ∧ w2.heap[w.heap.size]? = some (oG vv ev rd wr_0) ∧ Below w.heap.size w w2)) := by
    refine (refAt v (grow_below hE t4) hl).mono ?_
    rintro e w2 ⟨r, rfl, g⟩
    obtain ⟨g1, g2⟩ := unhide g
    have hr : r = -1 := by
      rcases g1 with ⟨i, a, rfl, k1, k2, -⟩ | ⟨e, -⟩
      · exact absurd ⟨i, a, k1, k2⟩ hno
      · exact e
    subst hr
    have gs := g2.size
    exact ⟨rfl, (g2.block _ (by omega)).trans t2, (g2.block _ (by omega)).trans t1, t4.trans (g2.mono (by omega))⟩
  obtain ⟨va, vc, hvv, -⟩ := brow_shape h
  obtain ⟨vn, hvv'⟩ : ∃ vn, vv = .slice va vn vc := ⟨_, hvv⟩
  obtain ⟨ea, en, ec, hev⟩ := grow_shape hE
  clear t1 t2 t4 t5 h hE hvv hl hno
  subst hvv' hev
  go_enter Tryz.func61, Tryz.ntmps61
  go_upto_region 1 with fail
  change Code.wp _ _ _ _ ((w.alloc (oG (.slice va vn vc) (.slice ea en ec) rd wr_0)).alloc oZ)
  generalize (w.alloc (oG (.slice va vn vc) (.slice ea en ec) rd wr_0)).alloc oZ = wb at *
  have hne1 : ¬ w.heap.size = w.heap.size + 1 := by omega
  generalize hb1 : w.heap.size + 1 = b1 at *
  generalize hbb : w.heap.size = bb at *
  go_wp2_with fail
  refine (unhide CH).mono ?_
  rintro e w2 ⟨rfl, h2⟩
  obtain ⟨k1, k3, k4⟩ := unhide h2
  clear c0 c1 c2 c3 cf CH h2
  obtain ⟨c0, c1, c2, c3, cf⟩ := cellsG k3
  obtain ⟨d0, d1, d2, d3, df⟩ := cellsG (vv := .slice none 0 0) (ev := .slice none 0 0) (rd := 0) (wr := 0) k1
  have HT1 := hide k1
  have HB := hide k4
  have n1 : ¬ bb = b1 := by omega
  have n2 : ¬ b1 = bb := by omega
  clear k1 k3 k4
  go_wp2_with fail
  (try simp only [Exit.inBlock, Exit.then])
  change bodyPost _ _ _ _ _ (set4 w2 b1 _ _ _ _)
  refine bodyPost_ret (results_cell_tmp_tmp rfl _ _ _ ⟨b1, 0, none⟩ _ rfl (loadG _ _ _ _ _ _ (set4G_at (unhide HT1) _ _ _ _))) rfl ?_
  have hB := set4_below (unhide HB) (by omega : bb ≤ b1) (.slice va vn vc) (.slice ea en ec) (.int .i64 rd) (.int .i64 wr_0)
  exact ⟨_, _, rfl, (unhide HF _ hB).1, (unhide HF _ hB).2, by first | exact hB | (rw [hbb]; exact hB), Apt.refl _ _, Apt.refl _ _⟩
end

section
open Go.RowKit Go.Maps
theorem eqE (x y : EdgeV) (w : World) : (Op.equalIn 10000 50 (.agg #[.int .i64 x.1, .int .i64 x.2.1, .int .i64 x.2.2.1, .int .u32 x.2.2.2]) (.agg #[.int .i64 y.1, .int .i64 y.2.1, .int .i64 y.2.2.1, .int .u32 y.2.2.2])).run Tryz.prog w = .ok (decide (x = y)) w := by
  have hS : Tryz.prog.underlying 50 = some (.struct (Tryz.prog.fieldsOf 50)) := by kernel_rfl
  have hp : Tryz.prog.stoodInHeld 50 = false := by kernel_rfl
  rw [show (10000 : Nat) = 9999 + 1 from rfl, run_equalIn_agg w 9999 50 _ _ hS hp]
  simp only [Program.fieldsOf, Tryz.underlying50]
  go_simp
  obtain ⟨a, b, c, d⟩ := x
  obtain ⟨a', b', c', d'⟩ := y
  by_cases h1 : a = a' <;> by_cases h2 : b = b' <;> by_cases h3 : c = c' <;> by_cases h4 : d = d' <;> simp [h1, h2, h3, h4]
theorem grow_len {B : Nat} {w : World} {v : Value} {gs : List EdgeV} (h : GRow B w v gs) : ∃ a c, v = .slice a gs.length c := by
  rcases h.2 with ⟨e, h0⟩ | ⟨g, cap, cur, e, -⟩
  · exact ⟨_, _, by rw [e, h0]⟩
  · exact ⟨_, _, e⟩
theorem listE_eq_getD {a b : List EdgeV} (hl : a.length = b.length) (h : ∀ j, j < a.length → a.getD j (0, 0, 0, 0) = b.getD j (0, 0, 0, 0)) : a = b := by
  refine List.ext_getElem hl (fun j h1 h2 => ?_)
  have := h j h1
  simpa [List.getD, h1, h2] using this

set_option maxHeartbeats 2000000 in
set_option maxRecDepth 100000 in
theorem refSameE {w : World} {v1 v2 : Value} {a b : List EdgeV} (h1 : GRow 0 w v1 a) (h2 : GRow 0 w v2 b) (hl : a.length ≤ 1000000) :
    Calls Tryz.prog 55 #[v1, v2] w fun e w' => e = .returned (.bool (decide (a = b))) ∧ Hid (Like w w') := by
  obtain ⟨x1, c1, e1⟩ := grow_len h1
  obtain ⟨x2, c2, e2⟩ := grow_len h2
  obtain ⟨n1, e1', hn1⟩ : ∃ n1, v1 = .slice x1 n1 c1 ∧ n1 = a.length := ⟨_, e1, rfl⟩
  obtain ⟨n2, e2', hn2⟩ : ∃ n2, v2 = .slice x2 n2 c2 ∧ n2 = b.length := ⟨_, e2, rfl⟩
  have HN : Hid (n1 = a.length ∧ n2 = b.length ∧ n1 ≤ 1000000) := ⟨hn1, hn2, by omega⟩
  have HC : Hid (∀ W i, Like w W → i < n1 → i < n2 → ∃ g1 g2, x1 = some ⟨g1, 0, none⟩ ∧ x2 = some ⟨g2, 0, none⟩ ∧ (W.cell? ⟨g1, i * 4, none⟩ = some (.int .i64 (a.getD i (0, 0, 0, 0)).1) ∧ W.cell? ⟨g1, i * 4 + 1, none⟩ = some (.int .i64 (a.getD i (0, 0, 0, 0)).2.1) ∧ W.cell? ⟨g1, i * 4 + 2, none⟩ = some (.int .i64 (a.getD i (0, 0, 0, 0)).2.2.1) ∧ W.cell? ⟨g1, i * 4 + 3, none⟩ = some (.int .u32 (a.getD i (0, 0, 0, 0)).2.2.2)) ∧ (W.cell? ⟨g2, i * 4, none⟩ = some (.int .i64 (b.getD i (0, 0, 0, 0)).1) ∧ W.cell? ⟨g2, i * 4 + 1, none⟩ = some (.int .i64 (b.getD i (0, 0, 0, 0)).2.1) ∧ W.cell? ⟨g2, i * 4 + 2, none⟩ = some (.int .i64 (b.getD i (0, 0, 0, 0)).2.2.1) ∧ W.cell? ⟨g2, i * 4 + 3, none⟩ = some (.int .u32 (b.getD i (0, 0, 0, 0)).2.2.2))) := fun W i hW i1 i2 => by
    have r1 := grow_below h1 (hW.below _)
    have r2 := grow_below h2 (hW.below _)
    obtain ⟨g1, d1, q1, z1⟩ := grow_at r1 (by omega)
    obtain ⟨g2, d2, q2, z2⟩ := grow_at r2 (by omega)
    rw [e1'] at q1
    rw [e2'] at q2
    injection q1 with q1 _ _
    injection q2 with q2 _ _
    refine ⟨g1, g2, q1, q2, ?_, ?_⟩
    · exact z1 i _ (by rw [List.getElem?_eq_getElem (by omega : i < a.length)]; simp [List.getD, show i < a.length by omega])
    · exact z2 i _ (by rw [List.getElem?_eq_getElem (by omega : i < b.length)]; simp [List.getD, show i < b.length by omega])
  clear h1 h2 hl e1 e2 hn1 hn2
  subst e1' e2'
  by_cases hlen : n1 = n2
  · subst hlen
    go_enter Tryz.func55, Tryz.ntmps55
    go_wp2_with fail
    go_loopw [13] (fun s13 wr => ∃ i : Nat, s13 = .int .i64 i ∧ i ≤ n1 ∧ Hid ((∀ j, j < i → a.getD j (0, 0, 0, 0) = b.getD j (0, 0, 0, 0)) ∧ Like w wr)) (fun s13 _ => n1 - (intOf s13).toNat)
    case atStart => exact ⟨0, rfl, by omega, fun j hj => absurd hj (Nat.not_lt_zero _), rfl, rfl, rfl, rfl⟩
    case round =>
      obtain ⟨i, rfl, hi, hS⟩ := hrel
      by_cases h : i < n1
      · obtain ⟨g1, g2, rfl, rfl, hcs⟩ := unhide HC wr i (unhide hS).2 h h
        have hz : (i : Int) < (n1 : Int) := by omega
        obtain ⟨y1, hy1⟩ : ∃ y, y = a.getD i (0, 0, 0, 0) := ⟨_, rfl⟩
        obtain ⟨y2, hy2⟩ : ∃ y, y = b.getD i (0, 0, 0, 0) := ⟨_, rfl⟩
        rw [← hy1, ← hy2] at hcs
        obtain ⟨⟨hc0, hc1, hc2, hc3⟩, ⟨hd0, hd1, hd2, hd3⟩⟩ := hcs
        have HY : Hid (y1 = a.getD i (0, 0, 0, 0) ∧ y2 = b.getD i (0, 0, 0, 0)) := ⟨hy1, hy2⟩
        have HW : Hid (Like w wr) := (unhide hS).2
        clear hy1 hy2
        by_cases hyy : y1 = y2
        · subst hyy
          have hq : ∀ W : World, (Op.equalIn 10000 50 (.agg #[.int .i64 y1.1, .int .i64 y1.2.1, .int .i64 y1.2.2.1, .int .u32 y1.2.2.2]) (.agg #[.int .i64 y1.1, .int .i64 y1.2.1, .int .i64 y1.2.2.1, .int .u32 y1.2.2.2])).run Tryz.prog W = .ok true W := fun W => by rw [eqE y1 y1 W, decide_eq_true rfl]
          go_upto_region 6 with fail
          refine wp_region_noPanic ?_
          refine regionL [] (fun y => (y.cell? ⟨g1, i * 4, none⟩ = some (.int .i64 y1.1) ∧ y.cell? ⟨g1, i * 4 + 1, none⟩ = some (.int .i64 y1.2.1) ∧ y.cell? ⟨g1, i * 4 + 2, none⟩ = some (.int .i64 y1.2.2.1) ∧ y.cell? ⟨g1, i * 4 + 3, none⟩ = some (.int .u32 y1.2.2.2)) ∧ y.cell? ⟨g2, i * 4, none⟩ = some (.int .i64 y1.1) ∧ y.cell? ⟨g2, i * 4 + 1, none⟩ = some (.int .i64 y1.2.1) ∧ y.cell? ⟨g2, i * 4 + 2, none⟩ = some (.int .i64 y1.2.2.1) ∧ y.cell? ⟨g2, i * 4 + 3, none⟩ = some (.int .u32 y1.2.2.2)) (by kernel_rfl) ⟨⟨hc0, hc1, hc2, hc3⟩, hd0, hd1, hd2, hd3⟩ (fun hHeld => ?_)
          refine takeL (i := 0) (v := ?t2v0) (some 16) rfl rfl (by kernel_rfl) (by kernel_rfl) (by kernel_rfl) (by kernel_rfl) (by kernel_rfl) (fun _ _ _ h => h) (Or.inl ⟨by rfl, ?t2h0⟩) (by assumption) ?t2r0
          case t2h0 => (intro y hSu; (try dsimp only at hSu); go_simp; first | done | with_reducible rfl)
          (try simp only [Act.put, List.setIfInBounds_toArray, List.set_cons_zero, List.set_cons_succ])
          refine takeL (i := 1) (v := ?t2v1) (some 17) rfl rfl (by kernel_rfl) (by kernel_rfl) (by kernel_rfl) (by kernel_rfl) (by kernel_rfl) (fun _ _ _ h => h) (Or.inl ⟨by rfl, ?t2h1⟩) (by assumption) ?t2r1
          case t2h1 => (intro y hSu; (try dsimp only at hSu); go_simp; first | done | with_reducible rfl)
          (try simp only [Act.put, List.setIfInBounds_toArray, List.set_cons_zero, List.set_cons_succ])
          refine takeL (i := 2) (v := ?t2v2) (some 18) rfl rfl (by kernel_rfl) (by kernel_rfl) (by kernel_rfl) (by kernel_rfl) (by kernel_rfl) (fun _ _ _ h => h) (Or.inl ⟨by rfl, ?t2h2⟩) (by assumption) ?t2r2
          case t2h2 => (intro y hSu; (try dsimp only at hSu); go_simp; first | done | with_reducible rfl)
          (try simp only [Act.put, List.setIfInBounds_toArray, List.set_cons_zero, List.set_cons_succ])
          refine takeL (i := 3) (v := ?t2v3) (some 19) rfl rfl (by kernel_rfl) (by kernel_rfl) (by kernel_rfl) (by kernel_rfl) (by kernel_rfl) (fun _ _ _ h => h) (Or.inl ⟨by rfl, ?t2h3⟩) (by assumption) ?t2r3
          case t2h3 => (intro y hSu; (try dsimp only at hSu); go_simp; first | done | with_reducible rfl)
          (try simp only [Act.put, List.setIfInBounds_toArray, List.set_cons_zero, List.set_cons_succ])
          refine takeL (i := 4) (v := ?t2v4) (some 20) rfl rfl (by kernel_rfl) (by kernel_rfl) (by kernel_rfl) (by kernel_rfl) (by kernel_rfl) (fun _ _ _ h => h) (Or.inl ⟨by rfl, ?t2h4⟩) (by assumption) ?t2r4
          case t2h4 => (intro y hSu; (try dsimp only at hSu); go_simp; first | done | with_reducible rfl)
          (try simp only [Act.put, List.setIfInBounds_toArray, List.set_cons_zero, List.set_cons_succ])
          refine takeL (i := 5) (v := ?t2v5) (some 21) rfl rfl (by kernel_rfl) (by kernel_rfl) (by kernel_rfl) (by kernel_rfl) (by kernel_rfl) (fun _ _ _ h => h) (Or.inl ⟨by rfl, ?t2h5⟩) (by assumption) ?t2r5
          case t2h5 => (intro y hSu; (try dsimp only at hSu); go_simp; first | done | with_reducible rfl)
          (try simp only [Act.put, List.setIfInBounds_toArray, List.set_cons_zero, List.set_cons_succ])
          refine takeL (i := 6) (v := ?t2v6) (some 22) rfl rfl (by kernel_rfl) (by kernel_rfl) (by kernel_rfl) (by kernel_rfl) (by kernel_rfl) (fun _ _ _ h => h) (Or.inl ⟨by rfl, ?t2h6⟩) (by assumption) ?t2r6
          case t2h6 => (intro y hSu; (try dsimp only at hSu); go_simp; first | done | with_reducible rfl)
          (try simp only [Act.put, List.setIfInBounds_toArray, List.set_cons_zero, List.set_cons_succ])
          refine takeL (i := 7) (v := ?t2v7) (some 23) rfl rfl (by kernel_rfl) (by kernel_rfl) (by kernel_rfl) (by kernel_rfl) (by kernel_rfl) (fun _ _ _ h => h) (Or.inl ⟨by rfl, ?t2h7⟩) (by assumption) ?t2r7
          case t2h7 => (intro y hSu; (try dsimp only at hSu); go_simp; first | done | with_reducible rfl)
          (try simp only [Act.put, List.setIfInBounds_toArray, List.set_cons_zero, List.set_cons_succ])
          refine takeL (i := 8) (v := ?t2v8) (some 24) rfl rfl (by kernel_rfl) (by kernel_rfl) (by kernel_rfl) (by kernel_rfl) (by kernel_rfl) (fun _ _ _ h => h) (Or.inl ⟨by rfl, ?t2h8⟩) (by assumption) ?t2r8
          case t2h8 => (intro y hSu; (try dsimp only at hSu); go_simp; first | done | with_reducible rfl)
          (try simp only [Act.put, List.setIfInBounds_toArray, List.set_cons_zero, List.set_cons_succ])
          refine doneL (by kernel_rfl) ?_ _
          refine NoPanic.normal ?_
          have HG : Hid ((∀ j, j < i + 1 → a.getD j (0, 0, 0, 0) = b.getD j (0, 0, 0, 0)) ∧ Like w wr.drew) := ⟨fun j hj => by
            rcases Nat.lt_or_ge j i with h' | h'
            · exact (unhide hS).1 j h'
            · obtain rfl : j = i := by omega
              exact (unhide HY).1.symm.trans (unhide HY).2, ⟨(unhide HW).1, (unhide HW).2.1, (unhide HW).2.2.1, (unhide HW).2.2.2⟩⟩
          clear hc0 hc1 hc2 hc3 hd0 hd1 hd2 hd3 hHeld hq
          go_wp2_with fail
          have hwi : wrap64 ((i : Int) + 1) = ((i + 1 : Nat) : Int) := by have := (unhide HN).2.2; unfold wrap64; omega
          (try rw [hwi])
          exact ⟨⟨i + 1, rfl, by omega, HG⟩, by simp [intOf]; omega⟩
        · have hq : ∀ W : World, (Op.equalIn 10000 50 (.agg #[.int .i64 y1.1, .int .i64 y1.2.1, .int .i64 y1.2.2.1, .int .u32 y1.2.2.2]) (.agg #[.int .i64 y2.1, .int .i64 y2.2.1, .int .i64 y2.2.2.1, .int .u32 y2.2.2.2])).run Tryz.prog W = .ok false W := fun W => by rw [eqE y1 y2 W, decide_eq_false hyy]
          go_upto_region 6 with fail
          refine wp_region_noPanic ?_
          refine regionL [] (fun y => (y.cell? ⟨g1, i * 4, none⟩ = some (.int .i64 y1.1) ∧ y.cell? ⟨g1, i * 4 + 1, none⟩ = some (.int .i64 y1.2.1) ∧ y.cell? ⟨g1, i * 4 + 2, none⟩ = some (.int .i64 y1.2.2.1) ∧ y.cell? ⟨g1, i * 4 + 3, none⟩ = some (.int .u32 y1.2.2.2)) ∧ y.cell? ⟨g2, i * 4, none⟩ = some (.int .i64 y2.1) ∧ y.cell? ⟨g2, i * 4 + 1, none⟩ = some (.int .i64 y2.2.1) ∧ y.cell? ⟨g2, i * 4 + 2, none⟩ = some (.int .i64 y2.2.2.1) ∧ y.cell? ⟨g2, i * 4 + 3, none⟩ = some (.int .u32 y2.2.2.2)) (by kernel_rfl) ⟨⟨hc0, hc1, hc2, hc3⟩, hd0, hd1, hd2, hd3⟩ (fun hHeld => ?_)
          refine takeL (i := 0) (v := ?t5v0) (some 16) rfl rfl (by kernel_rfl) (by kernel_rfl) (by kernel_rfl) (by kernel_rfl) (by kernel_rfl) (fun _ _ _ h => h) (Or.inl ⟨by rfl, ?t5h0⟩) (by assumption) ?t5r0
          case t5h0 => (intro y hSu; (try dsimp only at hSu); go_simp; first | done | with_reducible rfl)
          (try simp only [Act.put, List.setIfInBounds_toArray, List.set_cons_zero, List.set_cons_succ])
          refine takeL (i := 1) (v := ?t5v1) (some 17) rfl rfl (by kernel_rfl) (by kernel_rfl) (by kernel_rfl) (by kernel_rfl) (by kernel_rfl) (fun _ _ _ h => h) (Or.inl ⟨by rfl, ?t5h1⟩) (by assumption) ?t5r1
          case t5h1 => (intro y hSu; (try dsimp only at hSu); go_simp; first | done | with_reducible rfl)
          (try simp only [Act.put, List.setIfInBounds_toArray, List.set_cons_zero, List.set_cons_succ])
          refine takeL (i := 2) (v := ?t5v2) (some 18) rfl rfl (by kernel_rfl) (by kernel_rfl) (by kernel_rfl) (by kernel_rfl) (by kernel_rfl) (fun _ _ _ h => h) (Or.inl ⟨by rfl, ?t5h2⟩) (by assumption) ?t5r2
          case t5h2 => (intro y hSu; (try dsimp only at hSu); go_simp; first | done | with_reducible rfl)
          (try simp only [Act.put, List.setIfInBounds_toArray, List.set_cons_zero, List.set_cons_succ])
          refine takeL (i := 3) (v := ?t5v3) (some 19) rfl rfl (by kernel_rfl) (by kernel_rfl) (by kernel_rfl) (by kernel_rfl) (by kernel_rfl) (fun _ _ _ h => h) (Or.inl ⟨by rfl, ?t5h3⟩) (by assumption) ?t5r3
          case t5h3 => (intro y hSu; (try dsimp only at hSu); go_simp; first | done | with_reducible rfl)
          (try simp only [Act.put, List.setIfInBounds_toArray, List.set_cons_zero, List.set_cons_succ])
          refine takeL (i := 4) (v := ?t5v4) (some 20) rfl rfl (by kernel_rfl) (by kernel_rfl) (by kernel_rfl) (by kernel_rfl) (by kernel_rfl) (fun _ _ _ h => h) (Or.inl ⟨by rfl, ?t5h4⟩) (by assumption) ?t5r4
          case t5h4 => (intro y hSu; (try dsimp only at hSu); go_simp; first | done | with_reducible rfl)
          (try simp only [Act.put, List.setIfInBounds_toArray, List.set_cons_zero, List.set_cons_succ])
          refine takeL (i := 5) (v := ?t5v5) (some 21) rfl rfl (by kernel_rfl) (by kernel_rfl) (by kernel_rfl) (by kernel_rfl) (by kernel_rfl) (fun _ _ _ h => h) (Or.inl ⟨by rfl, ?t5h5⟩) (by assumption) ?t5r5
          case t5h5 => (intro y hSu; (try dsimp only at hSu); go_simp; first | done | with_reducible rfl)
          (try simp only [Act.put, List.setIfInBounds_toArray, List.set_cons_zero, List.set_cons_succ])
          refine takeL (i := 6) (v := ?t5v6) (some 22) rfl rfl (by kernel_rfl) (by kernel_rfl) (by kernel_rfl) (by kernel_rfl) (by kernel_rfl) (fun _ _ _ h => h) (Or.inl ⟨by rfl, ?t5h6⟩) (by assumption) ?t5r6
          case t5h6 => (intro y hSu; (try dsimp only at hSu); go_simp; first | done | with_reducible rfl)
          (try simp only [Act.put, List.setIfInBounds_toArray, List.set_cons_zero, List.set_cons_succ])
          refine takeL (i := 7) (v := ?t5v7) (some 23) rfl rfl (by kernel_rfl) (by kernel_rfl) (by kernel_rfl) (by kernel_rfl) (by kernel_rfl) (fun _ _ _ h => h) (Or.inl ⟨by rfl, ?t5h7⟩) (by assumption) ?t5r7
          case t5h7 => (intro y hSu; (try dsimp only at hSu); go_simp; first | done | with_reducible rfl)
          (try simp only [Act.put, List.setIfInBounds_toArray, List.set_cons_zero, List.set_cons_succ])
          refine takeL (i := 8) (v := ?t5v8) (some 24) rfl rfl (by kernel_rfl) (by kernel_rfl) (by kernel_rfl) (by kernel_rfl) (by kernel_rfl) (fun _ _ _ h => h) (Or.inl ⟨by rfl, ?t5h8⟩) (by assumption) ?t5r8
          case t5h8 => (intro y hSu; (try dsimp only at hSu); go_simp; first | done | with_reducible rfl)
          (try simp only [Act.put, List.setIfInBounds_toArray, List.set_cons_zero, List.set_cons_succ])
          refine doneL (by kernel_rfl) ?_ _
          refine NoPanic.normal ?_
          have HF : Hid (decide (a = b) = false) := decide_eq_false (fun e => hyy (by rw [(unhide HY).1, (unhide HY).2, e]))
          clear hc0 hc1 hc2 hc3 hd0 hd1 hd2 hd3 hHeld hq
          go_wp2_with fail
          go_ret
          exact ⟨by rw [unhide HF]; rfl, (unhide HW).1, (unhide HW).2.1, (unhide HW).2.2.1, (unhide HW).2.2.2⟩
      · have hz : ¬ (i : Int) < (n1 : Int) := by omega
        have HF : Hid (decide (a = b) = true) := decide_eq_true (listE_eq_getD (by have := unhide HN; omega) (fun j hj => (unhide hS).1 j (by have := unhide HN; omega)))
        go_wp2_with fail
        go_ret
        exact ⟨by rw [unhide HF]; rfl, (unhide hS).2⟩
  · have hlz : ¬ (n1 : Int) = (n2 : Int) := by omega
    have HF : Hid (decide (a = b) = false) := decide_eq_false (fun e => hlen (by have := unhide HN; rw [e] at this; omega))
    clear hlen HC
    go_enter Tryz.func55, Tryz.ntmps55
    go_wp2_with fail
    go_ret
    exact ⟨by rw [unhide HF]; rfl, rfl, rfl, rfl, rfl⟩
end

section
open Go.RowKit Go.Maps
theorem encG_len (gs : List EdgeV) : (encG gs).length = gs.length * 4 := by
  induction gs with
  | nil => rfl
  | cons r rs ih =>
    have e : encG (r :: rs) = .int .i64 r.1 :: .int .i64 r.2.1 :: .int .i64 r.2.2.1 :: .int .u32 r.2.2.2 :: encG rs := by simp [encG]
    rw [e]; simp only [List.length_cons, ih]; omega
theorem encG_app (a b : List EdgeV) : encG (a ++ b) = encG a ++ encG b := by simp [encG]
theorem encG_one (gs : List EdgeV) : ∀ u ∈ encG gs, u.oneCell' = true := by
  intro u hu
  simp only [encG, List.mem_flatMap] at hu
  obtain ⟨a, -, h⟩ := hu
  simp at h
  rcases h with rfl | rfl | rfl | rfl <;> rfl
theorem encG_seg (gs : List EdgeV) (i m : Nat) (hm : i + m ≤ gs.length) {j : Nat} {u : Value} (hj : (encG ((gs.drop i).take m))[j]? = some u) : (encG gs)[i * 4 + j]? = some u := by
  have e : gs = gs.take i ++ ((gs.drop i).take m ++ (gs.drop i).drop m) := by rw [List.take_append_drop, List.take_append_drop]
  have hlt := (List.getElem?_eq_some_iff.1 hj).1
  rw [e, encG_app, encG_app]
  have hl : (encG (gs.take i)).length = i * 4 := by rw [encG_len, List.length_take]; omega
  rw [List.getElem?_append_right (by omega), hl, show i * 4 + j - i * 4 = j by omega, List.getElem?_append_left hlt]
  exact hj

theorem run_appGS {B : Nat} {w : World} (hB : B ≤ w.heap.size) {v : Value} {a es : List EdgeV} {g n c i m : Nat} (h1 : GRow B w v a) (h2 : GRow 0 w (.slice (some ⟨g, 0, none⟩) n c) es) (hm : i + m ≤ es.length) (hl : a.length + es.length ≤ 1000000) (c2 : Nat) :
    ∃ v' w', (∀ ty, (Builtin.append_ #[25, 25] ty #[v, .slice (some ⟨g, i * 4, none⟩) m c2]).run Tryz.prog w = .ok v' w') ∧ GRow B w' v' (a ++ (es.drop i).take m) ∧ w.grownBy w' v.ownBlock := by
  obtain ⟨i0, hi0, hz, hs, hb⟩ := info_parts info50
  have hlen : ((es.drop i).take m).length = m := by rw [List.length_take, List.length_drop]; omega
  obtain ⟨v', w', hr, g1, g2, -, -⟩ := run_append_own_at (P := Tryz.prog) w B 25 0 50 i0 _ 4 32 Tryz.underlying25 hi0 hz hs hb rfl (by omega) v a.length (encG a) h1 ⟨g, i * 4, none⟩ m c2 (encG ((es.drop i).take m)) (by rw [encG_len, hlen])
    (fun j u hj => by
      have add : (⟨g, i * 4, none⟩ : Addr).add j = ⟨g, i * 4 + j, none⟩ := by unfold Addr.add; split <;> simp_all
      have add0 : (⟨g, 0, none⟩ : Addr).add (i * 4 + j) = ⟨g, i * 4 + j, none⟩ := by unfold Addr.add; split <;> simp_all
      have f := h2.cells (g := g) rfl _ _ (encG_seg es i m hm hj)
      rw [add0] at f
      rw [add]
      exact f) (encG_one _) (by unfold maxLen; omega) (by omega) hB
  refine ⟨v', w', fun ty => hr, ?_, g2⟩
  have e2 : a.length + m = (a ++ (es.drop i).take m).length := by rw [List.length_append, hlen]
  rw [← encG_app, e2] at g1
  exact g1
end

end Go.Proofs.YtgocbcacfcfblaaGreat
