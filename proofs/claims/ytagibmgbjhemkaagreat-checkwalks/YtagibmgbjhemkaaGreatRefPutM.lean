/- The reference's PutEdge: its memory. -/
import Derived.Test.YtagibmgbjhemkaaGreatRefDropE
import Derived.Laws.OwnMore
namespace Go.Proofs.YtagibmgbjhemkaaGreat

section
open Go.RowKit Go.Maps
theorem encG_cons (r : EdgeV) (rs : List EdgeV) : encG (r :: rs) = .int .i64 r.1 :: .int .i64 r.2.1 :: .int .i64 r.2.2.1 :: .int .u32 r.2.2.2 :: encG rs := by simp [encG]
theorem encG_set {x : EdgeV} (n : Int) : ∀ {es : List EdgeV} {i : Nat}, es[i]? = some x → encG (es.set i (x.1, x.2.1, x.2.2.1, n)) = (encG es).set (i * 4 + 3) (.int .u32 n)
  | [], i, h => by simp at h
  | r :: rs, 0, h => by
    simp at h; subst h; rw [List.set_cons_zero, encG_cons, encG_cons]; rfl
  | r :: rs, i + 1, h => by
    have ih := encG_set n (es := rs) (i := i) (by simpa using h)
    rw [List.set_cons_succ, encG_cons, encG_cons, ih, show (i + 1) * 4 + 3 = (i * 4 + 3) + 1 + 1 + 1 + 1 by omega]
    rfl
theorem rew_mem {w w2 : World} {bb b1 : Nat} {va : Option Addr} {vn vc g ec i : Nat} {rd wr_0 : Int} {vs : List Int} {es : List EdgeV} {x : EdgeV} (n : Int) (h1 : bb < b1) (h3 : b1 < w2.heap.size) (_hg : g < w2.heap.size) (k1 : w2.heap[b1]? = some oZ) (k3 : w2.heap[bb]? = some (oG (.slice va vn vc) (.slice (some ⟨g, 0, none⟩) es.length ec) rd wr_0)) (k4 : Below bb w w2)
    (hV : ∀ W, Below bb w W → NRow W (.slice va vn vc) vs) (hR : GRow 0 w2 (.slice (some ⟨g, 0, none⟩) es.length ec) es) (hx : es[i]? = some x) (hl : es.length ≤ 400000) :
    ∃ g5 c5 w5, (∀ ty, (Builtin.append_ #[26, 26] ty #[.slice (some ⟨w2.heap.size, 0, none⟩) 0 0, .slice (some ⟨g, 0, none⟩) es.length ec]).run Tryz.prog (w2.alloc (.cells #[] 64)) = .ok (.slice (some ⟨g5, 0, none⟩) es.length c5) w5) ∧ w2.heap.size ≤ g5 ∧ w5.heap[bb]? = some (oG (.slice va vn vc) (.slice (some ⟨g, 0, none⟩) es.length ec) rd wr_0) ∧
      (∃ u, w5.cell? ⟨g5, i * 4 + 3, none⟩ = some u) ∧ w5.frozen? ⟨g5, i * 4 + 3, none⟩ = false ∧
      ∀ w8, w8 = ((w5.setCell ⟨bb, 1, none⟩ (.slice (some ⟨g5, 0, none⟩) es.length c5)).setCell ⟨g5, i * 4 + 3, none⟩ (.int .u32 n)).setCell ⟨bb, 3, none⟩ (.int .i64 (wr_0 + 1)) →
        w8.heap[bb]? = some (oG (.slice va vn vc) (.slice (some ⟨g5, 0, none⟩) es.length c5) rd (wr_0 + 1)) ∧ w8.heap[b1]? = some oZ ∧
        ∀ p q r s, Below bb w (set4 w8 b1 p q r s) ∧ NRow (set4 w8 b1 p q r s) (.slice va vn vc) vs ∧ GRow 0 (set4 w8 b1 p q r s) (.slice (some ⟨g5, 0, none⟩) es.length c5) (es.set i (x.1, x.2.1, x.2.2.1, n)) := by
  have hi := (List.getElem?_eq_some_iff.1 hx).1; have hb2 := below_new w2 (.cells #[] 64); have hR2 := grow_below hR hb2; have h0 : GRow w2.heap.size (w2.alloc (.cells #[] 64)) (.slice (some ⟨w2.heap.size, 0, none⟩) 0 0) [] :=
    ⟨rfl, .inr ⟨w2.heap.size, 0, #[], rfl, Nat.le_refl _, heap_alloc_new _ _, Nat.le_refl _, by unfold maxLen; omega, rfl, rfl⟩⟩
  obtain ⟨v5, w5, hr5, g5, gg5⟩ := run_appGS (i := 0) (m := es.length) hb2.size h0 hR2 (by omega) (by simp; omega) ec
  simp only [List.drop_zero, List.nil_append, Nat.zero_mul, List.take_length] at hr5 g5; obtain ⟨g', c5, rfl, hc⟩ := grow_at g5 (by omega)
  have hge := g5.lt g' rfl; have hB5 : Below w2.heap.size w2 w5 := hb2.trans ⟨gg5.os, gg5.tape, gg5.output, gg5.size, fun k hk => gg5.block k (Nat.lt_of_lt_of_le hk hb2.size) (fun e => by
    have := (h0.lt k e.symm).1; omega)⟩
  have hs5 := hB5.size; have m3 := (hB5.block bb (by omega)).trans k3
  have m1 := (hB5.block b1 h3).trans k1; have hB6 : Below bb w w5 := k4.trans (hB5.mono (by omega))
  have fz : w5.frozen? ⟨g', i * 4 + 3, none⟩ = false := World.ownsRow.frozenAt g5 _; refine ⟨g', c5, w5, hr5, hge.1, m3, ⟨_, (hc i x hx).2.2.2⟩, fz, ?_⟩; intro w8 e8; have q1 : (w5.setCell ⟨bb, 1, none⟩ (.slice (some ⟨g', 0, none⟩) es.length c5)).heap[bb]? = some (oG (.slice va vn vc) (.slice (some ⟨g', 0, none⟩) es.length c5) rd wr_0) := by rw [heap_setCell_same _ _ _ _ _ _ m3]; rfl
  have q2 := (heap_setCell_other (w5.setCell ⟨bb, 1, none⟩ (.slice (some ⟨g', 0, none⟩) es.length c5)) ⟨g', i * 4 + 3, none⟩ bb (.int .u32 n) (by show bb ≠ g'; omega)).trans q1
  have q3 : w8.heap[bb]? = some (oG (.slice va vn vc) (.slice (some ⟨g', 0, none⟩) es.length c5) rd (wr_0 + 1)) := by rw [e8, heap_setCell_same _ _ _ _ _ _ q2]; rfl
  have hB8 : Below bb w w8 := by
    rw [e8]; exact ((hB6.setCell (p := ⟨bb, 1, none⟩) (Nat.le_refl _) _).setCell (p := ⟨g', i * 4 + 3, none⟩) (by show bb ≤ g'; omega) _).setCell (p := ⟨bb, 3, none⟩) (Nat.le_refl _) _
  have p1 : w8.heap[b1]? = some oZ := by
    rw [e8]; exact (heap_setCell_other _ _ _ _ (by show b1 ≠ bb; omega)).trans ((heap_setCell_other _ _ _ _ (by show b1 ≠ g'; omega)).trans ((heap_setCell_other _ _ _ _ (by show b1 ≠ bb; omega)).trans m1))
  refine ⟨q3, p1, fun p q r s => ?_⟩
  have hB9 := set4_below hB8 (by omega : bb ≤ b1) p q r s
  refine ⟨hB9, hV _ hB9, ?_⟩; have r1 : GRow w2.heap.size (w5.setCell ⟨bb, 1, none⟩ (.slice (some ⟨g', 0, none⟩) es.length c5)) (.slice (some ⟨g', 0, none⟩) es.length c5) es := grow_kept g5 (fun b hb => heap_setCell_other _ _ _ _ (by have := (g5.lt b hb).1; show b ≠ bb; omega))
  have r2 := (World.ownsRow.stored r1 (i * 4 + 3) (.int .u32 n)).1; rw [← encG_set n hx] at r2; have r3 : GRow w2.heap.size (set4 w8 b1 p q r s) (.slice (some ⟨g', 0, none⟩) es.length c5) (es.set i (x.1, x.2.1, x.2.2.1, n)) := by
    have r2' : GRow w2.heap.size ((w5.setCell ⟨bb, 1, none⟩ (.slice (some ⟨g', 0, none⟩) es.length c5)).setCell ⟨g', i * 4 + 3, none⟩ (.int .u32 n)) (.slice (some ⟨g', 0, none⟩) es.length c5) (es.set i (x.1, x.2.1, x.2.2.1, n)) := by
      show World.ownsRow _ _ _ _ _ _ _; rw [List.length_set]; exact r2
    refine grow_kept r2' (fun b hb => ?_)
    have := (r2'.lt b hb).1; refine (set4_other (by omega) _ _ _ _).trans ?_
    rw [e8]; exact heap_setCell_other _ _ _ _ (by show b ≠ bb; omega)
  refine ⟨r3.1, ?_⟩; rcases r3.2 with h | ⟨g, cap, cur, e, -, rest⟩
  · exact .inl h
  · exact .inr ⟨g, cap, cur, e, Nat.zero_le _, rest⟩
end

section
open Go.RowKit Go.Maps
set_option maxHeartbeats 2000000 in
set_option maxRecDepth 100000 in
theorem refReweigh {w : World} {vv ev : Value} {rd wr_0 : Int} {vs : List Int} {es : List EdgeV} (v n : Int) {b : Int} (hk : kept n = some b) (h : NRow w vv vs) (hE : GRow 0 w ev es) (hl : es.length ≤ 400000) (hr0 : 0 ≤ wr_0) (hr1 : wr_0 ≤ 1000000000) {x : EdgeV} (hx : ∃ i : Nat, es[i]? = some x) (hxv : x.1 = v) (hone : ∀ (i j : Nat) (a b : EdgeV), es[i]? = some a → es[j]? = some b → a.1 = b.1 → a = b) :
    Calls Tryz.prog 72 #[.agg #[vv, ev, .int .i64 rd, .int .i64 wr_0], .int .i64 v, .int .u32 n] w fun e w' => Hid (∃ i : Nat, es[i]? = some x ∧ AnsGU w vv ev vs (es.set i (x.1, x.2.1, x.2.2.1, b)) rd (wr_0 + 1) x.2.2.2 0 e w') := by
  obtain ⟨t1, t2, t4, t5⟩ := two_boxes w (oG vv ev rd wr_0); obtain ⟨c0, c1, c2, c3, cf⟩ := cellsG t1; have HF : Hid (∀ W, Below w.heap.size w W → NRow W vv vs ∧ GRow 0 W ev es) := fun W hW => ⟨nrow_below h hW, grow_below hE hW⟩
  have CH : Hid (Calls Tryz.prog 38 #[.agg #[vv, ev, .int .i64 rd, .int .i64 wr_0], .int .i64 v] ((w.alloc (oG vv ev rd wr_0)).alloc oZ) fun e w2 => ∃ (i : Nat) (g : Nat) (c : Nat), e = .returned (.int .i64 (i : Int)) ∧ (ev = .slice (some ⟨g, 0, none⟩) es.length c ∧ i < es.length ∧ es[i]? = some x ∧ g < w.heap.size ∧ w2.cell? ⟨g, i * 4 + 3, none⟩ = some (.int .u32 x.2.2.2)) ∧ Hid (w2.heap[w.heap.size + 1]? = some oZ ∧ w2.heap[w.heap.size]? = some (oG vv ev rd wr_0) ∧ Below w.heap.size w w2 ∧ w.heap.size + 2 ≤ w2.heap.size)) := by
    refine (refAt v (grow_below hE t4) (by omega)).mono ?_
    rintro e w2 ⟨r, rfl, g⟩
    obtain ⟨g1, g2⟩ := unhide g; obtain ⟨i0, hi0⟩ := hx; obtain ⟨i, a, rfl, k1, k2, -⟩ : ∃ (i : Nat) (a : EdgeV), r = (i : Int) ∧ es[i]? = some a ∧ a.1 = v ∧ ∀ (j : Nat) (b : EdgeV), j < i → es[j]? = some b → b.1 ≠ v := by
      rcases g1 with h | ⟨-, h⟩
      · exact h
      · exact absurd hxv (h i0 x hi0)
    have hax : a = x := hone i i0 a x k1 hi0 (k2.trans hxv.symm); subst hax; have hil := (List.getElem?_eq_some_iff.1 k1).1; have hEw := grow_below (grow_below hE t4) g2; obtain ⟨g, c, eg, hc⟩ := grow_at hEw (by omega)
    have hgw : g < w.heap.size := (hE.lt g (by rw [eg]; rfl)).2
    obtain ⟨y0, y1, y2, y3⟩ := hc i a k1; have gs := g2.size; exact ⟨i, g, c, rfl, ⟨eg, hil, k1, hgw, y3⟩, (g2.block _ (by omega)).trans t2, (g2.block _ (by omega)).trans t1, t4.trans (g2.mono (by omega)), by omega⟩
  obtain ⟨va, vc, hvv, -⟩ := brow_shape h; obtain ⟨vn, hvv'⟩ : ∃ vn, vv = .slice va vn vc := ⟨_, hvv⟩; obtain ⟨ea, en, ec, hev⟩ := grow_shape hE; have hwr : IntKind.i64.wrap (wr_0 + 1) = wr_0 + 1 := by rw [IntKind.wrap_i64]; omega
  have HLE : Hid (es.length ≤ 400000) := hl; have CA : Hid (∀ W, Calls Tryz.prog 99 #[.int .u32 n] W fun e w' => e = .returned (ansK (kept n)) ∧ w' = W) := fun W => refAdmit n W
  rw [hk] at CA; unfold ansK at CA; clear t1 t2 t4 t5 h hE hvv hl hx hxv hone hr0 hr1 hk; subst hvv' hev
  go_enter Tryz.func72, Tryz.ntmps72
  go_upto_region 1 with fail
  change Code.wp _ _ _ _ ((w.alloc (oG (.slice va vn vc) (.slice ea en ec) rd wr_0)).alloc oZ); generalize (w.alloc (oG (.slice va vn vc) (.slice ea en ec) rd wr_0)).alloc oZ = wb at *; generalize hb1 : w.heap.size + 1 = b1 at *; generalize hbb : w.heap.size = bb at *
  go_wp2_with fail
  refine (unhide CH).mono ?_
  rintro e w2 ⟨i, g, c, rfl, ⟨eg, hil, hix, hgw, y3⟩, h2⟩
  injection eg with eg1 eg2 eg3
  subst eg1 eg2 eg3; obtain ⟨k1, k3, k4, k5⟩ := unhide h2; clear c0 c1 c2 c3 cf CH h2; obtain ⟨c0, c1, c2, c3, cf⟩ := cellsG k3; have n1 : ¬ bb = b1 := by omega
  have n2 : ¬ b1 = bb := by omega
  have n7 : ¬ g = bb := by omega
  have n8 : ¬ bb = g := by omega
  have n9 : ¬ g = b1 := by omega
  have hz : (i : Int) < (es.length : Int) := by omega
  have hi0 : ¬ (i : Int) < 0 := by omega
  have HIX := hide hix; obtain ⟨g5, c5, w5, hr5, hge, m3, ⟨u5, hu5⟩, hf5, hfin⟩ := rew_mem b (by omega : bb < b1) (by omega : b1 < w2.heap.size) (by omega : g < w2.heap.size) k1 k3 k4 (fun W hW => (unhide HF W hW).1) (unhide HF w2 k4).2 hix (unhide HLE)
  have HFIN := hide (hfin _ rfl); have HAP : Hid (∀ b, (Value.slice (some ⟨g5, 0, none⟩) es.length c5).ownBlock = some b → bb ≤ b) := fun b hb => by simp [Value.ownBlock] at hb; omega
  have o4 : (w2.alloc (.cells #[] 64)).heap[bb]? = some (oG (.slice va vn vc) (.slice (some ⟨g, 0, none⟩) es.length ec) rd wr_0) := (heap_alloc_old _ _ (by omega)).trans k3
  have HR5 := hide hr5; have s1 : ¬ g5 = bb := by omega
  have s2 : ¬ bb = g5 := by omega
  have l1 := (cellsG o4).2.1; obtain ⟨z0, z1, z2, z3, zf⟩ := cellsG m3; clear k1 k3 k4 k5 hix hfin o4 hr5 m3 hge
  go_wp2_with fail
  refine (unhide CA _).mono ?_
  rintro e w' ⟨rfl, rfl⟩
  go_upto_region 8 with fail
  clear y3 c0 c1 c2 c3 cf
  go_upto_region 9 with (at_builtin; refine Lib.wpList_append_run _ rfl _ _ 26 26 rfl _ _ rfl rfl _ _ (unhide HR5 _) ?_)
  clear HR5 l1
  go_upto_region 10 with fail
  go_upto_region 11 with fail
  obtain ⟨q1, q2, q6⟩ := unhide HFIN; have HQ6 := hide q6; clear q6 HFIN; generalize ((w5.setCell ⟨bb, 1, none⟩ (.slice (some ⟨g5, 0, none⟩) es.length c5)).setCell ⟨g5, i * 4 + 3, none⟩ (.int .u32 b)).setCell ⟨bb, 3, none⟩ (.int .i64 (wr_0 + 1)) = w8 at *; clear z0 z1 z2 z3 zf hu5 hf5; have HT1 := hide q2; obtain ⟨c0, c1, c2, c3, cf⟩ := cellsG q1; obtain ⟨d0, d1, d2, d3, df⟩ := cellsG (vv := .slice none 0 0) (ev := .slice none 0 0) (rd := 0) (wr := 0) q2; clear q1 q2
  go_wp2_with fail
  (try simp only [Exit.inBlock, Exit.then])
  change bodyPost _ _ _ _ _ (set4 w8 b1 _ _ _ _); refine bodyPost_ret (results_cell_tmp_tmp rfl _ _ _ ⟨b1, 0, none⟩ _ rfl (loadG _ _ _ _ _ _ (set4G_at (unhide HT1) _ _ _ _))) rfl ?_; obtain ⟨r1, r2, r3⟩ := unhide HQ6 (.slice va vn vc) (.slice (some ⟨g5, 0, none⟩) es.length c5) (.int .i64 rd) (.int .i64 (wr_0 + 1)); exact ⟨i, unhide HIX, _, _, rfl, r2, r3, by rw [hbb]; exact r1, Apt.refl _ _, Apt.new (unhide HAP) (by omega)⟩
end

section
open Go.RowKit Go.Maps
def PFit (w : World) (vv ev : Value) (rd wr_0 : Int) (x : EdgeV) (W : World) : Prop :=
  W.heap[w.heap.size]? = some (oG vv ev rd wr_0) ∧ W.heap[w.heap.size + 1]? = some (oX x) ∧ W.heap[w.heap.size + 2]? = some oZ ∧ Below w.heap.size w W ∧ w.heap.size + 3 ≤ W.heap.size
theorem PFit.step {w W W' : World} {vv ev : Value} {rd wr_0 : Int} {x : EdgeV} (h : PFit w vv ev rd wr_0 x W) (hb : Below W.heap.size W W') : PFit w vv ev rd wr_0 x W' := by
  obtain ⟨h1, h2, h3, h4, h5⟩ := h; have := hb.size; exact ⟨(hb.block _ (by omega)).trans h1, (hb.block _ (by omega)).trans h2, (hb.block _ (by omega)).trans h3, h4.trans (hb.mono (by omega)), by omega⟩
theorem pfit_new (w : World) (vv ev : Value) (rd wr_0 : Int) (x : EdgeV) : PFit w vv ev rd wr_0 x (((w.alloc (oG vv ev rd wr_0)).alloc (oX x)).alloc oZ) := by
  have h1 : (w.alloc (oG vv ev rd wr_0)).heap.size = w.heap.size + 1 := by simp
  have h2 : ((w.alloc (oG vv ev rd wr_0)).alloc (oX x)).heap.size = w.heap.size + 2 := by simp
  refine ⟨(heap_alloc_old _ _ (by omega)).trans ((heap_alloc_old _ _ (by omega)).trans (heap_alloc_new _ _)), (heap_alloc_old _ _ (by omega)).trans ?_, ?_, ((below_new w _).trans ((below_new _ _).mono (by omega))).trans ((below_new _ _).mono (by omega)), by simp⟩
  · have := heap_alloc_new (w.alloc (oG vv ev rd wr_0)) (oX x)
    rwa [h1] at this
  · have := heap_alloc_new ((w.alloc (oG vv ev rd wr_0)).alloc (oX x)) oZ
    rwa [h2] at this
theorem cellsX {w : World} {g : Nat} {x : EdgeV} (h : w.heap[g]? = some (oX x)) : w.cell? ⟨g, 0, none⟩ = some (.int .i64 x.1) ∧ w.cell? ⟨g, 1, none⟩ = some (.int .i64 x.2.1) ∧ w.cell? ⟨g, 2, none⟩ = some (.int .i64 x.2.2.1) ∧ w.cell? ⟨g, 3, none⟩ = some (.int .u32 x.2.2.2) ∧ ∀ o, w.frozen? ⟨g, o, none⟩ = false := cells34 h
end

section
open Go.RowKit Go.Maps
theorem PFit.bits {w W : World} {vv ev : Value} {rd wr_0 : Int} {x : EdgeV} (h : PFit w vv ev rd wr_0 x W) (n : Int) : PFit w vv ev rd wr_0 (x.1, x.2.1, x.2.2.1, n) (W.setCell ⟨w.heap.size + 1, 3, none⟩ (.int .u32 n)) := by
  obtain ⟨h1, h2, h3, h4, h5⟩ := h; refine ⟨(heap_setCell_other _ _ _ _ (by show w.heap.size ≠ w.heap.size + 1; omega)).trans h1, ?_, (heap_setCell_other _ _ _ _ (by show w.heap.size + 2 ≠ w.heap.size + 1; omega)).trans h3, h4.setCell (p := ⟨w.heap.size + 1, 3, none⟩) (by show w.heap.size ≤ w.heap.size + 1; omega) _, ?_⟩
  · rw [heap_setCell_same _ _ _ _ _ _ h2]; rfl
  · simpa using h5
theorem run_appGB {B : Nat} {w : World} {v : Value} {gs : List EdgeV} (a : EdgeV) (h : GRow B w v gs) (hB : B ≤ w.heap.size) (hl : gs.length ≤ 100000) :
    ∃ a' c' w', (∀ ty, (Builtin.append_ #[26, 26] ty #[v, .slice (some ⟨w.heap.size, 0, none⟩) 1 1]).run Tryz.prog (w.alloc (oE a)) = .ok (.slice a' (gs.length + 1) c') w') ∧ GRow B w' (.slice a' (gs.length + 1) c') (gs ++ [a]) ∧ Below B w w' := by
  obtain ⟨a', n', c', w', hr, g1, g2, -⟩ := run_appG a h hB hl; obtain ⟨a2, c2, e⟩ := grow_len g1; injection e with e1 e2 e3
  rw [List.length_append, List.length_singleton] at e2; subst e2; have hb := below_new w (oE a); refine ⟨a', c', w', hr, g1, ⟨g2.os.trans hb.os, g2.tape.trans hb.tape, g2.output.trans hb.output, Nat.le_trans hb.size g2.size, fun k hk => (g2.block k (Nat.lt_of_lt_of_le hk (Nat.le_trans hB hb.size)) (fun e => ?_)).trans (hb.block k (Nat.lt_of_lt_of_le hk hB))⟩⟩
  have := (h.lt k e.symm).1; omega
theorem putE_tail {w2 w3 : World} {a3 : Option Addr} {n3 c3 g ec i : Nat} {x : EdgeV} {es : List EdgeV} (g1 : GRow w2.heap.size w3 (.slice a3 n3 c3) (es.take i ++ [x])) (g2 : Below w2.heap.size w2 w3) (hR : GRow 0 w3 (.slice (some ⟨g, 0, none⟩) es.length ec) es) (hi : i < es.length) (hl : es.length ≤ 100000) :
    ∃ a4 n4 c4 w4, (∀ ty, (Builtin.append_ #[26, 26] ty #[.slice a3 n3 c3, .slice (some ⟨g, i * 4, none⟩) (es.length - i) (ec - i)]).run Tryz.prog w3 = .ok (.slice a4 n4 c4) w4) ∧ GRow w2.heap.size w4 (.slice a4 n4 c4) (es.take i ++ [x] ++ es.drop i) ∧ Below w2.heap.size w2 w4 := by
  have hlen : (es.take i ++ [x]).length + es.length ≤ 1000000 := by rw [List.length_append, List.length_take, List.length_singleton]; omega
  obtain ⟨v4, w4, hr4, g4, gg⟩ := run_appGS (i := i) (m := es.length - i) g2.size g1 hR (by omega) hlen (ec - i)
  obtain ⟨a4, n4, c4, e4⟩ := grow_shape g4; subst e4; have et : (es.drop i).take (es.length - i) = es.drop i := List.take_of_length_le (by rw [List.length_drop]; omega)
  rw [et] at g4; refine ⟨a4, n4, c4, w4, hr4, g4, g2.trans ⟨gg.os, gg.tape, gg.output, gg.size, fun k hk => gg.block k (Nat.lt_of_lt_of_le hk g2.size) (fun e => ?_)⟩⟩
  have := (g1.lt k e.symm).1; omega
theorem putE_none {w2 w3 : World} {a3 : Option Addr} {n3 c3 i : Nat} {x : EdgeV} {es : List EdgeV} (g1 : GRow w2.heap.size w3 (.slice a3 n3 c3) (es.take i ++ [x])) (hi : es.length ≤ i) :
    (∀ b3 c2 ty, (Builtin.append_ #[26, 26] ty #[.slice a3 n3 c3, .slice b3 0 c2]).run Tryz.prog w3 = .ok (.slice a3 n3 c3) w3) ∧ GRow w2.heap.size w3 (.slice a3 n3 c3) (es.take i ++ [x] ++ es.drop i) := by
  refine ⟨fun b3 c2 ty => run_appG_zero w3 a3 b3 n3 c3 c2 (grow_cap g1) ty, ?_⟩
  rw [List.drop_eq_nil_of_le hi, List.append_nil]; exact g1
theorem putE_fin {w w2 w4 : World} {bb b2 : Nat} {a4 : Option Addr} {n4 c4 : Nat} {vv ev : Value} {rd wr_0 : Int} {vs : List Int} {fs : List EdgeV} (q1 : w2.heap[b2]? = some oZ) (q2 : w2.heap[bb]? = some (oG vv ev rd wr_0)) (q3 : Below bb w w2) (q4 : b2 < w2.heap.size) (hbe : bb < b2) (hV : ∀ W, Below bb w W → NRow W vv vs) (g4 : GRow w2.heap.size w4 (.slice a4 n4 c4) fs) (hB4 : Below w2.heap.size w2 w4) :
    (w4.cell? ⟨bb, 1, none⟩ = some ev ∧ w4.cell? ⟨bb, 3, none⟩ = some (.int .i64 wr_0) ∧ ∀ o, w4.frozen? ⟨bb, o, none⟩ = false) ∧
    ∀ w8, w8 = (w4.setCell ⟨bb, 1, none⟩ (.slice a4 n4 c4)).setCell ⟨bb, 3, none⟩ (.int .i64 (wr_0 + 1)) → w8.heap[b2]? = some oZ ∧ w8.heap[bb]? = some (oG vv (.slice a4 n4 c4) rd (wr_0 + 1)) ∧
      ∀ x0 x1 x2 x3, NRow (set4 w8 b2 x0 x1 x2 x3) vv vs ∧ GRow 0 (set4 w8 b2 x0 x1 x2 x3) (.slice a4 n4 c4) fs ∧ Below bb w (set4 w8 b2 x0 x1 x2 x3) ∧ ∀ b, (Value.slice a4 n4 c4).ownBlock = some b → bb ≤ b := by
  have hbx := (hB4.block bb (by omega)).trans q2
  obtain ⟨y0, y1, y2, y3, yf⟩ := cellsG hbx; refine ⟨⟨y1, y3, yf⟩, fun w8 e8 => ?_⟩
  have e1 : (w4.setCell ⟨bb, 1, none⟩ (.slice a4 n4 c4)).heap[bb]? = some (oG vv (.slice a4 n4 c4) rd wr_0) := by rw [heap_setCell_same _ _ _ _ _ _ hbx]; rfl
  have e2 : w8.heap[bb]? = some (oG vv (.slice a4 n4 c4) rd (wr_0 + 1)) := by rw [e8, heap_setCell_same _ _ _ _ _ _ e1]; rfl
  have oth : ∀ b, b ≠ bb → w8.heap[b]? = w4.heap[b]? := fun b hb => by rw [e8]; exact (heap_setCell_other _ _ _ _ hb).trans (heap_setCell_other _ _ _ _ hb)
  have hB8 : Below bb w w8 := by
    rw [e8]; exact ((q3.trans (hB4.mono (by omega))).setCell (p := ⟨bb, 1, none⟩) (Nat.le_refl _) _).setCell (p := ⟨bb, 3, none⟩) (Nat.le_refl _) _
  refine ⟨(oth b2 (by omega)).trans ((hB4.block b2 q4).trans q1), e2, fun x0 x1 x2 x3 => ?_⟩
  have hBw := set4_below hB8 (by omega : bb ≤ b2) x0 x1 x2 x3
  refine ⟨hV _ hBw, ?_, hBw, fun b hb => by have := (g4.lt b hb).1; omega⟩
  have g8 : GRow w2.heap.size (set4 w8 b2 x0 x1 x2 x3) (.slice a4 n4 c4) fs := grow_kept g4 (fun b hb => by
    have := (g4.lt b hb).1; exact (set4_other (by omega) _ _ _ _).trans (oth b (by omega)))
  refine ⟨g8.1, ?_⟩; rcases g8.2 with h | ⟨g, cap, cur, e, -, rest⟩
  · exact .inl h
  · exact .inr ⟨g, cap, cur, e, Nat.zero_le _, rest⟩
def Puts (es : List EdgeV) (e : Int) (i : Nat) : Prop := i ≤ es.length ∧ (∀ (j : Nat) (a : EdgeV), j < i → es[j]? = some a → a.1 < e) ∧ ∀ a : EdgeV, es[i]? = some a → ¬ a.1 < e
def AnsPut (w : World) (vv0 ev0 : Value) (vs : List Int) (es : List EdgeV) (x : EdgeV) (n rd wr : Int) (e : Ending) (w' : World) : Prop :=
  ∃ i : Nat, Puts es x.1 i ∧ AnsG w vv0 ev0 vs (es.take i ++ [(x.1, x.2.1, x.2.2.1, n)] ++ es.drop i) rd (wr + 1) 0 e w'
def AnsAdd (w : World) (vv0 ev0 : Value) (vs : List Int) (es : List EdgeV) (u v b rd wr : Int) (e : Ending) (w' : World) : Prop :=
  ∃ j i : Nat, (j < 1024 ∧ (∀ k : Nat, k < j → HasNo es ((k : Int) + 1)) ∧ ¬ HasNo es ((j : Int) + 1)) ∧ Puts es ((j : Int) + 1) i ∧ ∃ vv ev, e = .returned (.tuple #[.agg #[vv, ev, .int .i64 rd, .int .i64 (wr + 1)], .int .i64 ((j : Int) + 1), .int .i64 0]) ∧ NRow w' vv vs ∧ GRow 0 w' ev (es.take i ++ [((j : Int) + 1, u, v, b)] ++ es.drop i) ∧ Below w.heap.size w w' ∧ Apt w vv0 vv ∧ Apt w ev0 ev
end

end Go.Proofs.YtagibmgbjhemkaaGreat
