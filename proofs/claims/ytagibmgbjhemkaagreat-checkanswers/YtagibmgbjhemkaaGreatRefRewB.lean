/- The reference's Reweigh where the word is refused. -/
import Derived.Test.YtagibmgbjhemkaaGreatRefRewM
namespace Go.Proofs.YtagibmgbjhemkaaGreat
open Go.RowKit Go.Maps

set_option maxHeartbeats 2000000 in
set_option maxRecDepth 100000 in
theorem refReweighBad {w : World} {vv ev : Value} {rd wr_0 : Int} {vs : List Int} {es : List EdgeV} (v n : Int) (hk : kept n = none) (h : NRow w vv vs) (hE : GRow 0 w ev es) (hl : es.length ≤ 400000) (hr0 : 0 ≤ wr_0) (hr1 : wr_0 ≤ 1000000000) {x : EdgeV} (hx : ∃ i : Nat, es[i]? = some x) (hxv : x.1 = v) (hone : ∀ (i j : Nat) (a b : EdgeV), es[i]? = some a → es[j]? = some b → a.1 = b.1 → a = b) :
    Calls Tryz.prog 72 #[.agg #[vv, ev, .int .i64 rd, .int .i64 wr_0], .int .i64 v, .int .u32 n] w fun e w' => Hid (AnsGU w vv ev vs es rd wr_0 0 7 e w') := by
  obtain ⟨t1, t2, t4, t5⟩ := two_boxes w (oG vv ev rd wr_0)
  obtain ⟨c0, c1, c2, c3, cf⟩ := cellsG t1
  have HF : Hid (∀ W, Below w.heap.size w W → NRow W vv vs ∧ GRow 0 W ev es) := fun W hW => ⟨nrow_below h hW, grow_below hE hW⟩
  have CH : Hid (Calls Tryz.prog 38 #[.agg #[vv, ev, .int .i64 rd, .int .i64 wr_0], .int .i64 v] ((w.alloc (oG vv ev rd wr_0)).alloc oZ) fun e w2 => ∃ (i : Nat) (g : Nat) (c : Nat), e = .returned (.int .i64 (i : Int)) ∧ (ev = .slice (some ⟨g, 0, none⟩) es.length c ∧ i < es.length ∧ es[i]? = some x ∧ g < w.heap.size ∧ w2.cell? ⟨g, i * 4 + 3, none⟩ = some (.int .u32 x.2.2.2)) ∧ Hid (w2.heap[w.heap.size + 1]? = some oZ ∧ w2.heap[w.heap.size]? = some (oG vv ev rd wr_0) ∧ Below w.heap.size w w2 ∧ w.heap.size + 2 ≤ w2.heap.size)) := by
    refine (refAt v (grow_below hE t4) (by omega)).mono ?_
    rintro e w2 ⟨r, rfl, g⟩
    obtain ⟨g1, g2⟩ := unhide g
    obtain ⟨i0, hi0⟩ := hx
    obtain ⟨i, a, rfl, k1, k2, -⟩ : ∃ (i : Nat) (a : EdgeV), r = (i : Int) ∧ es[i]? = some a ∧ a.1 = v ∧ ∀ (j : Nat) (b : EdgeV), j < i → es[j]? = some b → b.1 ≠ v := by
      rcases g1 with h | ⟨-, h⟩
      · exact h
      · exact absurd hxv (h i0 x hi0)
    have hax : a = x := hone i i0 a x k1 hi0 (k2.trans hxv.symm)
    subst hax
    have hil := (List.getElem?_eq_some_iff.1 k1).1
    have hEw := grow_below (grow_below hE t4) g2
    obtain ⟨g, c, eg, hc⟩ := grow_at hEw (by omega)
    have hgw : g < w.heap.size := (hE.lt g (by rw [eg]; rfl)).2
    obtain ⟨y0, y1, y2, y3⟩ := hc i a k1
    have gs := g2.size
    exact ⟨i, g, c, rfl, ⟨eg, hil, k1, hgw, y3⟩, (g2.block _ (by omega)).trans t2, (g2.block _ (by omega)).trans t1, t4.trans (g2.mono (by omega)), by omega⟩
  obtain ⟨va, vc, hvv, -⟩ := brow_shape h
  obtain ⟨vn, hvv'⟩ : ∃ vn, vv = .slice va vn vc := ⟨_, hvv⟩
  obtain ⟨ea, en, ec, hev⟩ := grow_shape hE
  have hwr : IntKind.i64.wrap (wr_0 + 1) = wr_0 + 1 := by rw [IntKind.wrap_i64]; omega
  have HLE : Hid (es.length ≤ 400000) := hl
  have CA : Hid (∀ W, Calls Tryz.prog 99 #[.int .u32 n] W fun e w' => e = .returned (ansK (kept n)) ∧ w' = W) := fun W => refAdmit n W
  rw [hk] at CA
  unfold ansK at CA
  clear t1 t2 t4 t5 h hE hvv hl hx hxv hone hr0 hr1 hk
  subst hvv' hev
  go_enter Tryz.func72, Tryz.ntmps72
  go_upto_region 1 with fail
  change Code.wp _ _ _ _ ((w.alloc (oG (.slice va vn vc) (.slice ea en ec) rd wr_0)).alloc oZ)
  generalize (w.alloc (oG (.slice va vn vc) (.slice ea en ec) rd wr_0)).alloc oZ = wb at *
  generalize hb1 : w.heap.size + 1 = b1 at *
  generalize hbb : w.heap.size = bb at *
  go_wp2_with fail
  refine (unhide CH).mono ?_
  rintro e w2 ⟨i, g, c, rfl, ⟨eg, hil, hix, hgw, y3⟩, h2⟩
  injection eg with eg1 eg2 eg3
  subst eg1 eg2 eg3
  obtain ⟨k1, k3, k4, k5⟩ := unhide h2
  clear c0 c1 c2 c3 cf CH h2
  obtain ⟨c0, c1, c2, c3, cf⟩ := cellsG k3
  have n1 : ¬ bb = b1 := by omega
  have n2 : ¬ b1 = bb := by omega
  have n7 : ¬ g = bb := by omega
  have n8 : ¬ bb = g := by omega
  have n9 : ¬ g = b1 := by omega
  have hz : (i : Int) < (es.length : Int) := by omega
  have hi0 : ¬ (i : Int) < 0 := by omega
  obtain ⟨d0, d1, d2, d3, df⟩ := cellsG (vv := .slice none 0 0) (ev := .slice none 0 0) (rd := 0) (wr := 0) k1
  have HT1 := hide k1
  have HB := hide k4
  clear k1 k3 k4 k5 hix
  go_wp2_with fail
  refine (unhide CA _).mono ?_
  rintro e w' ⟨rfl, rfl⟩
  go_wp2_with fail
  (try simp only [Exit.inBlock, Exit.then])
  change bodyPost _ _ _ _ _ (set4 w' b1 _ _ _ _)
  refine bodyPost_ret (results_cell_tmp_tmp rfl _ _ _ ⟨b1, 0, none⟩ _ rfl (loadG _ _ _ _ _ _ (set4G_at (unhide HT1) _ _ _ _))) rfl ?_
  have hB := set4_below (unhide HB) (by omega : bb ≤ b1) (.slice va vn vc) (.slice (some ⟨g, 0, none⟩) es.length ec) (.int .i64 rd) (.int .i64 wr_0)
  exact ⟨_, _, rfl, (unhide HF _ hB).1, (unhide HF _ hB).2, by first | exact hB | (rw [hbb]; exact hB), Apt.refl _ _, Apt.refl _ _⟩
end Go.Proofs.YtagibmgbjhemkaaGreat
