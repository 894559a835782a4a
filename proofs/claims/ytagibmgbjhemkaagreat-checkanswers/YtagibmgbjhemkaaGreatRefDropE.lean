/- The reference's DropEdge. -/
import Derived.Test.YtagibmgbjhemkaaGreatRefDropM
namespace Go.Proofs.YtagibmgbjhemkaaGreat
open Go.RowKit Go.Maps

theorem nrow_drew {w : World} {v : Value} {ks : List Int} (h : NRow w v ks) : NRow w.drew v ks := nrow_kept h (fun _ _ => rfl)
theorem grow_drew {B : Nat} {w : World} {v : Value} {gs : List EdgeV} (h : GRow B w v gs) : GRow B w.drew v gs := grow_kept h (fun _ _ => rfl)

set_option maxHeartbeats 2000000 in
set_option maxRecDepth 100000 in
theorem refDropE {w : World} {vv ev : Value} {rd wr_0 : Int} {vs : List Int} {es : List EdgeV} (v : Int) (h : NRow w vv vs) (hE : GRow 0 w ev es) (hl : es.length ≤ 400000) (hr0 : 0 ≤ wr_0) (hr1 : wr_0 ≤ 1000000000) {x : EdgeV} (hx : ∃ i : Nat, es[i]? = some x) (hxv : x.1 = v) (hone : ∀ (i j : Nat) (a b : EdgeV), es[i]? = some a → es[j]? = some b → a.1 = b.1 → a = b) :
    Calls Tryz.prog 70 #[.agg #[vv, ev, .int .i64 rd, .int .i64 wr_0], .int .i64 v] w fun e w' => Hid (∃ i : Nat, es[i]? = some x ∧ AnsGE w vv ev vs (es.take i ++ es.drop (i + 1)) rd (wr_0 + 1) x 0 e w') := by
  obtain ⟨t1, t2, t3, t4, t5⟩ := three_boxes w (oG vv ev rd wr_0)
  obtain ⟨c0, c1, c2, c3, cf⟩ := cellsG t1
  have HF : Hid (∀ W, Below w.heap.size w W → NRow W vv vs ∧ GRow 0 W ev es) := fun W hW => ⟨nrow_below h hW, grow_below hE hW⟩
  have CH : Hid (Calls Tryz.prog 38 #[.agg #[vv, ev, .int .i64 rd, .int .i64 wr_0], .int .i64 v] (((w.alloc (oG vv ev rd wr_0)).alloc oZ).alloc o34) fun e w2 => ∃ (i : Nat) (g : Nat) (c : Nat), e = .returned (.int .i64 (i : Int)) ∧ (ev = .slice (some ⟨g, 0, none⟩) es.length c ∧ i < es.length ∧ es[i]? = some x ∧ g < w.heap.size ∧ w2.cell? ⟨g, i * 4, none⟩ = some (.int .i64 x.1) ∧ w2.cell? ⟨g, i * 4 + 1, none⟩ = some (.int .i64 x.2.1) ∧ w2.cell? ⟨g, i * 4 + 2, none⟩ = some (.int .i64 x.2.2.1) ∧ w2.cell? ⟨g, i * 4 + 3, none⟩ = some (.int .u32 x.2.2.2)) ∧ Hid (w2.heap[w.heap.size + 1]? = some oZ ∧ w2.heap[w.heap.size + 2]? = some o34 ∧ w2.heap[w.heap.size]? = some (oG vv ev rd wr_0) ∧ Below w.heap.size w w2 ∧ w.heap.size + 3 ≤ w2.heap.size)) := by
    refine (refAt v (grow_below hE t4) (by omega)).mono ?_
    rintro e w2 ⟨r, rfl, g⟩
    obtain ⟨g1, g2⟩ := unhide g
    obtain ⟨i0, hi0⟩ := hx
    obtain ⟨i, a, rfl, k1, k2, -⟩ : ∃ (i : Nat) (a : EdgeV), r = (i : Int) ∧ es[i]? = some a ∧ a.1 = v ∧ ∀ (j : Nat) (b : EdgeV), j < i → es[j]? = some b → b.1 ≠ v := by
      rcases g1 with h | ⟨-, h⟩
      · exact h
      · exact absurd hxv (h i0 x hi0)
    have hax : a = x := hone i i0 a x k1 hi0 (k2.trans hxv.symm)
    subst hax
    have hil := (List.getElem?_eq_some_iff.1 k1).1
    have hEw := grow_below (grow_below hE t4) g2
    obtain ⟨g, c, eg, hc⟩ := grow_at hEw (by omega)
    have hgw : g < w.heap.size := (hE.lt g (by rw [eg]; rfl)).2
    obtain ⟨y0, y1, y2, y3⟩ := hc i a k1
    have gs := g2.size
    exact ⟨i, g, c, rfl, ⟨eg, hil, k1, hgw, y0, y1, y2, y3⟩, (g2.block _ (by omega)).trans t2, (g2.block _ (by omega)).trans t3, (g2.block _ (by omega)).trans t1, t4.trans (g2.mono (by omega)), by omega⟩
  obtain ⟨va, vc, hvv, -⟩ := brow_shape h
  obtain ⟨vn, hvv'⟩ : ∃ vn, vv = .slice va vn vc := ⟨_, hvv⟩
  obtain ⟨ea, en, ec, hev⟩ := grow_shape hE
  have hwr : IntKind.i64.wrap (wr_0 + 1) = wr_0 + 1 := by rw [IntKind.wrap_i64]; omega
  have HLE : Hid (es.length ≤ 400000) := hl
  clear t1 t2 t3 t4 t5 h hE hvv hl hx hxv hone hr0 hr1
  subst hvv' hev
  go_enter Tryz.func70, Tryz.ntmps70
  go_upto_region 1 with fail
  change Code.wp _ _ _ _ (((w.alloc (oG (.slice va vn vc) (.slice ea en ec) rd wr_0)).alloc oZ).alloc o34)
  generalize ((w.alloc (oG (.slice va vn vc) (.slice ea en ec) rd wr_0)).alloc oZ).alloc o34 = wb at *
  have hne1 : ¬ w.heap.size = w.heap.size + 1 := by omega
  generalize hb2 : w.heap.size + 2 = b2 at *
  generalize hb1 : w.heap.size + 1 = b1 at *
  generalize hbb : w.heap.size = bb at *
  go_wp2_with fail
  refine (unhide CH).mono ?_
  rintro e w2 ⟨i, g, c, rfl, ⟨eg, hil, hix, hgw, y0, y1, y2, y3⟩, h2⟩
  injection eg with eg1 eg2 eg3
  subst eg1 eg2 eg3
  obtain ⟨k1, k2, k3, k4, k5⟩ := unhide h2
  clear c0 c1 c2 c3 cf CH h2
  obtain ⟨c0, c1, c2, c3, cf⟩ := cellsG k3
  have HT1 := hide k1
  have HT2 := hide k2
  have HT3 := hide k3
  have HB := hide k4
  have n1 : ¬ bb = b1 := by omega
  have n2 : ¬ b1 = bb := by omega
  have n3 : ¬ bb = b2 := by omega
  have n4 : ¬ b2 = bb := by omega
  have n5 : ¬ b1 = b2 := by omega
  have n6 : ¬ b2 = b1 := by omega
  have n7 : ¬ g = bb := by omega
  have n8 : ¬ bb = g := by omega
  have n9 : ¬ g = b1 := by omega
  have n10 : ¬ g = b2 := by omega
  have hz : (i : Int) < (es.length : Int) := by omega
  have hi0 : ¬ (i : Int) < 0 := by omega
  have HIX := hide hix
  have hR2 := (unhide HF w2 k4).2
  have hcn := grow_cap hR2
  obtain ⟨a5, n5', c5, w5, hr5, hB5, a6, n6', c6, w6, hr6, g6, hB6⟩ := dropE_mem (x := x) (by omega : g < w2.heap.size) hR2 hil (unhide HLE)
  have HAP : Hid (∀ b, (Value.slice a6 n6' c6).ownBlock = some b → bb ≤ b) := fun b hb => by have := (g6.lt b hb).1; omega
  have HFIN := hide (dropE_fin (rd := rd) (wr_0 := wr_0) (by omega : bb < b1) (by omega : b1 < b2) (by omega : b2 < w2.heap.size) k1 k2 k3 k4 (fun W hW => (unhide HF W hW).1) g6 hB6 _ rfl)
  have s1 : ¬ w2.heap.size = b1 := by omega
  have s2 : ¬ w2.heap.size = b2 := by omega
  have s3 : ¬ w2.heap.size = bb := by omega
  have s4 : ¬ b1 = w2.heap.size := by omega
  have s5 : ¬ b2 = w2.heap.size := by omega
  have hs1 : (w2.alloc (oX x)).heap.size = w2.heap.size + 1 := by simp
  have o3 : (w2.alloc (oX x)).heap[bb]? = some (oG (.slice va vn vc) (.slice (some ⟨g, 0, none⟩) es.length ec) rd wr_0) := (heap_alloc_old _ _ (by omega)).trans k3
  have o4 : ((w2.alloc (oX x)).alloc (.cells #[] 64)).heap[bb]? = some (oG (.slice va vn vc) (.slice (some ⟨g, 0, none⟩) es.length ec) rd wr_0) := (heap_alloc_old _ _ (by omega)).trans o3
  have o5 := (hB5.block bb (by omega)).trans o3
  have o6 := (hB6.block bb (by omega)).trans o3
  have HO4 := hide o4
  have HO5 := hide o5
  have HO6 := hide o6
  simp only [← hs1] at hr5
  have HR5 := hide hr5
  have HR6 := hide hr6
  clear k1 k2 k3 k4 k5 hix hR2 o3 o4 o5 o6 hr5 hr6 g6 hB5 hB6 hs1
  go_upto_region 5 with fail
  change Code.wp _ _ _ _ (w2.alloc (oX x))
  generalize w2.heap.size = b3 at *
  generalize w2.alloc (oX x) = w3 at *
  have l1 := (cellsG (unhide HO4)).2.1
  have hic : ((i : Int) ≤ (ec : Int)) := by omega
  clear y0 y1 y2 y3 c0 c1 c2 c3 cf
  have hwi : IntKind.i64.wrap ((i : Int) + 1) = ((i + 1 : Nat) : Int) := by rw [IntKind.wrap_i64]; have := unhide HLE; omega
  go_upto_region 6 with (at_builtin; refine Lib.wpList_append_run _ rfl _ _ 26 26 rfl _ _ rfl rfl _ _ (unhide HR5 _) ?_)
  have m1 := (cellsG (unhide HO5)).2.1
  obtain ⟨z0, z1, z2, z3, zf⟩ := cellsG (unhide HO6)
  have hin : ((i + 1 : Nat) : Int) ≤ (es.length : Int) := by omega
  have hin2 : i + 1 ≤ es.length := by omega
  have hin3 : (i : Int) + 1 ≤ (es.length : Int) := by omega
  have hin4 : ¬ (i : Int) + 1 < 0 := by omega
  clear HR5
  by_cases hcz : ec = i + 1
  · have HE1 : Hid (es.length = i + 1) := by show es.length = _; omega
    clear hin2
    go_upto_region 7 with (at_builtin; refine Lib.wpList_append_run _ rfl _ _ 26 26 rfl _ _ rfl rfl _ _ (unhide HR6 _ _ _ (.inr (unhide HE1))) ?_)
    go_upto_region 8 with fail
    obtain ⟨q1, q2, q3, q4, -, q6⟩ := unhide HFIN
    have HQ6 := hide q6
    clear q6 HFIN
    generalize (w6.setCell ⟨bb, 1, none⟩ (.slice a6 n6' c6)).setCell ⟨bb, 3, none⟩ (.int .i64 (wr_0 + 1)) = w8 at *
    clear z0 z1 z2 z3 zf m1 HO4 HO5 HO6 HB HT1 HT2 HT3 l1
    have HT1 := hide q2
    have HT2 := hide q3
    obtain ⟨c0, c1, c2, c3, cf⟩ := cellsG q1
    obtain ⟨d0, d1, d2, d3, df⟩ := cellsG (vv := .slice none 0 0) (ev := .slice none 0 0) (rd := 0) (wr := 0) q2
    obtain ⟨x0, x1, x2, x3, xf⟩ := cells34 q3
    obtain ⟨y0, y1, y2, y3, yf⟩ := cells34 q4
    clear q1 q2 q3 q4
    go_region
    all_goals
      go_wp2_with fail
      change bodyPost _ _ _ _ _ (set4 (set4 w8 b1 (.slice va vn vc) (.slice a6 n6' c6) (.int .i64 rd) (.int .i64 (wr_0 + 1))) b2 (.int .i64 x.1) (.int .i64 x.2.1) (.int .i64 x.2.2.1) (.int .u32 x.2.2.2)).drew
      obtain ⟨r1, r2, r3⟩ := unhide HQ6 (.slice va vn vc) (.slice a6 n6' c6) (.int .i64 rd) (.int .i64 (wr_0 + 1)) (.int .i64 x.1) (.int .i64 x.2.1) (.int .i64 x.2.2.1) (.int .u32 x.2.2.2)
      have e1 : ((set4 (set4 w8 b1 (.slice va vn vc) (.slice a6 n6' c6) (.int .i64 rd) (.int .i64 (wr_0 + 1))) b2 (.int .i64 x.1) (.int .i64 x.2.1) (.int .i64 x.2.2.1) (.int .u32 x.2.2.2)).drew).heap[b1]? = some (oG (.slice va vn vc) (.slice a6 n6' c6) rd (wr_0 + 1)) := drewAt ((set4_other n5 _ _ _ _).trans (set4G_at (unhide HT1) _ _ _ _))
      have e2 : ((set4 (set4 w8 b1 (.slice va vn vc) (.slice a6 n6' c6) (.int .i64 rd) (.int .i64 (wr_0 + 1))) b2 (.int .i64 x.1) (.int .i64 x.2.1) (.int .i64 x.2.2.1) (.int .u32 x.2.2.2)).drew).heap[b2]? = some (.cells #[.int .i64 x.1, .int .i64 x.2.1, .int .i64 x.2.2.1, .int .u32 x.2.2.2] 64 (0, 0)) := drewAt (set4_at ((set4_other n6 _ _ _ _).trans (unhide HT2)) _ _ _ _)
      have HA : Hid (Below bb w (set4 (set4 w8 b1 (.slice va vn vc) (.slice a6 n6' c6) (.int .i64 rd) (.int .i64 (wr_0 + 1))) b2 (.int .i64 x.1) (.int .i64 x.2.1) (.int .i64 x.2.2.1) (.int .u32 x.2.2.2)).drew ∧ NRow (set4 (set4 w8 b1 (.slice va vn vc) (.slice a6 n6' c6) (.int .i64 rd) (.int .i64 (wr_0 + 1))) b2 (.int .i64 x.1) (.int .i64 x.2.1) (.int .i64 x.2.2.1) (.int .u32 x.2.2.2)).drew (.slice va vn vc) vs ∧ GRow 0 (set4 (set4 w8 b1 (.slice va vn vc) (.slice a6 n6' c6) (.int .i64 rd) (.int .i64 (wr_0 + 1))) b2 (.int .i64 x.1) (.int .i64 x.2.1) (.int .i64 x.2.2.1) (.int .u32 x.2.2.2)).drew (.slice a6 n6' c6) (es.take i ++ es.drop (i + 1))) := ⟨r1.drew, nrow_drew r2, grow_drew r3⟩
      clear r1 r2 r3 HQ6
      generalize (set4 (set4 w8 b1 (.slice va vn vc) (.slice a6 n6' c6) (.int .i64 rd) (.int .i64 (wr_0 + 1))) b2 (.int .i64 x.1) (.int .i64 x.2.1) (.int .i64 x.2.2.1) (.int .u32 x.2.2.2)).drew = w9 at *
      clear HT1 HT2 c0 c1 c2 c3 cf d0 d1 d2 d3 df x0 x1 x2 x3 xf y0 y1 y2 y3 yf
      refine bodyPost_ret (results_cell_cell_tmp rfl _ _ _ ⟨b1, 0, none⟩ ⟨b2, 0, none⟩ _ _ rfl rfl (loadG _ _ _ _ _ _ e1) (load34 _ _ _ _ _ _ e2)) rfl ?_
      exact ⟨i, unhide HIX, _, _, rfl, (unhide HA).2.1, (unhide HA).2.2, by rw [hbb]; exact (unhide HA).1, Apt.refl _ _, Apt.new (unhide HAP) (by omega)⟩
  · go_upto_region 7 with (at_builtin; refine Lib.wpList_append_run _ rfl _ _ 26 26 rfl _ _ rfl rfl _ _ (unhide HR6 _ _ _ (.inl ⟨rfl, rfl⟩)) ?_)
    go_upto_region 8 with fail
    obtain ⟨q1, q2, q3, q4, -, q6⟩ := unhide HFIN
    have HQ6 := hide q6
    clear q6 HFIN
    generalize (w6.setCell ⟨bb, 1, none⟩ (.slice a6 n6' c6)).setCell ⟨bb, 3, none⟩ (.int .i64 (wr_0 + 1)) = w8 at *
    clear z0 z1 z2 z3 zf m1 HO4 HO5 HO6 HB HT1 HT2 HT3 l1
    have HT1 := hide q2
    have HT2 := hide q3
    obtain ⟨c0, c1, c2, c3, cf⟩ := cellsG q1
    obtain ⟨d0, d1, d2, d3, df⟩ := cellsG (vv := .slice none 0 0) (ev := .slice none 0 0) (rd := 0) (wr := 0) q2
    obtain ⟨x0, x1, x2, x3, xf⟩ := cells34 q3
    obtain ⟨y0, y1, y2, y3, yf⟩ := cells34 q4
    clear q1 q2 q3 q4
    go_region
    all_goals
      go_wp2_with fail
      change bodyPost _ _ _ _ _ (set4 (set4 w8 b1 (.slice va vn vc) (.slice a6 n6' c6) (.int .i64 rd) (.int .i64 (wr_0 + 1))) b2 (.int .i64 x.1) (.int .i64 x.2.1) (.int .i64 x.2.2.1) (.int .u32 x.2.2.2)).drew
      obtain ⟨r1, r2, r3⟩ := unhide HQ6 (.slice va vn vc) (.slice a6 n6' c6) (.int .i64 rd) (.int .i64 (wr_0 + 1)) (.int .i64 x.1) (.int .i64 x.2.1) (.int .i64 x.2.2.1) (.int .u32 x.2.2.2)
      have e1 : ((set4 (set4 w8 b1 (.slice va vn vc) (.slice a6 n6' c6) (.int .i64 rd) (.int .i64 (wr_0 + 1))) b2 (.int .i64 x.1) (.int .i64 x.2.1) (.int .i64 x.2.2.1) (.int .u32 x.2.2.2)).drew).heap[b1]? = some (oG (.slice va vn vc) (.slice a6 n6' c6) rd (wr_0 + 1)) := drewAt ((set4_other n5 _ _ _ _).trans (set4G_at (unhide HT1) _ _ _ _))
      have e2 : ((set4 (set4 w8 b1 (.slice va vn vc) (.slice a6 n6' c6) (.int .i64 rd) (.int .i64 (wr_0 + 1))) b2 (.int .i64 x.1) (.int .i64 x.2.1) (.int .i64 x.2.2.1) (.int .u32 x.2.2.2)).drew).heap[b2]? = some (.cells #[.int .i64 x.1, .int .i64 x.2.1, .int .i64 x.2.2.1, .int .u32 x.2.2.2] 64 (0, 0)) := drewAt (set4_at ((set4_other n6 _ _ _ _).trans (unhide HT2)) _ _ _ _)
      have HA : Hid (Below bb w (set4 (set4 w8 b1 (.slice va vn vc) (.slice a6 n6' c6) (.int .i64 rd) (.int .i64 (wr_0 + 1))) b2 (.int .i64 x.1) (.int .i64 x.2.1) (.int .i64 x.2.2.1) (.int .u32 x.2.2.2)).drew ∧ NRow (set4 (set4 w8 b1 (.slice va vn vc) (.slice a6 n6' c6) (.int .i64 rd) (.int .i64 (wr_0 + 1))) b2 (.int .i64 x.1) (.int .i64 x.2.1) (.int .i64 x.2.2.1) (.int .u32 x.2.2.2)).drew (.slice va vn vc) vs ∧ GRow 0 (set4 (set4 w8 b1 (.slice va vn vc) (.slice a6 n6' c6) (.int .i64 rd) (.int .i64 (wr_0 + 1))) b2 (.int .i64 x.1) (.int .i64 x.2.1) (.int .i64 x.2.2.1) (.int .u32 x.2.2.2)).drew (.slice a6 n6' c6) (es.take i ++ es.drop (i + 1))) := ⟨r1.drew, nrow_drew r2, grow_drew r3⟩
      clear r1 r2 r3 HQ6
      generalize (set4 (set4 w8 b1 (.slice va vn vc) (.slice a6 n6' c6) (.int .i64 rd) (.int .i64 (wr_0 + 1))) b2 (.int .i64 x.1) (.int .i64 x.2.1) (.int .i64 x.2.2.1) (.int .u32 x.2.2.2)).drew = w9 at *
      clear HT1 HT2 c0 c1 c2 c3 cf d0 d1 d2 d3 df x0 x1 x2 x3 xf y0 y1 y2 y3 yf
      refine bodyPost_ret (results_cell_cell_tmp rfl _ _ _ ⟨b1, 0, none⟩ ⟨b2, 0, none⟩ _ _ rfl rfl (loadG _ _ _ _ _ _ e1) (load34 _ _ _ _ _ _ e2)) rfl ?_
      exact ⟨i, unhide HIX, _, _, rfl, (unhide HA).2.1, (unhide HA).2.2, by rw [hbb]; exact (unhide HA).1, Apt.refl _ _, Apt.new (unhide HAP) (by omega)⟩
end Go.Proofs.YtagibmgbjhemkaaGreat
