/- The reference's AddEdge where it does it. -/
import Derived.Test.YtagibmgbjhemkaaGreatRefPutM
namespace Go.Proofs.YtagibmgbjhemkaaGreat

section
open Go.RowKit Go.Maps
set_option maxHeartbeats 4000000 in
set_option maxRecDepth 100000 in
theorem refPutE {w : World} {vv ev : Value} {rd wr_0 : Int} {vs : List Int} {es : List EdgeV} (x : EdgeV) (h : NRow w vv vs) (hE : GRow 0 w ev es) (hlv : vs.length ≤ 1000000) (hl : es.length ≤ 100000) (hr0 : 0 ≤ wr_0) (hr1 : wr_0 ≤ 1000000000) (hx1 : ¬ x.1 < 1) (hx2 : ¬ 1024 < x.1) (hu : x.2.1 ∈ vs) (hv : x.2.2.1 ∈ vs) {n : Int} (hk : kept x.2.2.2 = some n) (ht : ¬ HasNo es x.1) :
    Calls Tryz.prog 69 #[.agg #[vv, ev, .int .i64 rd, .int .i64 wr_0], .agg #[.int .i64 x.1, .int .i64 x.2.1, .int .i64 x.2.2.1, .int .u32 x.2.2.2]] w fun e w' => Hid (AnsPut w vv ev vs es x n rd wr_0 e w') := by
  have HF : Hid (∀ W, Below w.heap.size w W → NRow W vv vs ∧ GRow 0 W ev es) := fun W hW => ⟨nrow_below h hW, grow_below hE hW⟩
  have CH : Hid (∀ W, PFit w vv ev rd wr_0 x W → ∀ k, Calls Tryz.prog 19 #[.agg #[vv, ev, .int .i64 rd, .int .i64 wr_0], .int .i64 k] W fun e w' => e = .returned (.bool (decide (k ∈ vs))) ∧ Hid (PFit w vv ev rd wr_0 x w')) := fun W hW k => by
    refine (refHas k (nrow_below h hW.2.2.2.1) hlv).mono ?_
    rintro e w' ⟨rfl, g⟩
    exact ⟨rfl, hW.step g⟩
  have CT : Hid (∀ W, PFit w vv ev rd wr_0 x W → Calls Tryz.prog 38 #[.agg #[vv, ev, .int .i64 rd, .int .i64 wr_0], .int .i64 x.1] W fun e w' => e = .returned (.int .i64 (-1)) ∧ Hid (PFit w vv ev rd wr_0 x w')) := fun W hW => by
    refine (refAt x.1 (grow_below hE hW.2.2.2.1) (by omega)).mono ?_
    rintro e w' ⟨r, rfl, g⟩
    obtain ⟨g1, g2⟩ := unhide g; rcases g1 with ⟨i, a, rfl, k1, k2, -⟩ | ⟨rfl, h1⟩
    · exact absurd ⟨i, a, k1, k2⟩ ht
    · exact ⟨rfl, hW.step g2⟩
  have CA : Hid (∀ n W, Calls Tryz.prog 99 #[.int .u32 n] W fun e w' => e = .returned (ansK (kept n)) ∧ w' = W) := fun n W => refAdmit n W
  obtain ⟨va, vc, hvv, -⟩ := brow_shape h; obtain ⟨vn, hvv'⟩ : ∃ vn, vv = .slice va vn vc := ⟨_, hvv⟩; obtain ⟨ea, en, ec, hev⟩ := grow_shape hE; have HP := hide (pfit_new w vv ev rd wr_0 x); have hwr : IntKind.i64.wrap (wr_0 + 1) = wr_0 + 1 := by rw [IntKind.wrap_i64]; omega
  have hen : en = es.length := by
    obtain ⟨a2, c2, e⟩ := grow_len hE; rw [hev] at e; injection e
  have HEN := hide hen; have HLE : Hid (es.length ≤ 100000) := hl; have HROW : Hid (∀ W, Below w.heap.size w W → GRow 0 W (.slice ea en ec) es) := fun W hW => by rw [← hev]; exact grow_below hE hW
  clear h hE hvv hl hlv hen hr0 hr1; subst hvv' hev
  go_enter Tryz.func69, Tryz.ntmps69
  go_upto_region 1 with fail
  change Code.wp _ _ _ _ (((w.alloc (oG (.slice va vn vc) (.slice ea en ec) rd wr_0)).alloc (oX x)).alloc oZ); generalize ((w.alloc (oG (.slice va vn vc) (.slice ea en ec) rd wr_0)).alloc (oX x)).alloc oZ = wb at *; have HZ : Hid (∃ b1 b2, b1 = w.heap.size + 1 ∧ b2 = w.heap.size + 2) := ⟨_, _, rfl, rfl⟩; have n1 : ¬ w.heap.size = w.heap.size + 1 := by omega
  have n2 : ¬ w.heap.size + 1 = w.heap.size := by omega
  have n3 : ¬ w.heap.size = w.heap.size + 2 := by omega
  have n4 : ¬ w.heap.size + 2 = w.heap.size := by omega
  have n5 : ¬ w.heap.size + 1 = w.heap.size + 2 := by omega
  have n6 : ¬ w.heap.size + 2 = w.heap.size + 1 := by omega
  clear HZ; have HCwb := unhide HP; obtain ⟨c0, c1, c2, c3, cf⟩ := cellsG HCwb.1; obtain ⟨x0, x1, x2, x3, xf⟩ := cellsX HCwb.2.1; obtain ⟨d0, d1, d2, d3, df⟩ := cellsG (vv := .slice none 0 0) (ev := .slice none 0 0) (rd := 0) (wr := 0) HCwb.2.2.1; clear HCwb
  go_wp2_with fail
  refine (unhide CH _ (unhide HP) _).mono ?_
  rintro e w2 ⟨rfl, H2⟩
  rw [decide_eq_true hu]; clear c0 c1 c2 c3 cf x0 x1 x2 x3 xf d0 d1 d2 d3 df; have HCw2 := unhide H2; obtain ⟨c0, c1, c2, c3, cf⟩ := cellsG HCw2.1; obtain ⟨x0, x1, x2, x3, xf⟩ := cellsX HCw2.2.1; obtain ⟨d0, d1, d2, d3, df⟩ := cellsG (vv := .slice none 0 0) (ev := .slice none 0 0) (rd := 0) (wr := 0) HCw2.2.2.1; clear HCw2
  go_wp2_with fail
  refine (unhide CH _ (unhide H2) _).mono ?_
  rintro e w3 ⟨rfl, H3⟩
  rw [decide_eq_true hv]; clear c0 c1 c2 c3 cf x0 x1 x2 x3 xf d0 d1 d2 d3 df; have HCw3 := unhide H3; obtain ⟨c0, c1, c2, c3, cf⟩ := cellsG HCw3.1; obtain ⟨x0, x1, x2, x3, xf⟩ := cellsX HCw3.2.1; obtain ⟨d0, d1, d2, d3, df⟩ := cellsG (vv := .slice none 0 0) (ev := .slice none 0 0) (rd := 0) (wr := 0) HCw3.2.2.1; clear HCw3
  go_wp2_with fail
  refine (unhide CA _ _).mono ?_
  rintro e w4 ⟨rfl, rfl⟩
  rw [hk]; unfold ansK
  go_wp2_with fail
  refine (unhide CT _ (unhide H3)).mono ?_
  rintro e w5 ⟨rfl, H5⟩
  clear c0 c1 c2 c3 cf x0 x1 x2 x3 xf d0 d1 d2 d3 df ht; have HCw5 := unhide H5; obtain ⟨c0, c1, c2, c3, cf⟩ := cellsG HCw5.1; obtain ⟨x0, x1, x2, x3, xf⟩ := cellsX HCw5.2.1; obtain ⟨d0, d1, d2, d3, df⟩ := cellsG (vv := .slice none 0 0) (ev := .slice none 0 0) (rd := 0) (wr := 0) HCw5.2.2.1; have H6 := hide (HCw5.bits n); clear HCw5
  go_upto_region 11 with fail
  generalize w5.setCell ⟨w.heap.size + 1, 3, none⟩ (.int .u32 n) = w2 at *; clear c0 c1 c2 c3 cf x0 x1 x2 x3 xf d0 d1 d2 d3 df H5 H3 H2 HP CA CT CH; obtain ⟨b1, hb1⟩ : ∃ b1, b1 = w.heap.size + 1 := ⟨_, rfl⟩; obtain ⟨b2, hb2⟩ : ∃ b2, b2 = w.heap.size + 2 := ⟨_, rfl⟩; obtain ⟨bb, hbb⟩ : ∃ bb, bb = w.heap.size := ⟨_, rfl⟩; have HW2 : Hid (w2.heap[bb]? = some (oG (.slice va vn vc) (.slice ea en ec) rd wr_0) ∧ w2.heap[b1]? = some (oX (x.1, x.2.1, x.2.2.1, n)) ∧ w2.heap[b2]? = some oZ ∧ Below bb w w2 ∧ b2 < w2.heap.size) := by
    obtain ⟨k1, k2, k3, k4, k5⟩ := unhide H6; exact ⟨by rw [hbb]; exact k1, by rw [hb1]; exact k2, by rw [hb2]; exact k3, by rw [hbb]; exact k4, by omega⟩
  have hbe1 : bb < b1 := by omega
  have hbe2 : b1 < b2 := by omega
  rw [← hb2, ← hb1, ← hbb]; rw [← hbb] at HROW HF; have HBB := hide hbb; clear hb1 hb2 hbb; clear H6 n1 n2 n3 n4 n5 n6; have HV : Hid (∀ W, Below w2.heap.size w2 W → W.heap[bb]? = some (oG (.slice va vn vc) (.slice ea en ec) rd wr_0) ∧ W.heap[b1]? = some (oX (x.1, x.2.1, x.2.2.1, n)) ∧ W.heap[b2]? = some oZ ∧ Below bb w W) := fun W hW => by
    obtain ⟨k1, k2, k3, k4, k5⟩ := unhide HW2; exact ⟨(hW.block _ (by omega)).trans k1, (hW.block _ (by omega)).trans k2, (hW.block _ (by omega)).trans k3, k4.trans (hW.mono (by omega))⟩
  have HC : Hid (∀ i W, i < en → Below w2.heap.size w2 W → ∃ g a, ea = some ⟨g, 0, none⟩ ∧ es[i]? = some a ∧ W.cell? ⟨g, i * 4, none⟩ = some (.int .i64 a.1) ∧ W.cell? ⟨g, i * 4 + 1, none⟩ = some (.int .i64 a.2.1) ∧ W.cell? ⟨g, i * 4 + 2, none⟩ = some (.int .i64 a.2.2.1) ∧ W.cell? ⟨g, i * 4 + 3, none⟩ = some (.int .u32 a.2.2.2)) := fun i W hi hW => by
    have hR := unhide HROW W (unhide HV W hW).2.2.2; have hie : i < es.length := by have := unhide HEN; omega
    obtain ⟨g, c, e, hc⟩ := grow_at hR (by omega)
    injection e with e1 e2 e3
    exact ⟨g, _, e1, List.getElem?_eq_getElem hie, hc i _ (List.getElem?_eq_getElem hie)⟩
  go_wp2_with fail
  go_loopw [8, 9] (fun sa si wr => ∃ (i : Nat) (aa : Option Addr) (ac : Nat), si = .int .i64 i ∧ sa = .slice aa i ac ∧ i ≤ en ∧ Hid (GRow w2.heap.size wr (.slice aa i ac) (es.take i) ∧ Below w2.heap.size w2 wr ∧ ∀ (j : Nat) (a : EdgeV), j < i → es[j]? = some a → a.1 < x.1)) (fun _ si _ => en - (intOf si).toNat)
  case atStart => exact ⟨0, none, 0, rfl, rfl, by omega, ⟨rfl, .inl ⟨rfl, rfl⟩⟩, Below.refl _ _, fun j _ hj => absurd hj (Nat.not_lt_zero _)⟩
  case round =>
    obtain ⟨i, aa, ac, rfl, rfl, hi, hS0⟩ := hrel; obtain ⟨V1, V2, V3, -⟩ := unhide HV wr (unhide hS0).2.1; have c1 := (cellsG V1).2.1; have x0 := (cellsX V2).1; clear V1 V2 V3; simp only at x0; have hS : Hid (GRow w2.heap.size wr.drew (.slice aa i ac) (es.take i) ∧ Below w2.heap.size w2 wr.drew ∧ ∀ (j : Nat) (a : EdgeV), j < i → es[j]? = some a → a.1 < x.1) := ⟨grow_drew (unhide hS0).1, (unhide hS0).2.1.drew, (unhide hS0).2.2⟩
    by_cases hgo : i < en ∧ ∀ a : EdgeV, es[i]? = some a → a.1 < x.1
    · obtain ⟨hlt, hxv⟩ := hgo; obtain ⟨g, a, rfl, hx, y0, -, -, -⟩ := unhide HC i wr hlt (unhide hS0).2.1; have hax := hxv a hx; have hz : (i : Int) < (en : Int) := by omega
      go_upto_region 13 with fail
      obtain ⟨q, hq⟩ : ∃ q, q = a.1 := ⟨_, rfl⟩; rw [← hq] at y0 hax
      go_region
      all_goals
        clear y0 c1 x0 hS0; generalize wr.drew = wd at *; have c1 := (cellsG (unhide HV wd (unhide hS).2.1).1).2.1; obtain ⟨g', a', e1, e2, y0, y1, y2, y3⟩ := unhide HC i wd hlt (unhide hS).2.1; rw [hx] at e2; injection e2 with e2
        injection e1 with e1
        injection e1 with e1
        subst e1 e2; have htl : (es.take i).length = i := by have := unhide HEN; rw [List.length_take]; omega
        obtain ⟨a', c', w', hr, g1, g2⟩ := run_appGB a (unhide hS).1 (unhide hS).2.1.size (by have := unhide HLE; have := unhide HEN; omega)
        rw [htl, ← take_succ_of hx] at g1; rw [htl] at hr; have HG : Hid (GRow w2.heap.size w' (.slice a' (i + 1) c') (es.take (i + 1)) ∧ Below w2.heap.size w2 w' ∧ ∀ (j : Nat) (b : EdgeV), j < i + 1 → es[j]? = some b → b.1 < x.1) := ⟨g1, (unhide hS).2.1.trans g2, fun j b hj hjb => by
          rcases Nat.lt_or_ge j i with h' | h'
          · exact (unhide hS).2.2 j b h' hjb
          · obtain rfl : j = i := by omega
            exact hxv b hjb⟩
        unfold oE at hr; have HR := hide hr; clear hr g1 g2 hx hxv htl hq
        go_wp2_with (at_builtin; refine Lib.wpList_append_run _ rfl _ _ 26 26 rfl _ _ rfl rfl _ _ (unhide HR _) ?_)
        have hwi : wrap64 ((i : Int) + 1) = ((i + 1 : Nat) : Int) := by have := unhide HLE; have := unhide HEN; unfold wrap64; omega
        (try rw [hwi])
        exact ⟨⟨i + 1, a', c', rfl, rfl, by omega, HG⟩, by simp [intOf]; omega⟩
    · have HI : Hid (∀ a : EdgeV, es[i]? = some a → ¬ a.1 < x.1) := fun a ha e => hgo ⟨by have := (List.getElem?_eq_some_iff.1 ha).1; have := unhide HEN; omega, fun b hb => by rw [ha] at hb; cases hb; exact e⟩
      have htl : (es.take i).length = i := by have := unhide HEN; rw [List.length_take]; omega
      obtain ⟨a3, c3, w3, hr3, g1, g2⟩ := run_appGB (x.1, x.2.1, x.2.2.1, n) (unhide hS).1 (unhide hS).2.1.size (by have := unhide HLE; have := unhide HEN; omega)
      rw [htl] at hr3 g1; have hB3 := (unhide hS).2.1.trans g2; unfold oE at hr3; simp only at hr3; have HR3 := hide hr3; have HW3 : Hid (GRow w2.heap.size w3 (.slice a3 (i + 1) c3) (es.take i ++ [(x.1, x.2.1, x.2.2.1, n)]) ∧ Below w2.heap.size w2 w3) := ⟨g1, hB3⟩; obtain ⟨V1, V2, V3, -⟩ := unhide HV wr.drew (unhide hS).2.1; obtain ⟨xx0, xx1, xx2, xx3, -⟩ := cellsX V2; simp only at xx0 xx1 xx2 xx3; have k1 := (cellsG (unhide HV w3 hB3).1).2.1; clear hr3 g1 g2 hB3 V1 V2 V3 htl; have HFIN : Hid (∀ a4 n4 c4 w4, GRow w2.heap.size w4 (.slice a4 n4 c4) (es.take i ++ [(x.1, x.2.1, x.2.2.1, n)] ++ es.drop i) → Below w2.heap.size w2 w4 → (w4.cell? ⟨bb, 1, none⟩ = some (.slice ea en ec) ∧ w4.cell? ⟨bb, 3, none⟩ = some (.int .i64 wr_0) ∧ ∀ o, w4.frozen? ⟨bb, o, none⟩ = false) ∧
          ∀ w8, w8 = (w4.setCell ⟨bb, 1, none⟩ (.slice a4 n4 c4)).setCell ⟨bb, 3, none⟩ (.int .i64 (wr_0 + 1)) → w8.heap[b2]? = some oZ ∧ w8.heap[bb]? = some (oG (.slice va vn vc) (.slice a4 n4 c4) rd (wr_0 + 1)) ∧
            ∀ x0 x1 x2 x3, NRow (set4 w8 b2 x0 x1 x2 x3) (.slice va vn vc) vs ∧ GRow 0 (set4 w8 b2 x0 x1 x2 x3) (.slice a4 n4 c4) (es.take i ++ [(x.1, x.2.1, x.2.2.1, n)] ++ es.drop i) ∧ Below bb w (set4 w8 b2 x0 x1 x2 x3) ∧ ∀ b, (Value.slice a4 n4 c4).ownBlock = some b → bb ≤ b) := fun a4 n4 c4 w4 h1 h2 => by
        obtain ⟨k1, k2, k3, k4, k5⟩ := unhide HW2; exact putE_fin k3 k1 k4 k5 (by omega) (fun W hW => (unhide HF W hW).1) h1 h2
      have HPU : Hid (Puts es x.1 i) := ⟨by have := unhide HEN; omega, (unhide hS).2.2, unhide HI⟩
      by_cases h' : i < en
      · have hz : (i : Int) < (en : Int) := by omega
        obtain ⟨g, a, rfl, hx, y0, y1, y2, y3⟩ := unhide HC i wr h' (unhide hS0).2.1; have hge := unhide HI a hx; have hge2 : decide (a.1 < x.1) = false := decide_eq_false hge; obtain ⟨q, hq⟩ : ∃ q, q = a.1 := ⟨_, rfl⟩; rw [← hq] at y0 hge hge2; have hR3 := unhide HROW w3 (unhide HV w3 (unhide HW3).2).2.2.2; have hcap : ¬ ec = i := fun e => by have := grow_cap hR3; omega
        have hRe := hR3; have hene := unhide HEN; rw [hene] at hRe; obtain ⟨a4, n4, c4, w4, hr4, g4, hB4⟩ := putE_tail (unhide HW3).1 (unhide HW3).2 hRe (by omega) (unhide HLE)
        rw [← hene] at hr4; obtain ⟨⟨k4, k5, kf⟩, hF8⟩ := unhide HFIN a4 n4 c4 w4 g4 hB4; have HF8 := hide hF8; have HR4 := hide hr4; have hiv : i ≤ en := by omega
        clear hr4 g4 hB4 HW3 HW2 HV HC HROW HFIN hF8 hR3 hRe hene hx hq hgo y1 y2 y3
        go_upto_region 13 with fail
        go_region
        all_goals
          clear y0 c1 x0 hS0; generalize wr.drew = wd at *
          go_upto_region 17 with fail
          go_upto_region 18 with (at_builtin; refine Lib.wpList_append_run _ rfl _ _ 26 26 rfl _ _ rfl rfl _ _ (unhide HR3 _) ?_)
          clear HR3
          go_upto_region 20 with (at_builtin; refine Lib.wpList_append_run _ rfl _ _ 26 26 rfl _ _ rfl rfl _ _ (unhide HR4 _) ?_)
          clear HR4; obtain ⟨q1, q2, q3⟩ := unhide HF8 _ rfl; have HQ3 := hide q3; have HT := hide q1; clear HF8 q3 k4 k5 kf; generalize (w4.setCell ⟨bb, 1, none⟩ (.slice a4 n4 c4)).setCell ⟨bb, 3, none⟩ (.int .i64 (wr_0 + 1)) = w8 at *; obtain ⟨c0', c1', c2', c3', -⟩ := cellsG q2; obtain ⟨d0', d1', d2', d3', df'⟩ := cellsG (vv := .slice none 0 0) (ev := .slice none 0 0) (rd := 0) (wr := 0) q1; have hne : ¬ bb = b2 := by omega
          have hne2 : ¬ b2 = bb := by omega
          clear q1 q2
          go_wp2_with fail
          (try simp only [Exit.inBlock, Exit.then])
          change bodyPost _ _ _ _ _ (set4 w8 b2 _ _ _ _); refine bodyPost_ret (resG rfl _ _ b2 _ _ _ _ rfl (set4G_at (unhide HT) _ _ _ _)) rfl ?_; obtain ⟨z1, z2, z3, z4⟩ := unhide HQ3 (.slice va vn vc) (.slice a4 n4 c4) (.int .i64 rd) (.int .i64 (wr_0 + 1)); exact ⟨_, unhide HPU, _, _, rfl, z1, z2, by first | exact z3 | (rw [← unhide HBB]; exact z3), Apt.refl _ _, Apt.new z4 (by have := unhide HBB; omega)⟩
      · have hz : ¬ (i : Int) < (en : Int) := by omega
        obtain rfl : i = en := by omega
        have hle : es.length ≤ i := by have := unhide HEN; omega
        obtain ⟨hr4, g4⟩ := putE_none (unhide HW3).1 hle; obtain ⟨⟨k4, k5, kf⟩, hF8⟩ := unhide HFIN a3 (i + 1) c3 w3 g4 (unhide HW3).2; have HF8 := hide hF8; have HR4 := hide hr4; have hR3 := unhide HROW w3 (unhide HV w3 (unhide HW3).2).2.2.2; have hiv : i ≤ ec := grow_cap hR3; have hsh : (ea = none ∧ ec = 0 ∧ i = 0) ∨ ∃ g, ea = some ⟨g, 0, none⟩ := by
          rcases hR3.2 with ⟨e, h0⟩ | ⟨g, cap, cur, e, -⟩
          · injection e with e1 e2 e3; exact .inl ⟨e1, e3, e2⟩
          · injection e with e1 e2 e3; exact .inr ⟨g, e1⟩
        clear hr4 g4 HW3 HW2 HV HC HROW HFIN hF8 hR3 hle hgo h' k1; rcases hsh with ⟨rfl, rfl, rfl⟩ | ⟨g, rfl⟩
        · simp only [Int.natCast_zero] at *
          go_upto_region 13 with fail
          go_region
          all_goals
            clear c1 x0 hS0; generalize wr.drew = wd at *
            go_upto_region 17 with fail
            go_upto_region 18 with (at_builtin; refine Lib.wpList_append_run _ rfl _ _ 26 26 rfl _ _ rfl rfl _ _ (unhide HR3 _) ?_)
            clear HR3
            go_upto_region 20 with (at_builtin; refine Lib.wpList_append_run _ rfl _ _ 26 26 rfl _ _ rfl rfl _ _ (unhide HR4 _ _ _) ?_)
            clear HR4; obtain ⟨q1, q2, q3⟩ := unhide HF8 _ rfl; have HQ3 := hide q3; have HT := hide q1; clear HF8 q3 k4 k5 kf; generalize (w3.setCell ⟨bb, 1, none⟩ (.slice a3 _ c3)).setCell ⟨bb, 3, none⟩ (.int .i64 (wr_0 + 1)) = w8 at *; obtain ⟨c0', c1', c2', c3', -⟩ := cellsG q2; obtain ⟨d0', d1', d2', d3', df'⟩ := cellsG (vv := .slice none 0 0) (ev := .slice none 0 0) (rd := 0) (wr := 0) q1; have hne : ¬ bb = b2 := by omega
            have hne2 : ¬ b2 = bb := by omega
            clear q1 q2
            go_wp2_with fail
            (try simp only [Exit.inBlock, Exit.then])
            change bodyPost _ _ _ _ _ (set4 w8 b2 _ _ _ _); refine bodyPost_ret (resG rfl _ _ b2 _ _ _ _ rfl (set4G_at (unhide HT) _ _ _ _)) rfl ?_; obtain ⟨z1, z2, z3, z4⟩ := unhide HQ3 (.slice va vn vc) (.slice a3 _ c3) (.int .i64 rd) (.int .i64 (wr_0 + 1)); exact ⟨_, unhide HPU, _, _, rfl, z1, z2, by first | exact z3 | (rw [← unhide HBB]; exact z3), Apt.refl _ _, Apt.new z4 (by have := unhide HBB; omega)⟩
        · by_cases hci : ec = i
          · subst hci
            go_upto_region 13 with fail
            go_region
            all_goals
              clear c1 x0 hS0; generalize wr.drew = wd at *
              go_upto_region 17 with fail
              go_upto_region 18 with (at_builtin; refine Lib.wpList_append_run _ rfl _ _ 26 26 rfl _ _ rfl rfl _ _ (unhide HR3 _) ?_)
              clear HR3
              go_upto_region 20 with (at_builtin; refine Lib.wpList_append_run _ rfl _ _ 26 26 rfl _ _ rfl rfl _ _ (unhide HR4 _ _ _) ?_)
              clear HR4; obtain ⟨q1, q2, q3⟩ := unhide HF8 _ rfl; have HQ3 := hide q3; have HT := hide q1; clear HF8 q3 k4 k5 kf; generalize (w3.setCell ⟨bb, 1, none⟩ (.slice a3 _ c3)).setCell ⟨bb, 3, none⟩ (.int .i64 (wr_0 + 1)) = w8 at *; obtain ⟨c0', c1', c2', c3', -⟩ := cellsG q2; obtain ⟨d0', d1', d2', d3', df'⟩ := cellsG (vv := .slice none 0 0) (ev := .slice none 0 0) (rd := 0) (wr := 0) q1; have hne : ¬ bb = b2 := by omega
              have hne2 : ¬ b2 = bb := by omega
              clear q1 q2
              go_wp2_with fail
              (try simp only [Exit.inBlock, Exit.then])
              change bodyPost _ _ _ _ _ (set4 w8 b2 _ _ _ _); refine bodyPost_ret (resG rfl _ _ b2 _ _ _ _ rfl (set4G_at (unhide HT) _ _ _ _)) rfl ?_; obtain ⟨z1, z2, z3, z4⟩ := unhide HQ3 (.slice va vn vc) (.slice a3 _ c3) (.int .i64 rd) (.int .i64 (wr_0 + 1)); exact ⟨_, unhide HPU, _, _, rfl, z1, z2, by first | exact z3 | (rw [← unhide HBB]; exact z3), Apt.refl _ _, Apt.new z4 (by have := unhide HBB; omega)⟩
          · have hci2 : ¬ ec = i := hci
            go_upto_region 13 with fail
            go_region
            all_goals
              clear c1 x0 hS0; generalize wr.drew = wd at *
              go_upto_region 17 with fail
              go_upto_region 18 with (at_builtin; refine Lib.wpList_append_run _ rfl _ _ 26 26 rfl _ _ rfl rfl _ _ (unhide HR3 _) ?_)
              clear HR3
              go_upto_region 20 with (at_builtin; refine Lib.wpList_append_run _ rfl _ _ 26 26 rfl _ _ rfl rfl _ _ (unhide HR4 _ _ _) ?_)
              clear HR4; obtain ⟨q1, q2, q3⟩ := unhide HF8 _ rfl; have HQ3 := hide q3; have HT := hide q1; clear HF8 q3 k4 k5 kf; generalize (w3.setCell ⟨bb, 1, none⟩ (.slice a3 _ c3)).setCell ⟨bb, 3, none⟩ (.int .i64 (wr_0 + 1)) = w8 at *; obtain ⟨c0', c1', c2', c3', -⟩ := cellsG q2; obtain ⟨d0', d1', d2', d3', df'⟩ := cellsG (vv := .slice none 0 0) (ev := .slice none 0 0) (rd := 0) (wr := 0) q1; have hne : ¬ bb = b2 := by omega
              have hne2 : ¬ b2 = bb := by omega
              clear q1 q2
              go_wp2_with fail
              (try simp only [Exit.inBlock, Exit.then])
              change bodyPost _ _ _ _ _ (set4 w8 b2 _ _ _ _); refine bodyPost_ret (resG rfl _ _ b2 _ _ _ _ rfl (set4G_at (unhide HT) _ _ _ _)) rfl ?_; obtain ⟨z1, z2, z3, z4⟩ := unhide HQ3 (.slice va vn vc) (.slice a3 _ c3) (.int .i64 rd) (.int .i64 (wr_0 + 1)); exact ⟨_, unhide HPU, _, _, rfl, z1, z2, by first | exact z3 | (rw [← unhide HBB]; exact z3), Apt.refl _ _, Apt.new z4 (by have := unhide HBB; omega)⟩
end

section
open Go.RowKit Go.Maps
def AFit (w : World) (vv ev : Value) (rd wr_0 : Int) (W : World) : Prop :=
  W.heap[w.heap.size]? = some (oG vv ev rd wr_0) ∧ W.heap[w.heap.size + 1]? = some oZ ∧ Below w.heap.size w W ∧ w.heap.size + 2 ≤ W.heap.size
theorem AFit.step {w W W' : World} {vv ev : Value} {rd wr_0 : Int} (h : AFit w vv ev rd wr_0 W) (hb : Below W.heap.size W W') : AFit w vv ev rd wr_0 W' := by
  obtain ⟨h1, h2, h4, h5⟩ := h; have := hb.size; exact ⟨(hb.block _ (by omega)).trans h1, (hb.block _ (by omega)).trans h2, h4.trans (hb.mono (by omega)), by omega⟩
theorem afit_new (w : World) (vv ev : Value) (rd wr_0 : Int) : AFit w vv ev rd wr_0 ((w.alloc (oG vv ev rd wr_0)).alloc oZ) := by
  obtain ⟨h1, h2, h3, h4⟩ := two_boxes w (oG vv ev rd wr_0); exact ⟨h1, h2, h3, by omega⟩
def AnsGI (w : World) (vv0 ev0 : Value) (vs : List Int) (es : List EdgeV) (rd wr n code : Int) (e : Ending) (w' : World) : Prop :=
  ∃ vv ev, e = .returned (.tuple #[.agg #[vv, ev, .int .i64 rd, .int .i64 wr], .int .i64 n, .int .i64 code]) ∧ NRow w' vv vs ∧ GRow 0 w' ev es ∧ Below w.heap.size w w' ∧ Apt w vv0 vv ∧ Apt w ev0 ev
end

section
open Go.RowKit Go.Maps
theorem nrow_ne {w : World} {v : Value} {ks : List Int} {b : Nat} {vv ev : Value} {rd wr : Int} (h : NRow w v ks) (hb : w.heap[b]? = some (oG vv ev rd wr)) : v.ownBlock ≠ some b := fun e => by
  rcases h.2 with ⟨rfl, -⟩ | ⟨g, cap, cur, rfl, -, hg, -⟩
  · cases e
  · have : g = b := by simpa [Value.ownBlock] using e
    subst this; rw [hg] at hb; have := Option.some.inj hb; unfold oG at this; injection this with h1 h2 h3
    exact absurd h2 (by decide)
theorem grow_ne {B : Nat} {w : World} {v : Value} {ks : List EdgeV} {b : Nat} {vv ev : Value} {rd wr : Int} (h : GRow B w v ks) (hb : w.heap[b]? = some (oG vv ev rd wr)) : v.ownBlock ≠ some b := fun e => by
  rcases h.2 with ⟨rfl, -⟩ | ⟨g, cap, cur, rfl, -, hg, -⟩
  · cases e
  · have : g = b := by simpa [Value.ownBlock] using e
    subst this; rw [hg] at hb; have := Option.some.inj hb; unfold oG at this; injection this with h1 h2 h3
    exact absurd h2 (by decide)
theorem addE_fin {w w6 : World} {bb b1 : Nat} {vv ev v1 v2 : Value} {rd wr_0 : Int} {vs : List Int} {fs : List EdgeV} (hbe : bb < b1) (k1 : w6.heap[bb]? = some (oG vv ev rd wr_0)) (k2 : w6.heap[b1]? = some oZ) (k3 : Below bb w w6) (r1 : NRow w6 v1 vs) (r2 : GRow 0 w6 v2 fs) (c d : Value) :
    (set4 w6 bb v1 v2 c d).heap[bb]? = some (.cells #[v1, v2, c, d] 28 (0, 0)) ∧ (set4 w6 bb v1 v2 c d).heap[b1]? = some oZ ∧ ∀ x0 x1 x2 x3, NRow (set4 (set4 w6 bb v1 v2 c d) b1 x0 x1 x2 x3) v1 vs ∧ GRow 0 (set4 (set4 w6 bb v1 v2 c d) b1 x0 x1 x2 x3) v2 fs ∧ Below bb w (set4 (set4 w6 bb v1 v2 c d) b1 x0 x1 x2 x3) := by
  have e1 := nrow_ne r1 k1; have e2 := nrow_ne r1 (b := b1) (vv := .slice none 0 0) (ev := .slice none 0 0) (rd := 0) (wr := 0) k2; have e3 := grow_ne r2 k1; have e4 := grow_ne r2 (b := b1) (vv := .slice none 0 0) (ev := .slice none 0 0) (rd := 0) (wr := 0) k2; refine ⟨set4G_at k1 _ _ _ _, (set4_other (by omega) _ _ _ _).trans k2, fun x0 x1 x2 x3 => ⟨nrow_kept r1 (fun b hb => ?_), grow_kept r2 (fun b hb => ?_), set4_below (set4_below k3 (Nat.le_refl _) _ _ _ _) (by omega) _ _ _ _⟩⟩
  · exact (set4_other (fun e => e2 (by rw [← e]; exact hb)) _ _ _ _).trans (set4_other (fun e => e1 (by rw [← e]; exact hb)) _ _ _ _)
  · exact (set4_other (fun e => e4 (by rw [← e]; exact hb)) _ _ _ _).trans (set4_other (fun e => e3 (by rw [← e]; exact hb)) _ _ _ _)
set_option maxHeartbeats 2000000 in
set_option maxRecDepth 100000 in
theorem refAddE {w : World} {vv ev : Value} {rd wr_0 : Int} {vs : List Int} {es : List EdgeV} (u v n : Int) (h : NRow w vv vs) (hE : GRow 0 w ev es) (hlv : vs.length ≤ 1000000) (hl : es.length ≤ 100000) (hr0 : 0 ≤ wr_0) (hr1 : wr_0 ≤ 1000000000) (hu : u ∈ vs) (hv : v ∈ vs) {b : Int} (hk : kept n = some b) (ht : ∃ i : Nat, i < 1024 ∧ ¬ HasNo es ((i : Int) + 1)) :
    Calls Tryz.prog 68 #[.agg #[vv, ev, .int .i64 rd, .int .i64 wr_0], .int .i64 u, .int .i64 v, .int .u32 n] w fun e w' => Hid (AnsAdd w vv ev vs es u v b rd wr_0 e w') := by
  have HF : Hid (∀ W, Below w.heap.size w W → NRow W vv vs ∧ GRow 0 W ev es) := fun W hW => ⟨nrow_below h hW, grow_below hE hW⟩
  have CH : Hid (∀ W, AFit w vv ev rd wr_0 W → ∀ k, Calls Tryz.prog 19 #[.agg #[vv, ev, .int .i64 rd, .int .i64 wr_0], .int .i64 k] W fun e w' => e = .returned (.bool (decide (k ∈ vs))) ∧ Hid (AFit w vv ev rd wr_0 w')) := fun W hW k => by
    refine (refHas k (nrow_below h hW.2.2.1) hlv).mono ?_
    rintro e w' ⟨rfl, g⟩
    exact ⟨rfl, hW.step g⟩
  have CA : Hid (∀ n W, Calls Tryz.prog 99 #[.int .u32 n] W fun e w' => e = .returned (ansK (kept n)) ∧ w' = W) := fun n W => refAdmit n W
  obtain ⟨va, vc, hvv, -⟩ := brow_shape h; obtain ⟨vn, hvv'⟩ : ∃ vn, vv = .slice va vn vc := ⟨_, hvv⟩; obtain ⟨ea, en, ec, hev⟩ := grow_shape hE; have CT : Hid (∀ W, AFit w vv ev rd wr_0 W → Calls Tryz.prog 58 #[.agg #[vv, ev, .int .i64 rd, .int .i64 wr_0]] W fun e w' => ∃ r, e = .returned (.int .i64 r) ∧ Hid (RFree es r ∧ AFit w vv ev rd wr_0 w')) := fun W hW => by
    refine (refFree (grow_below hE hW.2.2.1) (by omega) ⟨_, _, _, hvv'⟩).mono ?_
    rintro e w' ⟨r, rfl, g⟩
    exact ⟨r, rfl, (unhide g).1, hW.step (unhide g).2⟩
  have CP : Hid (∀ W (j : Nat), AFit w vv ev rd wr_0 W → j < 1024 → ¬ HasNo es ((j : Int) + 1) → Calls Tryz.prog 69 #[.agg #[vv, ev, .int .i64 rd, .int .i64 wr_0], .agg #[.int .i64 ((j : Int) + 1), .int .i64 u, .int .i64 v, .int .u32 n]] W fun e w' => ∃ (a1 a2 : Option Addr) (n1 n2 m1 m2 : Nat), e = .returned (.tuple #[.agg #[.slice a1 n1 m1, .slice a2 n2 m2, .int .i64 rd, .int .i64 (wr_0 + 1)], .int .i64 0]) ∧ Hid (∃ i, Puts es ((j : Int) + 1) i ∧ NRow w' (.slice a1 n1 m1) vs ∧ GRow 0 w' (.slice a2 n2 m2) (es.take i ++ [((j : Int) + 1, u, v, b)] ++ es.drop i) ∧ AFit w vv ev rd wr_0 w' ∧ Apt w vv (.slice a1 n1 m1) ∧ Apt w ev (.slice a2 n2 m2))) := fun W j hW hj hno => by
    refine (refPutE (((j : Int) + 1, u, v, n) : EdgeV) (nrow_below h hW.2.2.1) (grow_below hE hW.2.2.1) hlv hl hr0 hr1 (by show ¬ (j : Int) + 1 < 1; omega) (by show ¬ 1024 < (j : Int) + 1; omega) hu hv hk hno).mono ?_
    rintro e w' hh
    obtain ⟨i, p1, v1, v2, rfl, g1, g2, g3, g4, g5⟩ := unhide hh; have hws := hW.2.2.1.size; obtain ⟨a1, m1, e1, -⟩ := brow_shape g1; obtain ⟨a2, n2, m2, e2⟩ := grow_shape g2; subst e1 e2; exact ⟨a1, a2, _, n2, m1, m2, rfl, i, p1, g1, g2, hW.step g3, fun b hb => (g4 b hb).imp id (fun e => by omega), fun b hb => (g5 b hb).imp id (fun e => by omega)⟩
  have HP := hide (afit_new w vv ev rd wr_0); clear h hE hvv hl hlv hr0 hr1; subst hvv' hev
  go_enter Tryz.func68, Tryz.ntmps68
  go_upto_region 1 with fail
  change Code.wp _ _ _ _ ((w.alloc (oG (.slice va vn vc) (.slice ea en ec) rd wr_0)).alloc oZ); generalize (w.alloc (oG (.slice va vn vc) (.slice ea en ec) rd wr_0)).alloc oZ = wb at *; have n1 : ¬ w.heap.size = w.heap.size + 1 := by omega
  have n2 : ¬ w.heap.size + 1 = w.heap.size := by omega
  have HT := hide ht; clear ht; have HCwb := unhide HP; obtain ⟨c0, c1, c2, c3, cf⟩ := cellsG HCwb.1; obtain ⟨d0, d1, d2, d3, df⟩ := cellsG (vv := .slice none 0 0) (ev := .slice none 0 0) (rd := 0) (wr := 0) HCwb.2.1; clear HCwb
  go_wp2_with fail
  refine (unhide CH _ (unhide HP) _).mono ?_
  rintro e w2 ⟨rfl, H2⟩
  rw [decide_eq_true hu]; clear c0 c1 c2 c3 cf d0 d1 d2 d3 df; have HCw2 := unhide H2; obtain ⟨c0, c1, c2, c3, cf⟩ := cellsG HCw2.1; obtain ⟨d0, d1, d2, d3, df⟩ := cellsG (vv := .slice none 0 0) (ev := .slice none 0 0) (rd := 0) (wr := 0) HCw2.2.1; clear HCw2
  go_wp2_with fail
  refine (unhide CH _ (unhide H2) _).mono ?_
  rintro e w3 ⟨rfl, H3⟩
  rw [decide_eq_true hv]; clear c0 c1 c2 c3 cf d0 d1 d2 d3 df; have HCw3 := unhide H3; obtain ⟨c0, c1, c2, c3, cf⟩ := cellsG HCw3.1; obtain ⟨d0, d1, d2, d3, df⟩ := cellsG (vv := .slice none 0 0) (ev := .slice none 0 0) (rd := 0) (wr := 0) HCw3.2.1; clear HCw3
  go_wp2_with fail
  refine (unhide CA _ _).mono ?_
  rintro e w4 ⟨rfl, rfl⟩
  rw [hk]; unfold ansK
  go_wp2_with fail
  refine (unhide CT _ (unhide H3)).mono ?_
  rintro e w5 ⟨r, rfl, H5'⟩
  obtain ⟨j, hj, rfl, hj1, hj2⟩ : ∃ j : Nat, j < 1024 ∧ r = (j : Int) + 1 ∧ (∀ k : Nat, k < j → HasNo es ((k : Int) + 1)) ∧ ¬ HasNo es ((j : Int) + 1) := by
    rcases (unhide H5').1 with h | ⟨-, h⟩
    · exact h
    · obtain ⟨i, hi, hn⟩ := unhide HT; exact absurd (h i hi) hn
  have HJ := hide (And.intro hj (And.intro hj1 hj2)); have hj0 : ¬ (j : Int) + 1 = 0 := by omega
  clear hj1; have H5 := hide (unhide H5').2; clear H5'; clear c0 c1 c2 c3 cf d0 d1 d2 d3 df; have HCw5 := unhide H5; obtain ⟨c0, c1, c2, c3, cf⟩ := cellsG HCw5.1; clear HCw5; have CP5 := hide (unhide CP _ j (unhide H5) hj hj2); clear hj hj2 CP CT CH CA
  go_wp2_with fail
  refine (unhide CP5).mono ?_
  rintro e w6 ⟨a1, a2, m1, m2, q1, q2, rfl, H6⟩
  clear c0 c1 c2 c3 cf CP5; obtain ⟨i, hP, r1, r2, r3, r4⟩ := unhide H6; have HAP := hide r4; have HPU := hide hP; obtain ⟨b1, hb1⟩ : ∃ b1, b1 = w.heap.size + 1 := ⟨_, rfl⟩; obtain ⟨bb, hbb⟩ : ∃ bb, bb = w.heap.size := ⟨_, rfl⟩; have HEND := hide (addE_fin (bb := bb) (b1 := b1) (by omega) (by rw [hbb]; exact r3.1) (by rw [hb1]; exact r3.2.1) (by rw [hbb]; exact r3.2.2.1) r1 r2 (.int .i64 rd) (.int .i64 (wr_0 + 1)))
  rw [← hb1, ← hbb]; have n3 : ¬ bb = b1 := by omega
  have n4 : ¬ b1 = bb := by omega
  have cc : w6.cell? ⟨bb, 0, none⟩ = some (.slice va vn vc) ∧ w6.cell? ⟨bb, 1, none⟩ = some (.slice ea en ec) ∧ w6.cell? ⟨bb, 2, none⟩ = some (.int .i64 rd) ∧ w6.cell? ⟨bb, 3, none⟩ = some (.int .i64 wr_0) ∧ ∀ o, w6.frozen? ⟨bb, o, none⟩ = false := cellsG (by rw [hbb]; exact r3.1)
  obtain ⟨c0, c1, c2, c3, cf⟩ := cc; have HBB := hide hbb; clear r1 r2 r3 r4 hP H6 hbb hb1 n1 n2
  go_upto_region 10 with fail
  change Code.wp _ _ _ _ (set4 w6 bb _ _ _ _); obtain ⟨s1, s2, s3⟩ := unhide HEND; have HT1 := hide s2; have HS3 := hide s3; clear c0 c1 c2 c3 cf HEND s3; generalize set4 w6 bb (.slice a1 m1 q1) (.slice a2 m2 q2) (.int .i64 rd) (.int .i64 (wr_0 + 1)) = w7 at *; obtain ⟨c0, c1, c2, c3, cf⟩ := cellsG (vv := .slice a1 m1 q1) (ev := .slice a2 m2 q2) (rd := rd) (wr := wr_0 + 1) s1; obtain ⟨d0, d1, d2, d3, df⟩ := cellsG (vv := .slice none 0 0) (ev := .slice none 0 0) (rd := 0) (wr := 0) s2; clear s1 s2
  go_wp2_with fail
  (try simp only [Exit.inBlock, Exit.then])
  change bodyPost _ _ _ _ _ (set4 w7 b1 _ _ _ _); refine bodyPost_ret (results_cell_tmp_tmp rfl _ _ _ ⟨b1, 0, none⟩ _ rfl (loadG _ _ _ _ _ _ (set4G_at (unhide HT1) _ _ _ _))) rfl ?_; obtain ⟨z1, z2, z3⟩ := unhide HS3 (.slice a1 m1 q1) (.slice a2 m2 q2) (.int .i64 rd) (.int .i64 (wr_0 + 1)); exact ⟨j, i, unhide HJ, unhide HPU, _, _, rfl, z1, z2, by rw [← unhide HBB]; exact z3, (unhide HAP).1, (unhide HAP).2⟩
end

end Go.Proofs.YtagibmgbjhemkaaGreat
