/- The reference's DropVertex. -/
import Derived.Test.YtagibmgbjhemkaaGreatRefAddE
namespace Go.Proofs.YtagibmgbjhemkaaGreat
open Go.RowKit Go.Maps
def AnsGL (w : World) (vv0 ev0 : Value) (vs : List Int) (es : List EdgeV) (rd wr : Int) (gs : List EdgeV) (code : Int) (e : Ending) (w' : World) : Prop :=
  ∃ vv ev lv, e = .returned (.tuple #[.agg #[vv, ev, .int .i64 rd, .int .i64 wr], lv, .int .i64 code]) ∧ NRow w' vv vs ∧ GRow 0 w' ev es ∧ GRow 0 w' lv gs ∧ Below w.heap.size w w' ∧ Apt w vv0 vv ∧ Apt w ev0 ev ∧ ∀ b, lv.ownBlock = some b → w.heap.size ≤ b
def hits (v : Int) (x : EdgeV) : Bool := decide (x.2.1 = v) || decide (x.2.2.1 = v)
def AnsDropV (w : World) (vv0 ev0 : Value) (vs : List Int) (es : List EdgeV) (v rd wr : Int) (e : Ending) (w' : World) : Prop := AnsGL w vv0 ev0 (vs.filter (fun k => !decide (k = v))) (es.filter (fun x => !hits v x)) rd (wr + (es.filter (hits v)).length) (es.filter (hits v)) 0 e w'
theorem filt_snoc_yes {α : Type} {p : α → Bool} {x : α} (l : List α) (h : p x = true) : (l ++ [x]).filter p = l.filter p ++ [x] := by simp [h]
theorem filt_snoc_no {α : Type} {p : α → Bool} {x : α} (l : List α) (h : p x = false) : (l ++ [x]).filter p = l.filter p := by simp [h]
theorem grow_at0 {B : Nat} {w : World} {v : Value} {gs : List EdgeV} (h : GRow B w v gs) : GRow 0 w v gs := ⟨h.1, h.2.imp id (fun ⟨g, cap, cur, e, _, r⟩ => ⟨g, cap, cur, e, Nat.zero_le _, r⟩)⟩
theorem brow_at0 {B : Nat} {w : World} {v : Value} {gs : List Int} (h : BRow B w v gs) : NRow w v gs := ⟨h.1, h.2.imp id (fun ⟨g, cap, cur, e, _, r⟩ => ⟨g, cap, cur, e, Nat.zero_le _, r⟩)⟩
theorem dropV_app {B : Nat} {w : World} {v1 v2 : Value} {l1 l2 : List EdgeV} (a : EdgeV) (h1 : GRow B w v1 l1) (h2 : GRow B w v2 l2) (hap : ∀ b, v1.ownBlock = some b → v2.ownBlock ≠ some b) (hB : B ≤ w.heap.size) (hl : l1.length ≤ 100000) :
    ∃ a' n' c' w', (∀ ty, (Builtin.append_ #[26, 26] ty #[v1, .slice (some ⟨w.heap.size, 0, none⟩) 1 1]).run Tryz.prog (w.alloc (oE a)) = .ok (.slice a' n' c') w') ∧ GRow B w' (.slice a' n' c') (l1 ++ [a]) ∧ GRow B w' v2 l2 ∧ (∀ b, (Value.slice a' n' c').ownBlock = some b → v2.ownBlock ≠ some b) ∧ Below B w w' := by
  obtain ⟨a', n', c', w', hr, g1, g2, g3⟩ := run_appG a h1 hB hl; have hb := below_new w (oE a); refine ⟨a', n', c', w', hr, g1, grow_kept h2 (fun b hb2 => ?_), fun b hb1 hb2 => ?_, ⟨g2.os.trans hb.os, g2.tape.trans hb.tape, g2.output.trans hb.output, Nat.le_trans hb.size g2.size, fun k hk => (g2.block k (Nat.lt_of_lt_of_le hk (Nat.le_trans hB hb.size)) (fun e => ?_)).trans (hb.block k (Nat.lt_of_lt_of_le hk hB))⟩⟩
  · have hlt := (h2.lt b hb2).2; exact (g2.block b (Nat.lt_of_lt_of_le hlt hb.size) (fun e => hap b e.symm hb2)).trans (hb.block b hlt)
  · rcases g3 b hb1 with e | e
    · exact hap b e hb2
    · have := (h2.lt b hb2).2; omega
  · have := (h1.lt k e.symm).1; omega
theorem dropV_fin {w w2 w4 : World} {bb b1 : Nat} {vv ev l1 k1 g1 : Value} {rd wr_0 : Int} {us : List Int} {ks gs : List EdgeV} (q2 : w2.heap[bb]? = some (oG vv ev rd wr_0)) (q1 : w2.heap[b1]? = some oZ) (q3 : Below bb w w2) (q4 : b1 < w2.heap.size) (hbe : bb < b1) (r1 : BRow w2.heap.size w4 l1 us) (r2 : GRow w2.heap.size w4 k1 ks) (r3 : GRow w2.heap.size w4 g1 gs) (hB : Below w2.heap.size w2 w4) (z : Int) :
    (w4.cell? ⟨bb, 0, none⟩ = some vv ∧ w4.cell? ⟨bb, 1, none⟩ = some ev ∧ w4.cell? ⟨bb, 3, none⟩ = some (.int .i64 wr_0) ∧ ∀ o, w4.frozen? ⟨bb, o, none⟩ = false) ∧
    ∀ w8, w8 = ((w4.setCell ⟨bb, 0, none⟩ l1).setCell ⟨bb, 1, none⟩ k1).setCell ⟨bb, 3, none⟩ (.int .i64 z) → w8.heap[b1]? = some oZ ∧ w8.heap[bb]? = some (oG l1 k1 rd z) ∧
      ∀ x0 x1 x2 x3, NRow (set4 w8 b1 x0 x1 x2 x3) l1 us ∧ GRow 0 (set4 w8 b1 x0 x1 x2 x3) k1 ks ∧ GRow 0 (set4 w8 b1 x0 x1 x2 x3) g1 gs ∧ Below bb w (set4 w8 b1 x0 x1 x2 x3) ∧ (∀ b, l1.ownBlock = some b → bb ≤ b) ∧ (∀ b, k1.ownBlock = some b → bb ≤ b) ∧ ∀ b, g1.ownBlock = some b → bb ≤ b := by
  have hbx := (hB.block bb (by omega)).trans q2
  obtain ⟨y0, y1, y2, y3, yf⟩ := cellsG hbx; refine ⟨⟨y0, y1, y3, yf⟩, fun w8 e8 => ?_⟩
  have e0 : (w4.setCell ⟨bb, 0, none⟩ l1).heap[bb]? = some (oG l1 ev rd wr_0) := by rw [heap_setCell_same _ _ _ _ _ _ hbx]; rfl
  have e1 : ((w4.setCell ⟨bb, 0, none⟩ l1).setCell ⟨bb, 1, none⟩ k1).heap[bb]? = some (oG l1 k1 rd wr_0) := by rw [heap_setCell_same _ _ _ _ _ _ e0]; rfl
  have e2 : w8.heap[bb]? = some (oG l1 k1 rd z) := by rw [e8, heap_setCell_same _ _ _ _ _ _ e1]; rfl
  have oth : ∀ b, b ≠ bb → w8.heap[b]? = w4.heap[b]? := fun b hb => by rw [e8]; exact (heap_setCell_other _ _ _ _ hb).trans ((heap_setCell_other _ _ _ _ hb).trans (heap_setCell_other _ _ _ _ hb))
  have hB8 : Below bb w w8 := by
    rw [e8]; exact (((q3.trans (hB.mono (by omega))).setCell (p := ⟨bb, 0, none⟩) (Nat.le_refl _) _).setCell (p := ⟨bb, 1, none⟩) (Nat.le_refl _) _).setCell (p := ⟨bb, 3, none⟩) (Nat.le_refl _) _
  refine ⟨(oth b1 (by omega)).trans ((hB.block b1 q4).trans q1), e2, fun x0 x1 x2 x3 => ?_⟩
  have kp : ∀ b, w2.heap.size ≤ b → (set4 w8 b1 x0 x1 x2 x3).heap[b]? = w4.heap[b]? := fun b hb => (set4_other (by omega) _ _ _ _).trans (oth b (by omega))
  exact ⟨brow_at0 (brow_kept r1 (fun b hb => kp b (r1.lt b hb).1)), grow_at0 (grow_kept r2 (fun b hb => kp b (r2.lt b hb).1)), grow_at0 (grow_kept r3 (fun b hb => kp b (r3.lt b hb).1)), set4_below hB8 (by omega) x0 x1 x2 x3, fun b hb => by have := (r1.lt b hb).1; omega, fun b hb => by have := (r2.lt b hb).1; omega, fun b hb => by have := (r3.lt b hb).1; omega⟩
set_option maxHeartbeats 2000000 in
set_option maxRecDepth 100000 in
theorem refDropVNo {w : World} {vv ev : Value} {rd wr_0 : Int} {vs : List Int} {es : List EdgeV} (v : Int) (h : NRow w vv vs) (hE : GRow 0 w ev es) (hlv : vs.length ≤ 1000000) (hv : v ∉ vs) :
    Calls Tryz.prog 65 #[.agg #[vv, ev, .int .i64 rd, .int .i64 wr_0], .int .i64 v] w fun e w' => Hid (AnsGL w vv ev vs es rd wr_0 [] 5 e w') := by
  have HF : Hid (∀ W, Below w.heap.size w W → NRow W vv vs ∧ GRow 0 W ev es) := fun W hW => ⟨nrow_below h hW, grow_below hE hW⟩
  have CH : Hid (∀ W, AFit w vv ev rd wr_0 W → ∀ k, Calls Tryz.prog 19 #[.agg #[vv, ev, .int .i64 rd, .int .i64 wr_0], .int .i64 k] W fun e w' => e = .returned (.bool (decide (k ∈ vs))) ∧ Hid (AFit w vv ev rd wr_0 w')) := fun W hW k => by
    refine (refHas k (nrow_below h hW.2.2.1) hlv).mono ?_
    rintro e w' ⟨rfl, g⟩
    exact ⟨rfl, hW.step g⟩
  obtain ⟨va, vc, hvv, -⟩ := brow_shape h; obtain ⟨vn, hvv'⟩ : ∃ vn, vv = .slice va vn vc := ⟨_, hvv⟩; obtain ⟨ea, en, ec, hev⟩ := grow_shape hE; have HP := hide (afit_new w vv ev rd wr_0); clear h hE hvv hlv; subst hvv' hev
  go_enter Tryz.func65, Tryz.ntmps65
  go_upto_region 1 with fail
  change Code.wp _ _ _ _ ((w.alloc (oG (.slice va vn vc) (.slice ea en ec) rd wr_0)).alloc oZ); generalize (w.alloc (oG (.slice va vn vc) (.slice ea en ec) rd wr_0)).alloc oZ = wb at *; have n1 : ¬ w.heap.size = w.heap.size + 1 := by omega
  have n2 : ¬ w.heap.size + 1 = w.heap.size := by omega
  have HCwb := unhide HP; obtain ⟨c0, c1, c2, c3, cf⟩ := cellsG HCwb.1; clear HCwb
  go_wp2_with fail
  refine (unhide CH _ (unhide HP) _).mono ?_
  rintro e w2 ⟨rfl, H2⟩
  rw [decide_eq_false hv]; clear c0 c1 c2 c3 cf; have HCw2 := unhide H2; obtain ⟨c0, c1, c2, c3, cf⟩ := cellsG HCw2.1; obtain ⟨d0, d1, d2, d3, df⟩ := cellsG (vv := .slice none 0 0) (ev := .slice none 0 0) (rd := 0) (wr := 0) HCw2.2.1; clear HCw2
  go_wp2_with fail
  (try simp only [Exit.inBlock, Exit.then])
  change bodyPost _ _ _ _ _ (set4 w2 (w.heap.size + 1) _ _ _ _); refine bodyPost_ret (results_cell_tmp_tmp rfl _ _ _ ⟨w.heap.size + 1, 0, none⟩ _ rfl (loadG _ _ _ _ _ _ (set4G_at (unhide H2).2.1 _ _ _ _))) rfl ?_; have hB := set4_below (unhide H2).2.2.1 (by omega : w.heap.size ≤ w.heap.size + 1) (.slice va vn vc) (.slice ea en ec) (.int .i64 rd) (.int .i64 wr_0)
  exact ⟨_, _, _, rfl, (unhide HF _ hB).1, (unhide HF _ hB).2, ⟨rfl, .inl ⟨rfl, rfl⟩⟩, hB, Apt.refl _ _, Apt.refl _ _, fun b hb => by cases hb⟩
set_option maxHeartbeats 4000000 in
set_option maxRecDepth 100000 in
theorem refDropV {w : World} {vv ev : Value} {rd wr_0 : Int} {vs : List Int} {es : List EdgeV} (v : Int) (h : NRow w vv vs) (hE : GRow 0 w ev es) (hlv : vs.length ≤ 1000000) (hl : es.length ≤ 100000) (hr0 : 0 ≤ wr_0) (hr1 : wr_0 ≤ 1000000000) (hv : v ∈ vs) :
    Calls Tryz.prog 65 #[.agg #[vv, ev, .int .i64 rd, .int .i64 wr_0], .int .i64 v] w fun e w' => Hid (AnsDropV w vv ev vs es v rd wr_0 e w') := by
  have CH : Hid (∀ W, AFit w vv ev rd wr_0 W → ∀ k, Calls Tryz.prog 19 #[.agg #[vv, ev, .int .i64 rd, .int .i64 wr_0], .int .i64 k] W fun e w' => e = .returned (.bool (decide (k ∈ vs))) ∧ Hid (AFit w vv ev rd wr_0 w')) := fun W hW k => by
    refine (refHas k (nrow_below h hW.2.2.1) hlv).mono ?_
    rintro e w' ⟨rfl, g⟩
    exact ⟨rfl, hW.step g⟩
  obtain ⟨va, vc, hvv, -⟩ := brow_shape h; obtain ⟨vn, hvv', hvn⟩ : ∃ vn, vv = .slice va vn vc ∧ vn = vs.length := ⟨_, hvv, rfl⟩; obtain ⟨ea, en, ec, hev⟩ := grow_shape hE; have hen : en = es.length := by
    obtain ⟨a2, c2, e⟩ := grow_len hE; rw [hev] at e; injection e
  have HEN := hide hen; have HVN := hide hvn; have HLE : Hid (es.length ≤ 100000 ∧ vs.length ≤ 1000000 ∧ 0 ≤ wr_0 ∧ wr_0 ≤ 1000000000) := ⟨hl, hlv, hr0, hr1⟩; have HROW : Hid (∀ W, Below w.heap.size w W → NRow W (.slice va vn vc) vs ∧ GRow 0 W (.slice ea en ec) es) := fun W hW => by rw [← hev, ← hvv']; exact ⟨nrow_below h hW, grow_below hE hW⟩
  have HP := hide (afit_new w vv ev rd wr_0); clear h hE hvv hlv hl hr0 hr1 hen hvn; subst hvv' hev
  go_enter Tryz.func65, Tryz.ntmps65
  go_upto_region 1 with fail
  change Code.wp _ _ _ _ ((w.alloc (oG (.slice va vn vc) (.slice ea en ec) rd wr_0)).alloc oZ); generalize (w.alloc (oG (.slice va vn vc) (.slice ea en ec) rd wr_0)).alloc oZ = wb at *; have HCwb := unhide HP; obtain ⟨c0, c1, c2, c3, cf⟩ := cellsG HCwb.1; clear HCwb
  go_wp2_with fail
  refine (unhide CH _ (unhide HP) _).mono ?_
  rintro e w2 ⟨rfl, H2⟩
  rw [decide_eq_true hv]; clear c0 c1 c2 c3 cf CH HP hv; obtain ⟨b1, hb1⟩ : ∃ b1, b1 = w.heap.size + 1 := ⟨_, rfl⟩; obtain ⟨bb, hbb⟩ : ∃ bb, bb = w.heap.size := ⟨_, rfl⟩; have HW2 : Hid (w2.heap[bb]? = some (oG (.slice va vn vc) (.slice ea en ec) rd wr_0) ∧ w2.heap[b1]? = some oZ ∧ Below bb w w2 ∧ b1 < w2.heap.size) := by
    obtain ⟨k1, k2, k4, k5⟩ := unhide H2; exact ⟨by rw [hbb]; exact k1, by rw [hb1]; exact k2, by rw [hbb]; exact k4, by omega⟩
  have hbe : bb < b1 := by omega
  rw [← hb1, ← hbb]; rw [← hbb] at HROW; have HBB := hide hbb; clear H2 hbb hb1; have HV : Hid (∀ W, Below w2.heap.size w2 W → W.heap[bb]? = some (oG (.slice va vn vc) (.slice ea en ec) rd wr_0) ∧ Below bb w W) := fun W hW => by
    obtain ⟨k1, k2, k4, k5⟩ := unhide HW2; exact ⟨(hW.block _ (by omega)).trans k1, k4.trans (hW.mono (by omega))⟩
  have HCV : Hid (∀ i W, i < vn → Below w2.heap.size w2 W → ∃ g, va = some ⟨g, 0, none⟩ ∧ W.cell? ⟨g, i, none⟩ = some (.int .i64 (vs.getD i 0))) := fun i W hi hW => by
    have hR := (unhide HROW W (unhide HV W hW).2).1; obtain ⟨g, hg⟩ := brow_some hR (by have := unhide HVN; omega)
    subst hg; exact ⟨g, rfl, (nrow_some hR).2.2.2.2 i (by have := unhide HVN; omega)⟩
  have HCE : Hid (∀ i W, i < en → Below w2.heap.size w2 W → ∃ g a, ea = some ⟨g, 0, none⟩ ∧ es[i]? = some a ∧ W.cell? ⟨g, i * 4, none⟩ = some (.int .i64 a.1) ∧ W.cell? ⟨g, i * 4 + 1, none⟩ = some (.int .i64 a.2.1) ∧ W.cell? ⟨g, i * 4 + 2, none⟩ = some (.int .i64 a.2.2.1) ∧ W.cell? ⟨g, i * 4 + 3, none⟩ = some (.int .u32 a.2.2.2)) := fun i W hi hW => by
    have hR := (unhide HROW W (unhide HV W hW).2).2; have hie : i < es.length := by have := unhide HEN; omega
    obtain ⟨g, c, e, hc⟩ := grow_at hR (by omega)
    injection e with e1 e2 e3
    exact ⟨g, _, e1, List.getElem?_eq_getElem hie, hc i _ (List.getElem?_eq_getElem hie)⟩
  go_wp2_with fail
  go_loopw [7, 8] (fun sa si wr => ∃ (i : Nat) (aa : Option Addr) (an ac : Nat), si = .int .i64 i ∧ sa = .slice aa an ac ∧ i ≤ vn ∧ Hid (BRow w2.heap.size wr (.slice aa an ac) ((vs.take i).filter (fun k => !decide (k = v))) ∧ Below w2.heap.size w2 wr)) (fun _ si _ => vn - (intOf si).toNat)
  case atStart => exact ⟨0, none, 0, 0, rfl, rfl, by omega, ⟨rfl, .inl ⟨rfl, rfl⟩⟩, Below.refl _ _⟩
  case round =>
    obtain ⟨i, aa, an, ac, rfl, rfl, hi, hS⟩ := hrel; have c0 := (cellsG (unhide HV wr (unhide hS).2).1).1
    by_cases hlt : i < vn
    · obtain ⟨g, rfl, hc⟩ := unhide HCV i wr hlt (unhide hS).2; have hx : vs[i]? = some (vs.getD i 0) := by have := unhide HVN; rw [List.getElem?_eq_getElem (by omega)]; simp [List.getD, show i < vs.length by omega]
      have hz : (i : Int) < (vn : Int) := by omega
      have hwi : wrap64 ((i : Int) + 1) = ((i + 1 : Nat) : Int) := by have := unhide HLE; have := unhide HVN; unfold wrap64; omega
      have HWI := hide hwi; clear hwi
      by_cases hxv : vs.getD i 0 = v
      · have HG : Hid (BRow w2.heap.size wr (.slice aa an ac) ((vs.take (i + 1)).filter (fun k => !decide (k = v))) ∧ Below w2.heap.size w2 wr) := by
          refine ⟨?_, (unhide hS).2⟩; rw [take_succ_of hx, filt_snoc_no (p := fun k => !decide (k = v)) _ (show (!decide (vs.getD i 0 = v)) = false by rw [decide_eq_true hxv]; rfl)]
          exact (unhide hS).1
        obtain ⟨x, hxx⟩ : ∃ x, x = vs.getD i 0 := ⟨_, rfl⟩; rw [← hxx] at hc hxv; clear hx hxx; subst hxv
        go_wp2_with fail
        (try rw [unhide HWI])
        exact ⟨⟨i + 1, aa, an, ac, rfl, rfl, by omega, HG⟩, by simp [intOf]; omega⟩
      · obtain ⟨a', n', c', w', hr, g1, g2⟩ := run_appI (vs.getD i 0) (unhide hS).1 (unhide hS).2.size (by have := unhide HLE; have h1 := List.length_filter_le (fun k => !decide (k = v)) (vs.take i); have := List.length_take_le i vs; have := unhide HVN; omega)
        have HG : Hid (BRow w2.heap.size w' (.slice a' n' c') ((vs.take (i + 1)).filter (fun k => !decide (k = v))) ∧ Below w2.heap.size w2 w') := by
          refine ⟨?_, (unhide hS).2.trans g2⟩; rw [take_succ_of hx, filt_snoc_yes (p := fun k => !decide (k = v)) _ (show (!decide (vs.getD i 0 = v)) = true by rw [decide_eq_false hxv]; rfl)]
          exact g1
        have HR := hide hr; generalize vs.getD i 0 = x at *; clear hr g1 g2 hx
        go_wp2_with (at_builtin; refine Lib.wpList_append_run _ rfl _ _ 25 25 rfl _ _ rfl rfl _ _ (unhide HR _) ?_)
        (try rw [unhide HWI])
        exact ⟨⟨i + 1, a', n', c', rfl, rfl, by omega, HG⟩, by simp [intOf]; omega⟩
    · have hz : ¬ (i : Int) < (vn : Int) := by omega
      have HS : Hid (BRow w2.heap.size wr (.slice aa an ac) (vs.filter (fun k => !decide (k = v))) ∧ Below w2.heap.size w2 wr) := by
        have := unhide hS
        rwa [List.take_of_length_le (by have := unhide HVN; omega)] at this
      clear hS hi hlt HCV
      go_wp2_with fail
      clear hz c0
      rename World => w3
      go_loopw [9, 10, 11] (fun sk sg si wr => ∃ (i : Nat) (ka ga : Option Addr) (kn kc gn gc : Nat), si = .int .i64 i ∧ sk = .slice ka kn kc ∧ sg = .slice ga gn gc ∧ i ≤ en ∧ Hid (GRow w3.heap.size wr (.slice ka kn kc) ((es.take i).filter (fun x => !hits v x)) ∧ GRow w3.heap.size wr (.slice ga gn gc) ((es.take i).filter (hits v)) ∧ (∀ b, (Value.slice ka kn kc).ownBlock = some b → (Value.slice ga gn gc).ownBlock ≠ some b) ∧ Below w3.heap.size w3 wr)) (fun _ _ si _ => en - (intOf si).toNat)
      case atStart => exact ⟨0, none, none, 0, 0, 0, 0, rfl, rfl, rfl, by omega, ⟨rfl, .inl ⟨rfl, rfl⟩⟩, ⟨rfl, .inl ⟨rfl, rfl⟩⟩, (fun b hb => by cases hb), Below.refl _ _⟩
      case round =>
        obtain ⟨i, ka, ga, kn, kc, gn, gc, rfl, rfl, rfl, hi, hS⟩ := hrel; have hBw : Below w2.heap.size w2 wr := (unhide HS).2.trans ((unhide hS).2.2.2.mono (unhide HS).2.size); have HBW := hide hBw; have c1 := (cellsG (unhide HV wr hBw).1).2.1
        by_cases hlt : i < en
        · obtain ⟨g, a, rfl, hx, y0, y1, y2, y3⟩ := unhide HCE i wr hlt hBw; have hz : (i : Int) < (en : Int) := by omega
          have hwi : wrap64 ((i : Int) + 1) = ((i + 1 : Nat) : Int) := by have := unhide HLE; have := unhide HEN; unfold wrap64; omega
          have HWI := hide hwi; clear hwi hBw
          by_cases hh : hits v a = true
          · obtain ⟨a', n', c', w', hr, g1, g2, g3, g4⟩ := dropV_app a (unhide hS).2.1 (unhide hS).1 (fun b h1 h2 => (unhide hS).2.2.1 b h2 h1) (unhide hS).2.2.2.size (by have := (unhide HLE).1; have h1 := List.length_filter_le (hits v) (es.take i); have := List.length_take_le i es; have := unhide HEN; omega)
            have HG : Hid (GRow w3.heap.size w' (.slice ka kn kc) ((es.take (i + 1)).filter (fun x => !hits v x)) ∧ GRow w3.heap.size w' (.slice a' n' c') ((es.take (i + 1)).filter (hits v)) ∧ (∀ b, (Value.slice ka kn kc).ownBlock = some b → (Value.slice a' n' c').ownBlock ≠ some b) ∧ Below w3.heap.size w3 w') := by
              refine ⟨?_, ?_, fun b h1 h2 => g3 b h2 h1, (unhide hS).2.2.2.trans g4⟩
              · rw [take_succ_of hx, filt_snoc_no (p := fun x => !hits v x) _ (show (!hits v a) = false by rw [hh]; rfl)]; exact g2
              · rw [take_succ_of hx, filt_snoc_yes _ hh]; exact g1
            unfold oE at hr; have HR := hide hr; have hor : a.2.1 = v ∨ (¬ a.2.1 = v ∧ a.2.2.1 = v) := by
              unfold hits at hh; simp only [Bool.or_eq_true, decide_eq_true_eq] at hh
              by_cases e : a.2.1 = v
              · exact .inl e
              · exact .inr ⟨e, hh.resolve_left e⟩
            clear hr g1 g2 g3 g4 hx hS hh; obtain ⟨q1, hq1⟩ : ∃ q1, q1 = a.2.1 := ⟨_, rfl⟩; obtain ⟨q2, hq2⟩ : ∃ q2, q2 = a.2.2.1 := ⟨_, rfl⟩; obtain ⟨q0, hq0⟩ : ∃ q0, q0 = a.1 := ⟨_, rfl⟩; obtain ⟨q3, hq3⟩ : ∃ q3, q3 = a.2.2.2 := ⟨_, rfl⟩; rw [← hq1] at hor HR y1; rw [← hq2] at hor HR y2; rw [← hq0] at HR y0; rw [← hq3] at HR y3; clear hq0 hq1 hq2 hq3; rcases hor with h1 | ⟨h1, h2⟩
            · subst h1
              go_wp2_with (at_builtin; refine Lib.wpList_append_run _ rfl _ _ 26 26 rfl _ _ rfl rfl _ _ (unhide HR _) ?_)
              (try rw [unhide HWI])
              exact ⟨⟨i + 1, ka, a', kn, kc, n', c', rfl, rfl, rfl, by omega, HG⟩, by simp [intOf]; omega⟩
            · subst h2
              go_wp2_with (at_builtin; refine Lib.wpList_append_run _ rfl _ _ 26 26 rfl _ _ rfl rfl _ _ (unhide HR _) ?_)
              (try rw [unhide HWI])
              exact ⟨⟨i + 1, ka, a', kn, kc, n', c', rfl, rfl, rfl, by omega, HG⟩, by simp [intOf]; omega⟩
          · have hh' : hits v a = false := by simpa using hh
            obtain ⟨a', n', c', w', hr, g1, g2, g3, g4⟩ := dropV_app a (unhide hS).1 (unhide hS).2.1 (unhide hS).2.2.1 (unhide hS).2.2.2.size (by have := (unhide HLE).1; have h1 := List.length_filter_le (fun x => !hits v x) (es.take i); have := List.length_take_le i es; have := unhide HEN; omega)
            have HG : Hid (GRow w3.heap.size w' (.slice a' n' c') ((es.take (i + 1)).filter (fun x => !hits v x)) ∧ GRow w3.heap.size w' (.slice ga gn gc) ((es.take (i + 1)).filter (hits v)) ∧ (∀ b, (Value.slice a' n' c').ownBlock = some b → (Value.slice ga gn gc).ownBlock ≠ some b) ∧ Below w3.heap.size w3 w') := by
              refine ⟨?_, ?_, g3, (unhide hS).2.2.2.trans g4⟩
              · rw [take_succ_of hx, filt_snoc_yes (p := fun x => !hits v x) _ (show (!hits v a) = true by rw [hh']; rfl)]; exact g1
              · rw [take_succ_of hx, filt_snoc_no _ hh']; exact g2
            unfold oE at hr; have HR := hide hr; have hor : ¬ a.2.1 = v ∧ ¬ a.2.2.1 = v := by
              unfold hits at hh'; simp only [Bool.or_eq_false_iff, decide_eq_false_iff_not] at hh'; exact hh'
            clear hr g1 g2 g3 g4 hx hS hh hh'; obtain ⟨q1, hq1⟩ : ∃ q1, q1 = a.2.1 := ⟨_, rfl⟩; obtain ⟨q2, hq2⟩ : ∃ q2, q2 = a.2.2.1 := ⟨_, rfl⟩; obtain ⟨q0, hq0⟩ : ∃ q0, q0 = a.1 := ⟨_, rfl⟩; obtain ⟨q3, hq3⟩ : ∃ q3, q3 = a.2.2.2 := ⟨_, rfl⟩; rw [← hq1] at hor HR y1; rw [← hq2] at hor HR y2; rw [← hq0] at HR y0; rw [← hq3] at HR y3; clear hq0 hq1 hq2 hq3; obtain ⟨h1, h2⟩ := hor; have e1 : (q1 == v) = false := by simpa using h1
            have e2 : (q2 == v) = false := by simpa using h2
            go_wp2_with (at_builtin; refine Lib.wpList_append_run _ rfl _ _ 26 26 rfl _ _ rfl rfl _ _ (unhide HR _) ?_)
            (try rw [unhide HWI])
            exact ⟨⟨i + 1, a', ga, n', c', gn, gc, rfl, rfl, rfl, by omega, HG⟩, by simp [intOf]; omega⟩
        · have hz : ¬ (i : Int) < (en : Int) := by omega
          have HS2 : Hid (GRow w3.heap.size wr (.slice ka kn kc) (es.filter (fun x => !hits v x)) ∧ GRow w3.heap.size wr (.slice ga gn gc) (es.filter (hits v)) ∧ Below w3.heap.size w3 wr) := by
            have := unhide hS; rw [List.take_of_length_le (by have := unhide HEN; omega)] at this
            exact ⟨this.1, this.2.1, this.2.2.2⟩
          have hgn : gn = (es.filter (hits v)).length := by
            obtain ⟨a2, c2, e⟩ := grow_len (unhide HS2).2.1; injection e
          have HFIN : Hid ((wr.cell? ⟨bb, 0, none⟩ = some (.slice va vn vc) ∧ wr.cell? ⟨bb, 1, none⟩ = some (.slice ea en ec) ∧ wr.cell? ⟨bb, 3, none⟩ = some (.int .i64 wr_0) ∧ ∀ o, wr.frozen? ⟨bb, o, none⟩ = false) ∧
              ∀ w8, w8 = ((wr.setCell ⟨bb, 0, none⟩ (.slice aa an ac)).setCell ⟨bb, 1, none⟩ (.slice ka kn kc)).setCell ⟨bb, 3, none⟩ (.int .i64 (wr_0 + (gn : Int))) → w8.heap[b1]? = some oZ ∧ w8.heap[bb]? = some (oG (.slice aa an ac) (.slice ka kn kc) rd (wr_0 + (gn : Int))) ∧
                ∀ x0 x1 x2 x3, NRow (set4 w8 b1 x0 x1 x2 x3) (.slice aa an ac) (vs.filter (fun k => !decide (k = v))) ∧ GRow 0 (set4 w8 b1 x0 x1 x2 x3) (.slice ka kn kc) (es.filter (fun x => !hits v x)) ∧ GRow 0 (set4 w8 b1 x0 x1 x2 x3) (.slice ga gn gc) (es.filter (hits v)) ∧ Below bb w (set4 w8 b1 x0 x1 x2 x3) ∧ (∀ b, (Value.slice aa an ac).ownBlock = some b → bb ≤ b) ∧ (∀ b, (Value.slice ka kn kc).ownBlock = some b → bb ≤ b) ∧ ∀ b, (Value.slice ga gn gc).ownBlock = some b → bb ≤ b) := by
            obtain ⟨k1, k2, k4, k5⟩ := unhide HW2; have hs := (unhide HS).2.size; have up : ∀ {v : Value} {gs : List EdgeV}, GRow w3.heap.size wr v gs → GRow w2.heap.size wr v gs := fun h => ⟨h.1, h.2.imp id (fun ⟨g, cap, cur, e, hb, r⟩ => ⟨g, cap, cur, e, by omega, r⟩)⟩
            exact dropV_fin k1 k2 k4 k5 hbe (brow_kept (unhide HS).1 (fun b hb => (unhide HS2).2.2.block b ((unhide HS).1.lt b hb).2)) (up (unhide HS2).1) (up (unhide HS2).2.1) (unhide HBW) _
          have hgz : IntKind.i64.wrap (wr_0 + (gn : Int)) = wr_0 + (gn : Int) := by
            have := unhide HLE; have h1 := List.length_filter_le (hits v) es; rw [IntKind.wrap_i64]; omega
          have HGN := hide hgn; obtain ⟨⟨k0, k1, k3, kf⟩, hF8⟩ := unhide HFIN; have HF8 := hide hF8; clear hS HS2 HS HFIN hF8 hgn hi hlt hBw HBW HV HCE HW2 HROW c1
          go_upto_region 18 with fail
          obtain ⟨q1, q2, q3⟩ := unhide HF8 _ rfl; have HQ3 := hide q3; have HT := hide q1; clear HF8 q3 k0 k1 k3 kf; generalize ((wr.setCell ⟨bb, 0, none⟩ (.slice aa an ac)).setCell ⟨bb, 1, none⟩ (.slice ka kn kc)).setCell ⟨bb, 3, none⟩ (.int .i64 (wr_0 + (gn : Int))) = w8 at *; obtain ⟨c0', c1', c2', c3', -⟩ := cellsG q2; obtain ⟨d0', d1', d2', d3', df'⟩ := cellsG (vv := .slice none 0 0) (ev := .slice none 0 0) (rd := 0) (wr := 0) q1; have hne : ¬ bb = b1 := by omega
          have hne2 : ¬ b1 = bb := by omega
          clear q1 q2
          go_wp2_with fail
          (try simp only [Exit.inBlock, Exit.then])
          change bodyPost _ _ _ _ _ (set4 w8 b1 _ _ _ _); refine bodyPost_ret (results_cell_tmp_tmp rfl _ _ _ ⟨b1, 0, none⟩ _ rfl (loadG _ _ _ _ _ _ (set4G_at (unhide HT) _ _ _ _))) rfl ?_; obtain ⟨z1, z2, z3, z4, z5, z6, z7⟩ := unhide HQ3 (.slice aa an ac) (.slice ka kn kc) (.int .i64 rd) (.int .i64 (wr_0 + (gn : Int))); exact ⟨_, _, _, by rw [← unhide HGN]; rfl, z1, z2, z3, by rw [← unhide HBB]; exact z4, Apt.new z5 (by have := unhide HBB; omega), Apt.new z6 (by have := unhide HBB; omega), fun b hb => by have := z7 b hb; have := unhide HBB; omega⟩
end Go.Proofs.YtagibmgbjhemkaaGreat
