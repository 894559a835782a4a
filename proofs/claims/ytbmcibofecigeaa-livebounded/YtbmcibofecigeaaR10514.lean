/- The reference of layer 10: DropVertex, bound. -/
import Derived.Test.YtbmcibofecigeaaR1014
namespace Go.Proofs.Ytbmcibofecigeaa

section
open Go.RowKit Go.Maps
theorem addr_off (b off j : Nat) : (⟨b, off, none⟩ : Addr).add j = ⟨b, off + j, none⟩ := by
  unfold Addr.add
  split <;> simp_all
theorem erow_zero {B : Nat} {w : World} {v : Value} {l : List EdV} (h : GRow B w v l) : GRow 0 w v l := ⟨h.1, h.2.imp id (fun ⟨g, cap, cur, e, _, r⟩ => ⟨g, cap, cur, e, Nat.zero_le _, r⟩)⟩
theorem run_append_zeroI (w : World) (base base2 : Option Addr) (l c c2 : Nat) (hlc : l ≤ c) (ty : TypeId) : (Builtin.append_ #[25, 25] ty #[.slice base l c, .slice base2 0 c2]).run Try.prog w = .ok (.slice base l c) w := by
  obtain ⟨i, hi, hz, hs, hb⟩ := info_parts info3
  have hl : ∀ (x : Addr), (loadCells x 0).run Try.prog w = .ok #[] w := fun x => by simpa using run_loadCells_list (P := Try.prog) w x [] (by simp)
  cases base <;> cases base2 <;> simp [Builtin.append_, run_underlying Try.underlying25, sizeOf, typeInfo, hi, Builtin.lenOf, Builtin.firstCells, hlc, storeCells, hl]
theorem run_appT10 {B : Nat} {w : World} (hB : B ≤ w.heap.size) {v : Value} {a ks : List Int} {g c i : Nat} (h1 : BRow B w v a) (h2 : NRow w (.slice (some ⟨g, 0, none⟩) ks.length c) ks) (hi : i < ks.length) (hl : a.length + ks.length ≤ 4000000) (c2 : Nat) :
    ∃ v' w', (∀ ty, (Builtin.append_ #[25, 25] ty #[v, .slice (some ⟨g, i, none⟩) (ks.length - i) c2]).run Try.prog w = .ok v' w') ∧ BRow B w' v' (a ++ ks.drop i) ∧ w.grownBy w' v.ownBlock := by
  obtain ⟨i0, hi0, hz, hs, hb⟩ := info_parts info3
  obtain ⟨v', w', hr, g1, g2, -, -⟩ := run_append_own_at (P := Try.prog) w B 25 0 3 i0 _ 1 8 Try.underlying25 hi0 hz hs hb rfl (by omega) v a.length (a.map (Value.int .i64)) h1 ⟨g, i, none⟩ (ks.length - i) c2 ((ks.drop i).map (Value.int .i64)) (by simp)
    (fun j u hj => by
      have hj' : j < ks.length - i := by have := (List.getElem?_eq_some_iff.1 hj).1; simpa using this
      have := (nrow_some h2).2.2.2.2 (i + j) (by omega)
      rw [addr_off, this]
      rw [List.getElem?_map, List.getElem?_drop, List.getElem?_eq_getElem (by omega)] at hj
      simpa [List.getD, show i + j < ks.length by omega] using hj) (ints_one _) (by unfold maxLen; omega) (by omega) hB
  refine ⟨v', w', fun ty => hr, ?_, g2⟩
  have e1 : a.map (Value.int .i64) ++ (ks.drop i).map (Value.int .i64) = (a ++ ks.drop i).map (Value.int .i64) := by simp
  have e2 : a.length + (ks.length - i) = (a ++ ks.drop i).length := by simp
  rw [e1, e2] at g1
  exact g1
theorem brow_nil_new (w : World) : BRow w.heap.size (w.alloc (.cells #[] 3)) (.slice (some ⟨w.heap.size, 0, none⟩) 0 0) [] :=
  ⟨rfl, .inr ⟨w.heap.size, 0, #[], rfl, Nat.le_refl _, heap_alloc_new w _, Nat.le_refl _, by unfold maxLen; omega, rfl, rfl⟩⟩
theorem grow_nil_new (w : World) : GRow w.heap.size (w.alloc (.cells #[] 42)) (.slice (some ⟨w.heap.size, 0, none⟩) 0 0) [] :=
  ⟨rfl, .inr ⟨w.heap.size, 0, #[], rfl, Nat.le_refl _, heap_alloc_new w _, Nat.le_refl _, by unfold maxLen; omega, rfl, rfl⟩⟩
theorem grown_below {w w' : World} {v : Value} {B : Nat} (h : w.grownBy w' v.ownBlock) (hB : B ≤ w.heap.size) (hv : ∀ b, v.ownBlock = some b → B ≤ b) : Below B w w' :=
  ⟨h.os, h.tape, h.output, h.size, fun k hk => h.block k (by omega) (fun e => by have := hv k e.symm; omega)⟩
theorem addV10_mem {w2 : World} {vv : Value} {vs : List Int} (hR : NRow w2 vv vs) (hl : vs.length ≤ 100000) (x : Int) :
    ∃ a4 n4 c4 w4, (∀ ty, (Builtin.append_ #[25, 25] ty #[.slice (some ⟨w2.heap.size, 0, none⟩) 0 0, vv]).run Try.prog (w2.alloc (.cells #[] 3)) = .ok (.slice a4 n4 c4) w4) ∧ Below w2.heap.size w2 w4 ∧
      ∃ a5 n5 c5 w5, (∀ ty, (Builtin.append_ #[25, 25] ty #[.slice a4 n4 c4, .slice (some ⟨w4.heap.size, 0, none⟩) 1 1]).run Try.prog (w4.alloc (.cells #[.int .i64 x] 3)) = .ok (.slice a5 n5 c5) w5) ∧ BRow w2.heap.size w5 (.slice a5 n5 c5) (vs ++ [x]) ∧ Below w2.heap.size w2 w5 := by
  have hb1 := below_new w2 (.cells #[] 3)
  have h0 := brow_nil_new w2
  obtain ⟨v4, w4, r4, g4, gg4⟩ := run_appN hb1.size h0 (nrow_below hR hb1) (by simp; omega)
  obtain ⟨a4, c4, rfl, -⟩ := brow_shape g4
  have hB4 : Below w2.heap.size w2 w4 := hb1.trans (grown_below gg4 hb1.size (fun b e => (h0.lt b e).1))
  rw [List.nil_append] at g4 r4
  obtain ⟨a5, n5, c5, w5, r5, g5, hB5⟩ := run_appI x g4 hB4.size (by omega)
  exact ⟨a4, _, c4, w4, r4, hB4, a5, n5, c5, w5, r5, g5, hB4.trans hB5⟩
theorem dropV10_mem {w2 : World} {g vc i : Nat} {vs : List Int} (hR : NRow w2 (.slice (some ⟨g, 0, none⟩) vs.length vc) vs) (hi : i < vs.length) (hl : vs.length ≤ 100000) :
    ∃ a5 n5 c5 w5, (∀ ty, (Builtin.append_ #[25, 25] ty #[.slice (some ⟨w2.heap.size, 0, none⟩) 0 0, .slice (some ⟨g, 0, none⟩) i vc]).run Try.prog (w2.alloc (.cells #[] 3)) = .ok (.slice a5 n5 c5) w5) ∧ Below w2.heap.size w2 w5 ∧
      ∃ a6 n6 c6 w6, (∀ b c2 ty, (b = some ⟨g, i + 1, none⟩ ∧ c2 = vc - (i + 1) ∨ vs.length = i + 1) → (Builtin.append_ #[25, 25] ty #[.slice a5 n5 c5, .slice b (vs.length - (i + 1)) c2]).run Try.prog w5 = .ok (.slice a6 n6 c6) w6) ∧ BRow w2.heap.size w6 (.slice a6 n6 c6) (vs.take i ++ vs.drop (i + 1)) ∧ Below w2.heap.size w2 w6 := by
  have hb1 := below_new w2 (.cells #[] 3)
  have h0 := brow_nil_new w2
  have hR1 := nrow_below hR hb1
  have ht : NRow (w2.alloc (.cells #[] 3)) (.slice (some ⟨g, 0, none⟩) i vc) (vs.take i) := brow_take hR1 (by omega)
  obtain ⟨v5, w5, r5, g5, gg5⟩ := run_appN hb1.size h0 ht (by simp; omega)
  obtain ⟨a5, c5, rfl, hc5⟩ := brow_shape g5
  have hB5 : Below w2.heap.size w2 w5 := hb1.trans (grown_below gg5 hb1.size (fun b e => (h0.lt b e).1))
  rw [List.nil_append] at g5 r5 hc5
  refine ⟨a5, _, c5, w5, r5, hB5, ?_⟩
  by_cases hz : vs.length = i + 1
  · refine ⟨a5, (vs.take i).length, c5, w5, fun b c2 ty _ => ?_, ?_, hB5⟩
    · rw [show vs.length - (i + 1) = 0 by omega]
      exact run_append_zeroI w5 a5 b _ c5 _ hc5 ty
    · rw [List.drop_eq_nil_of_le (by omega : vs.length ≤ i + 1), List.append_nil]; exact g5
  · obtain ⟨v6, w6, r6, g6, gg6⟩ := run_appT10 (i := i + 1) hB5.size g5 (nrow_below hR hB5) (by omega) (by rw [List.length_take]; omega) (vc - (i + 1))
    obtain ⟨a6, c6, rfl, -⟩ := brow_shape g6
    refine ⟨a6, _, c6, w6, fun b c2 ty hb => ?_, g6, hB5.trans (grown_below gg6 hB5.size (fun b e => (g5.lt b e).1))⟩
    rcases hb with ⟨rfl, rfl⟩ | e
    · exact r6 ty
    · exact absurd e hz
/-- The list of vertices stored anew, and the graph answered. -/
theorem rw_setV {w W w6 : World} {bb b1 : Nat} {vv ev : Value} {rd wr : Int} (h : RW w bb b1 vv ev rd wr W) (hb : Below W.heap.size W w6) {a6 : Option Addr} {n6 c6 : Nat} {fs : List Int} {es : List EdgeV} (g6 : BRow W.heap.size w6 (.slice a6 n6 c6) fs) (hF : ∀ W, Below bb w W → GRow 0 W ev es) :
    w6.heap[bb]? = some (oG vv ev rd wr) ∧ (w6.setCell ⟨bb, 0, none⟩ (.slice a6 n6 c6)).heap[bb]? = some (oG (.slice a6 n6 c6) ev rd wr) ∧ (w6.setCell ⟨bb, 0, none⟩ (.slice a6 n6 c6)).heap[b1]? = some oZ ∧
    ∀ x0 x1 x2 x3, NRow (set4 (w6.setCell ⟨bb, 0, none⟩ (.slice a6 n6 c6)) b1 x0 x1 x2 x3) (.slice a6 n6 c6) fs ∧ GRow 0 (set4 (w6.setCell ⟨bb, 0, none⟩ (.slice a6 n6 c6)) b1 x0 x1 x2 x3) ev es ∧ Below bb w (set4 (w6.setCell ⟨bb, 0, none⟩ (.slice a6 n6 c6)) b1 x0 x1 x2 x3) ∧ ∀ b, (Value.slice a6 n6 c6).ownBlock = some b → bb ≤ b := by
  have l1 := heap_lt h.res
  have l2 := heap_lt h.box
  have hlt := h.lt
  have hbx := (hb.block bb l2).trans h.box
  refine ⟨hbx, by rw [heap_setCell_same _ _ _ _ _ _ hbx]; rfl, (heap_setCell_other _ _ _ _ (by show b1 ≠ bb; omega)).trans ((hb.block b1 l1).trans h.res), fun x0 x1 x2 x3 => ?_⟩
  have hBw : Below bb w (set4 (w6.setCell ⟨bb, 0, none⟩ (.slice a6 n6 c6)) b1 x0 x1 x2 x3) := set4_below (((h.low.trans (hb.mono (by omega))).setCell (p := ⟨bb, 0, none⟩) (Nat.le_refl _) _)) (by omega) _ _ _ _
  refine ⟨nrow_kept (brow_at0 g6) (fun k hk => ?_), hF _ hBw, hBw, fun b e => by have := (g6.lt b e).1; omega⟩
  have hk2 := (g6.lt k hk).1
  rw [set4_other (by omega), heap_setCell_other _ _ _ _ (by show k ≠ bb; omega)]
theorem rw_setE {w W w6 : World} {bb b1 : Nat} {vv ev : Value} {rd wr : Int} (h : RW w bb b1 vv ev rd wr W) (hb : Below W.heap.size W w6) {a6 : Option Addr} {n6 c6 : Nat} {fs : List EdgeV} {vs : List Int} (g6 : GRow W.heap.size w6 (.slice a6 n6 c6) fs) (hF : ∀ W, Below bb w W → NRow W vv vs) :
    w6.heap[bb]? = some (oG vv ev rd wr) ∧ (w6.setCell ⟨bb, 1, none⟩ (.slice a6 n6 c6)).heap[bb]? = some (oG vv (.slice a6 n6 c6) rd wr) ∧ (w6.setCell ⟨bb, 1, none⟩ (.slice a6 n6 c6)).heap[b1]? = some oZ ∧
    ∀ x0 x1 x2 x3, NRow (set4 (w6.setCell ⟨bb, 1, none⟩ (.slice a6 n6 c6)) b1 x0 x1 x2 x3) vv vs ∧ GRow 0 (set4 (w6.setCell ⟨bb, 1, none⟩ (.slice a6 n6 c6)) b1 x0 x1 x2 x3) (.slice a6 n6 c6) fs ∧ Below bb w (set4 (w6.setCell ⟨bb, 1, none⟩ (.slice a6 n6 c6)) b1 x0 x1 x2 x3) ∧ ∀ b, (Value.slice a6 n6 c6).ownBlock = some b → bb ≤ b := by
  have l1 := heap_lt h.res
  have l2 := heap_lt h.box
  have hlt := h.lt
  have hbx := (hb.block bb l2).trans h.box
  refine ⟨hbx, by rw [heap_setCell_same _ _ _ _ _ _ hbx]; rfl, (heap_setCell_other _ _ _ _ (by show b1 ≠ bb; omega)).trans ((hb.block b1 l1).trans h.res), fun x0 x1 x2 x3 => ?_⟩
  have hBw : Below bb w (set4 (w6.setCell ⟨bb, 1, none⟩ (.slice a6 n6 c6)) b1 x0 x1 x2 x3) := set4_below (((h.low.trans (hb.mono (by omega))).setCell (p := ⟨bb, 1, none⟩) (Nat.le_refl _) _)) (by omega) _ _ _ _
  refine ⟨hF _ hBw, erow_zero (show ERow W.heap.size _ (.slice a6 n6 c6) fs from grow_kept g6 (fun k hk => ?_)), hBw, fun b e => by have := (g6.lt b e).1; omega⟩
  have hk2 := (g6.lt k hk).1
  rw [set4_other (by omega), heap_setCell_other _ _ _ _ (by show k ≠ bb; omega)]
end

section
open Go.RowKit Go.Maps
set_option maxHeartbeats 4000000 in
set_option maxRecDepth 100000 in
theorem refAVNew {w : World} {vv ev : Value} {rd wr_0 : Int} {vs : List Int} {es : List EdgeV} {v : Int} (h : NRow w vv vs) (hE : GRow 0 w ev es) (hs : vs.Pairwise (· < ·)) (hl : vs.length ≤ 90000) (hl2 : es.length ≤ 100000) (hv : v ∉ vs) :
    Calls Try.prog 18 #[.agg #[vv, ev, .int .i64 rd, .int .i64 wr_0], .int .i64 v] w fun e w' => Hid (∃ vs', vs'.Perm (vs ++ [v]) ∧ vs'.Pairwise (· ≤ ·) ∧ AnsX w vv ev vs' es rd wr_0 (.bool true) e w') := by
  obtain ⟨t1, t2, t3, t4⟩ := two_boxes w (oG vv ev rd wr_0)
  obtain ⟨c0, c1, c2, c3, cf⟩ := cellsG t1
  obtain ⟨d0, d1, d2, d3, df⟩ := cellsG (b := w.heap.size + 1) (vv := .slice none 0 0) (ev := .slice none 0 0) (rd := 0) (wr := 0) t2
  have HF : Hid (∀ W, Below w.heap.size w W → NRow W vv vs ∧ GRow 0 W ev es) := fun W hW => ⟨nrow_below h hW, grow_below hE hW⟩
  have HT0 : Hid (RW w w.heap.size (w.heap.size + 1) vv ev rd wr_0 ((w.alloc (oG vv ev rd wr_0)).alloc oZ)) := ⟨t2, t1, t3, by omega⟩
  obtain ⟨va, vc, hvv, -⟩ := brow_shape h
  obtain ⟨vn, hvv', hvn⟩ : ∃ vn, vv = .slice va vn vc ∧ vn = vs.length := ⟨_, hvv, rfl⟩
  obtain ⟨ea, en, ec, hev⟩ := grow_shape hE
  have hne : ¬ w.heap.size = w.heap.size + 1 := by omega
  have hne2 : ¬ w.heap.size + 1 = w.heap.size := by omega
  have HN : Hid (vn = vs.length ∧ vs.length ≤ 90000 ∧ es.length ≤ 100000 ∧ vs.Pairwise (· < ·)) := ⟨hvn, hl, hl2, hs⟩
  have CP : Hid (∀ W, RW w w.heap.size (w.heap.size + 1) vv ev rd wr_0 W → Calls Try.prog 27 #[.agg #[vv, ev, .int .i64 rd, .int .i64 wr_0], .int .i64 v] W fun e w2 => e = .returned (.int .i64 (-1)) ∧ Hid (Below W.heap.size W w2)) := fun W hW => (placeR (x := v) (nrow_below h hW.low) hs (by omega)).mono fun e w2 hh => ⟨by rw [hh.1]; rw [place_out hv], hh.2⟩
  replace CP := hide (unhide CP _ (unhide HT0))
  have z1 : ¬ (0 : Int) ≤ -1 := by omega
  clear hv
  clear t1 t2 t3 t4 h hE hvv hvn hl hl2 hs
  subst hvv' hev
  go_enter Try.func18, Try.ntmps18
  go_upto_region 1 with fail
  change Code.wp _ _ _ _ ((w.alloc (oG (.slice va vn vc) (.slice ea en ec) rd wr_0)).alloc oZ)
  generalize (w.alloc (oG (.slice va vn vc) (.slice ea en ec) rd wr_0)).alloc oZ = wb at *
  generalize hb1 : w.heap.size + 1 = b1 at *
  generalize hbb : w.heap.size = bb at *
  go_wp2_with fail
  refine (unhide CP).mono ?_
  rintro e w2 ⟨rfl, hR1⟩
  have HT1 : Hid (RW w bb b1 (.slice va vn vc) (.slice ea en ec) rd wr_0 w2) := (unhide HT0).next (unhide hR1)
  clear c0 c1 c2 c3 cf d0 d1 d2 d3 df CP hR1
  obtain ⟨c0, c1, c2, c3, cf⟩ := cellsG (unhide HT1).box
  obtain ⟨d0, d1, d2, d3, df⟩ := cellsG (vv := .slice none 0 0) (ev := .slice none 0 0) (rd := 0) (wr := 0) (unhide HT1).res
  have hR2 := (unhide HF w2 (unhide HT1).low).1
  obtain ⟨a4, n4, c4, w4, r4, hB4, a5, n5, c5, w5, r5, g5, hB5⟩ := addV10_mem hR2 (by have := (unhide HN).2.1; omega) v
  have hbx := heap_lt (unhide HT1).box
  have l1 : (w2.alloc (.cells #[] 3)).cell? ⟨bb, 0, none⟩ = some (.slice va vn vc) := (cell_of_heap (x := ⟨bb, 0, none⟩) (heap_alloc_old w2 _ hbx)).trans c0
  have CS := hide (sortedS (brow_at0 g5) (by have := (unhide HN).2.1; simp; omega))
  have HR4 := hide r4
  have HR5 := hide r5
  have HM : Hid (BRow w2.heap.size w5 (.slice a5 n5 c5) (vs ++ [v]) ∧ Below w2.heap.size w2 w5) := ⟨g5, hB5⟩
  clear hR2 r4 r5 g5 hB4 hB5 hbx c0 c1 c2 c3 cf d0 d1 d2 d3 df
  go_wp2_with (at_builtin; first | (have h4 := HR4; clear HR4; refine Lib.wpList_append_run _ rfl _ _ 25 25 rfl _ _ rfl rfl _ _ (unhide h4 _) ?_) | (have h5 := HR5; clear HR5; refine Lib.wpList_append_run _ rfl _ _ 25 25 rfl _ _ rfl rfl _ _ (unhide h5 _) ?_))
  refine (unhide CS).mono ?_
  intro e w6 hh
  obtain ⟨a6, n6, c6, ys, rfl, y1, y2, y3, y4⟩ := unhide hh
  clear CS hh l1
  have HP : Hid (ys.Perm (vs ++ [v]) ∧ ys.Pairwise (· ≤ ·)) := ⟨y1, y2⟩
  obtain ⟨f1, f2, f3, f4⟩ := rw_setV (unhide HT1) ((unhide HM).2.trans (y4.mono (unhide HM).2.size)) (brow_low y3 (unhide HM).2.size) (fun W hW => (unhide HF W hW).2)
  have HFIN := hide (And.intro f2 (And.intro f3 f4))
  obtain ⟨c0, c1, c2, c3, cf⟩ := cellsG f1
  clear y1 y2 y3 y4 f1 f2 f3 f4 HM
  go_upto_region 4 with fail
  clear c0 c1 c2 c3 cf
  obtain ⟨q2, q3, q4⟩ := unhide HFIN
  have HQ4 := hide q4
  clear q4 HFIN
  generalize w6.setCell ⟨bb, 0, none⟩ (.slice a6 n6 c6) = w8 at *
  obtain ⟨c0, c1, c2, c3, cf⟩ := cellsG q2
  obtain ⟨d0, d1, d2, d3, df⟩ := cellsG (vv := .slice none 0 0) (ev := .slice none 0 0) (rd := 0) (wr := 0) q3
  have HT9 := hide q3
  clear q2 q3
  go_wp2_with fail
  (try simp only [Exit.inBlock, Exit.then])
  change bodyPost _ _ _ _ _ (set4 w8 b1 _ _ _ _)
  refine bodyPost_ret (resG rfl _ _ b1 _ _ _ _ rfl (set4G_at (unhide HT9) _ _ _ _)) rfl ?_
  obtain ⟨r1, r2, r3, r4⟩ := unhide HQ4 (.slice a6 n6 c6) (.slice ea en ec) (.int .i64 rd) (.int .i64 wr_0)
  exact ⟨ys, (unhide HP).1, (unhide HP).2, _, _, rfl, r1, r2, by first | exact r3 | (rw [hbb]; exact r3), Apt.new r4 (by omega), Apt.refl _ _⟩
end

section
open Go.RowKit Go.Maps
set_option maxHeartbeats 4000000 in
set_option maxRecDepth 100000 in
theorem refDVBound {w : World} {vv ev : Value} {rd wr_0 : Int} {vs : List Int} {es : List EdgeV} {v : Int} (h : NRow w vv vs) (hE : GRow 0 w ev es) (hs : vs.Pairwise (· < ·)) (hl : vs.length ≤ 90000) (hl2 : es.length ≤ 100000) (hv : v ∈ vs) (hb : 0 < (eOut es v).length + (eIn es v).length) :
    Calls Try.prog 37 #[.agg #[vv, ev, .int .i64 rd, .int .i64 wr_0], .int .i64 v] w fun e w' => Hid (AnsX w vv ev vs es rd wr_0 (.bool false) e w') := by
  obtain ⟨t1, t2, t3, t4⟩ := two_boxes w (oG vv ev rd wr_0)
  obtain ⟨c0, c1, c2, c3, cf⟩ := cellsG t1
  obtain ⟨d0, d1, d2, d3, df⟩ := cellsG (b := w.heap.size + 1) (vv := .slice none 0 0) (ev := .slice none 0 0) (rd := 0) (wr := 0) t2
  have HF : Hid (∀ W, Below w.heap.size w W → NRow W vv vs ∧ GRow 0 W ev es) := fun W hW => ⟨nrow_below h hW, grow_below hE hW⟩
  have HT0 : Hid (RW w w.heap.size (w.heap.size + 1) vv ev rd wr_0 ((w.alloc (oG vv ev rd wr_0)).alloc oZ)) := ⟨t2, t1, t3, by omega⟩
  obtain ⟨va, vc, hvv, -⟩ := brow_shape h
  obtain ⟨vn, hvv', hvn⟩ : ∃ vn, vv = .slice va vn vc ∧ vn = vs.length := ⟨_, hvv, rfl⟩
  obtain ⟨ea, en, ec, hev⟩ := grow_shape hE
  have hne : ¬ w.heap.size = w.heap.size + 1 := by omega
  have hne2 : ¬ w.heap.size + 1 = w.heap.size := by omega
  have HN : Hid (vn = vs.length ∧ vs.length ≤ 90000 ∧ es.length ≤ 100000 ∧ vs.Pairwise (· < ·)) := ⟨hvn, hl, hl2, hs⟩
  obtain ⟨k, hk⟩ : ∃ k : Nat, k = vs.idxOf v := ⟨_, rfl⟩
  obtain ⟨m1, hm1⟩ : ∃ m1, m1 = (eOut es v).length := ⟨_, rfl⟩
  obtain ⟨m2, hm2⟩ : ∃ m2, m2 = (eIn es v).length := ⟨_, rfl⟩
  obtain ⟨m3, hm3⟩ : ∃ m3, m3 = m1 + m2 := ⟨_, rfl⟩
  have CP : Hid (∀ W, RW w w.heap.size (w.heap.size + 1) vv ev rd wr_0 W → Calls Try.prog 27 #[.agg #[vv, ev, .int .i64 rd, .int .i64 wr_0], .int .i64 v] W fun e w2 => e = .returned (.int .i64 ((k : Nat))) ∧ Hid (Below W.heap.size W w2)) := fun W hW => (placeR (x := v) (nrow_below h hW.low) hs (by omega)).mono fun e w2 hh => ⟨by rw [hh.1]; rw [place_in hv, hk], hh.2⟩
  have CO : Hid (∀ W, RW w w.heap.size (w.heap.size + 1) vv ev rd wr_0 W → Calls Try.prog 53 #[.agg #[vv, ev, .int .i64 rd, .int .i64 wr_0], .int .i64 v] W fun e w2 => ∃ a c, e = .returned (.slice a m1 c) ∧ Hid (Below W.heap.size W w2)) := fun W hW => (refOut v (grow_below hE hW.low) (by omega)).mono fun e w2 hh => by
    obtain ⟨r, rfl, g⟩ := hh
    obtain ⟨g1, g2⟩ := unhide g
    obtain ⟨a, c, e, -⟩ := brow_shape g1
    rw [e, ← hm1]
    exact ⟨a, c, rfl, g2⟩
  have CI : Hid (∀ W, RW w w.heap.size (w.heap.size + 1) vv ev rd wr_0 W → Calls Try.prog 54 #[.agg #[vv, ev, .int .i64 rd, .int .i64 wr_0], .int .i64 v] W fun e w2 => ∃ a c, e = .returned (.slice a m2 c) ∧ Hid (Below W.heap.size W w2)) := fun W hW => (refIn v (grow_below hE hW.low) (by omega)).mono fun e w2 hh => by
    obtain ⟨r, rfl, g⟩ := hh
    obtain ⟨g1, g2⟩ := unhide g
    obtain ⟨a, c, e, -⟩ := brow_shape g1
    rw [e, ← hm2]
    exact ⟨a, c, rfl, g2⟩
  have z3 : (0 : Int) < (m3 : Int) := by omega
  have z4 : decide (0 < m3) = true := decide_eq_true (by omega)
  replace CP := hide (unhide CP _ (unhide HT0))
  have z1 : ¬ (k : Int) < 0 := by omega
  have z2 : decide ((k : Int) < 0) = false := decide_eq_false z1
  have zw : IntKind.i64.wrap ((m1 : Int) + (m2 : Int)) = (m3 : Int) := by
    have := len_eOut es v
    have := len_eIn es v
    rw [IntKind.wrap_i64]; omega
  clear hk hv hb hm1 hm2 hm3
  clear t1 t2 t3 t4 h hE hvv hvn hl hl2 hs
  subst hvv' hev
  go_enter Try.func37, Try.ntmps37
  go_upto_region 1 with fail
  change Code.wp _ _ _ _ ((w.alloc (oG (.slice va vn vc) (.slice ea en ec) rd wr_0)).alloc oZ)
  generalize (w.alloc (oG (.slice va vn vc) (.slice ea en ec) rd wr_0)).alloc oZ = wb at *
  generalize hb1 : w.heap.size + 1 = b1 at *
  generalize hbb : w.heap.size = bb at *
  go_wp2_with fail
  refine (unhide CP).mono ?_
  rintro e w2 ⟨rfl, hR1⟩
  have HT1 : Hid (RW w bb b1 (.slice va vn vc) (.slice ea en ec) rd wr_0 w2) := (unhide HT0).next (unhide hR1)
  clear c0 c1 c2 c3 cf d0 d1 d2 d3 df CP hR1
  obtain ⟨c0, c1, c2, c3, cf⟩ := cellsG (unhide HT1).box
  obtain ⟨d0, d1, d2, d3, df⟩ := cellsG (vv := .slice none 0 0) (ev := .slice none 0 0) (rd := 0) (wr := 0) (unhide HT1).res
  go_upto_region 2 with fail
  refine wp_region_noPanic ?_
  refine regionL [] (fun y => y.cell? ⟨bb, 0, none⟩ = some (.slice va vn vc) ∧ y.cell? ⟨bb, 1, none⟩ = some (.slice ea en ec) ∧ y.cell? ⟨bb, 2, none⟩ = some (.int .i64 rd) ∧ y.cell? ⟨bb, 3, none⟩ = some (.int .i64 wr_0)) (by kernel_rfl) ⟨c0, c1, c2, c3⟩ (fun hHeld => ?_)
  refine takeL (i := 0) (v := ?t2v0) (some 11) rfl rfl (by kernel_rfl) (by kernel_rfl) (by kernel_rfl) (by kernel_rfl) (by kernel_rfl) (fun _ _ _ h => h) (Or.inl ⟨by rfl, ?t2h0⟩) (by assumption) ?t2r0
  case t2h0 => (intro y hSu; (try dsimp only at hSu); go_simp; first | done | with_reducible rfl)
  (try simp only [Act.put, List.setIfInBounds_toArray, List.set_cons_zero, List.set_cons_succ])
  refine takeL (i := 1) (v := ?t2v1) (some 12) rfl rfl (by kernel_rfl) (by kernel_rfl) (by kernel_rfl) (by kernel_rfl) (by kernel_rfl) (fun _ _ _ h => h) (Or.inl ⟨by rfl, ?t2h1⟩) (by assumption) ?t2r1
  case t2h1 => (intro y hSu; (try dsimp only at hSu); go_simp; first | done | with_reducible rfl)
  (try simp only [Act.put, List.setIfInBounds_toArray, List.set_cons_zero, List.set_cons_succ])
  refine takeL (i := 2) (v := ?t2v2) (some 13) rfl rfl (by kernel_rfl) (by kernel_rfl) (by kernel_rfl) (by kernel_rfl) (by kernel_rfl) (fun _ _ _ h => h) (Or.inl ⟨by rfl, ?t2h2⟩) (by assumption) ?t2r2
  case t2h2 => (intro y hSu; (try dsimp only at hSu); go_simp; first | done | with_reducible rfl)
  (try simp only [Act.put, List.setIfInBounds_toArray, List.set_cons_zero, List.set_cons_succ])
  refine takeL (i := 3) (v := ?t2v3) (some 14) rfl rfl (by kernel_rfl) (by kernel_rfl) (by kernel_rfl) (by kernel_rfl) (by kernel_rfl) (fun _ _ _ h => h) (Or.inl ⟨by rfl, ?t2h3⟩) (by assumption) ?t2r3
  case t2h3 => (intro y hSu; (try dsimp only at hSu); go_simp; first | done | with_reducible rfl)
  (try simp only [Act.put, List.setIfInBounds_toArray, List.set_cons_zero, List.set_cons_succ])
  refine takeL (i := 4) (v := ?t2v4) (some 15) rfl rfl (by kernel_rfl) (by kernel_rfl) (by kernel_rfl) (by kernel_rfl) (by kernel_rfl) (fun _ _ _ h => h) (Or.inl ⟨by rfl, ?t2h4⟩) (by assumption) ?t2r4
  case t2h4 => (intro y hSu; (try dsimp only at hSu); go_simp; first | done | with_reducible rfl)
  (try simp only [Act.put, List.setIfInBounds_toArray, List.set_cons_zero, List.set_cons_succ])
  refine takeL (i := 7) (v := ?t2v7) (some 18) rfl rfl (by kernel_rfl) (by kernel_rfl) (by kernel_rfl) (by kernel_rfl) (by kernel_rfl) (fun _ _ _ h => h) (Or.inl ⟨by rfl, ?t2h7⟩) (by assumption) ?t2r7
  case t2h7 => (intro y hSu; (try dsimp only at hSu); go_simp; first | done | with_reducible rfl)
  (try simp only [Act.put, List.setIfInBounds_toArray, List.set_cons_zero, List.set_cons_succ])
  refine takeL (i := 8) (v := ?t2v8) (some 19) rfl rfl (by kernel_rfl) (by kernel_rfl) (by kernel_rfl) (by kernel_rfl) (by kernel_rfl) (fun _ _ _ h => h) (Or.inl ⟨by rfl, ?t2h8⟩) (by assumption) ?t2r8
  case t2h8 => (intro y hSu; (try dsimp only at hSu); go_simp; first | done | with_reducible rfl)
  (try simp only [Act.put, List.setIfInBounds_toArray, List.set_cons_zero, List.set_cons_succ])
  refine readyL (i := 5) (by kernel_rfl) rfl (fun K hK => ?_)
  go_simp
  refine (unhide CO (w2.drewN 1) ((unhide HT1).next (below_drewN (Below.refl _ _) 1))).mono ?_
  rintro e w3 ⟨x3, y3, rfl, hR3⟩
  have HT2 : Hid (RW w bb b1 (.slice va vn vc) (.slice ea en ec) rd wr_0 w3) := ((unhide HT1).next (below_drewN (Below.refl _ _) 1)).next (unhide hR3)
  have HE1 : Hid (w3.cell? ⟨bb, 0, none⟩ = some (.slice va vn vc) ∧ w3.cell? ⟨bb, 1, none⟩ = some (.slice ea en ec) ∧ w3.cell? ⟨bb, 2, none⟩ = some (.int .i64 rd) ∧ w3.cell? ⟨bb, 3, none⟩ = some (.int .i64 wr_0)) := by obtain ⟨c0, c1, c2, c3, -⟩ := cellsG (unhide HT2).box; exact ⟨c0, c1, c2, c3⟩
  clear CO hR3
  (try dsimp only)
  refine hK.out _ _ (fun _ => (unhide HE1)) ?_
  clear hK K
  (try simp only [Act.put, List.setIfInBounds_toArray, List.set_cons_zero, List.set_cons_succ])
  have hH4 := (unhide HE1)
  refine takeL (i := 6) (v := ?t5v6) (some 17) rfl rfl (by kernel_rfl) (by kernel_rfl) (by kernel_rfl) (by kernel_rfl) (by kernel_rfl) (fun _ _ _ h => h) (Or.inl ⟨by rfl, ?t5h6⟩) (by assumption) ?t5r6
  case t5h6 => (intro y hSu; (try dsimp only at hSu); go_simp; first | done | with_reducible rfl)
  (try simp only [Act.put, List.setIfInBounds_toArray, List.set_cons_zero, List.set_cons_succ])
  refine readyL (i := 9) (by kernel_rfl) rfl (fun K hK => ?_)
  go_simp
  refine (unhide CI w3 (unhide HT2)).mono ?_
  rintro e w4 ⟨x4, y4, rfl, hR4⟩
  have HT3 : Hid (RW w bb b1 (.slice va vn vc) (.slice ea en ec) rd wr_0 w4) := (unhide HT2).next (unhide hR4)
  have HE2 : Hid (w4.cell? ⟨bb, 0, none⟩ = some (.slice va vn vc) ∧ w4.cell? ⟨bb, 1, none⟩ = some (.slice ea en ec) ∧ w4.cell? ⟨bb, 2, none⟩ = some (.int .i64 rd) ∧ w4.cell? ⟨bb, 3, none⟩ = some (.int .i64 wr_0)) := by obtain ⟨c0, c1, c2, c3, -⟩ := cellsG (unhide HT3).box; exact ⟨c0, c1, c2, c3⟩
  clear CI hR4
  (try dsimp only)
  refine hK.out _ _ (fun _ => (unhide HE2)) ?_
  clear hK K
  (try simp only [Act.put, List.setIfInBounds_toArray, List.set_cons_zero, List.set_cons_succ])
  have hH7 := (unhide HE2)
  refine takeL (i := 10) (v := ?t8v10) (some 21) rfl rfl (by kernel_rfl) (by kernel_rfl) (by kernel_rfl) (by kernel_rfl) (by kernel_rfl) (fun _ _ _ h => h) (Or.inl ⟨by rfl, ?t8h10⟩) (by assumption) ?t8r10
  case t8h10 => (intro y hSu; (try dsimp only at hSu); go_simp; first | done | with_reducible rfl)
  (try simp only [Act.put, List.setIfInBounds_toArray, List.set_cons_zero, List.set_cons_succ])
  refine takeL (i := 11) (v := ?t8v11) (some 22) rfl rfl (by kernel_rfl) (by kernel_rfl) (by kernel_rfl) (by kernel_rfl) (by kernel_rfl) (fun _ _ _ h => h) (Or.inl ⟨by rfl, ?t8h11⟩) (by assumption) ?t8r11
  case t8h11 => (intro y hSu; (try dsimp only at hSu); go_simp; first | done | with_reducible rfl)
  (try simp only [Act.put, List.setIfInBounds_toArray, List.set_cons_zero, List.set_cons_succ])
  refine takeL (i := 12) (v := ?t8v12) (some 23) rfl rfl (by kernel_rfl) (by kernel_rfl) (by kernel_rfl) (by kernel_rfl) (by kernel_rfl) (fun _ _ _ h => h) (Or.inl ⟨by rfl, ?t8h12⟩) (by assumption) ?t8r12
  case t8h12 => (intro y hSu; (try dsimp only at hSu); go_simp; first | done | with_reducible rfl)
  (try simp only [Act.put, List.setIfInBounds_toArray, List.set_cons_zero, List.set_cons_succ])
  refine takeL (i := 13) (v := ?t8v13) (some 24) rfl rfl (by kernel_rfl) (by kernel_rfl) (by kernel_rfl) (by kernel_rfl) (by kernel_rfl) (fun _ _ _ h => h) (Or.inl ⟨by rfl, ?t8h13⟩) (by assumption) ?t8r13
  case t8h13 => (intro y hSu; (try dsimp only at hSu); go_simp; first | done | with_reducible rfl)
  (try simp only [Act.put, List.setIfInBounds_toArray, List.set_cons_zero, List.set_cons_succ])
  refine doneL (by kernel_rfl) ?_ _
  refine NoPanic.normal ?_
  clear HE1 HE2 c0 c1 c2 c3 cf d0 d1 d2 d3 df zw
  obtain ⟨c0, c1, c2, c3, cf⟩ := cellsG (unhide HT3).box
  obtain ⟨d0, d1, d2, d3, df⟩ := cellsG (vv := .slice none 0 0) (ev := .slice none 0 0) (rd := 0) (wr := 0) (unhide HT3).res
  go_wp2_with fail
  (try simp only [Exit.inBlock, Exit.then])
  change bodyPost _ _ _ _ _ (set4 w4 b1 _ _ _ _)
  refine bodyPost_ret (resG rfl _ _ b1 _ _ _ _ rfl (set4G_at (unhide HT3).res _ _ _ _)) rfl ?_
  have hB := set4_below (unhide HT3).low (by omega : bb ≤ b1) (.slice va vn vc) (.slice ea en ec) (.int .i64 rd) (.int .i64 wr_0)
  exact ⟨_, _, rfl, (unhide HF _ hB).1, (unhide HF _ hB).2, by first | exact hB | (rw [hbb]; exact hB), Apt.refl _ _, Apt.refl _ _⟩
end

end Go.Proofs.Ytbmcibofecigeaa
