/- The reference's Insert, DropVertex of layer 14. -/
import Derived.Test.YtbmcibofecigeaaRn142
namespace Go.Proofs.Ytbmcibofecigeaa
open Go.RowKit Go.Maps
set_option maxHeartbeats 8000000 in
set_option maxRecDepth 100000 in
theorem refInsYes {w : World} {vv ev : Value} {rd wr_0 : Int} {vs : List Int} {es : List EdV} {e u v b : Int} (h : NRow w vv vs) (hE : ERow 0 w ev es) (hs : vs.Pairwise (· < ·)) (hl : vs.length ≤ 90000) (hl2 : es.length ≤ 90000) (he : ¬ e < 1) (hno : ∀ x ∈ es, x.1 ≠ e) (hu : u ∈ vs) (hv : v ∈ vs) {b' : Int} (hk : kept b = some b') :
    Calls Try.prog 21 #[.agg #[vv, ev, .int .i64 rd, .int .i64 wr_0], .agg #[.int .i64 e, .int .i64 u, .int .i64 v, .int .u32 b]] w fun r w' => Hid (AnsX w vv ev vs (es ++ [(e, u, v, b')]) rd wr_0 (.int .i64 0) r w') := by
  have HF : Hid (∀ W, Below w.heap.size w W → NRow W vv vs ∧ ERow 0 W ev es) := fun W hW => ⟨nrow_below h hW, rrow_below hE hW⟩
  have HT0 := hide (rw3_new w vv ev rd wr_0 e u v b)
  obtain ⟨va, vc, hvv, -⟩ := brow_shape h
  obtain ⟨vn, hvv', hvn⟩ : ∃ vn, vv = .slice va vn vc ∧ vn = vs.length := ⟨_, hvv, rfl⟩
  obtain ⟨ea, ec, hev0⟩ := rrow_shape hE
  obtain ⟨en, hev⟩ : ∃ en, ev = .slice ea en ec := ⟨_, hev0⟩
  have HN : Hid (es.length ≤ 90000) := hl2
  have hat : atOf es e = -1 := by
    unfold atOf
    exact place_out (fun z => by
      obtain ⟨x, hx, hxe⟩ := List.mem_map.1 z
      exact hno x hx hxe)
  have CA : Hid (∀ W, Below w.heap.size w W → Calls Try.prog 11 #[.agg #[vv, ev, .int .i64 rd, .int .i64 wr_0], .int .i64 e] W fun r w2 => r = .returned (.int .i64 (-1)) ∧ Hid (Below W.heap.size W w2)) := fun W hW => by
    have := atR (vv := vv) (rd := rd) (wr := wr_0) (e := e) (rrow_below hE hW) (by omega)
    rwa [hat] at this
  have z1 : ¬ ((-1 : Int) ≥ 0) := by omega
  obtain ⟨ku, hpu⟩ : ∃ k : Nat, placeOf vs u = (k : Int) := ⟨_, place_in hu⟩
  have Cu : Hid (∀ W, Below w.heap.size w W → Calls Try.prog 27 #[.agg #[vv, ev, .int .i64 rd, .int .i64 wr_0], .int .i64 u] W fun r w2 => r = .returned (.int .i64 (ku : Nat)) ∧ Hid (Below W.heap.size W w2)) := fun W hW => (placeR (ev := ev) (rd := rd) (wr := wr_0) (x := u) (nrow_below h hW) hs (by omega)).mono fun r w2 hh => ⟨by rw [hh.1, hpu], hh.2⟩
  have z2 : ¬ (ku : Int) < 0 := by omega
  obtain ⟨kv, hpv⟩ : ∃ k : Nat, placeOf vs v = (k : Int) := ⟨_, place_in hv⟩
  have Cv : Hid (∀ W, Below w.heap.size w W → Calls Try.prog 27 #[.agg #[vv, ev, .int .i64 rd, .int .i64 wr_0], .int .i64 v] W fun r w2 => r = .returned (.int .i64 (kv : Nat)) ∧ Hid (Below W.heap.size W w2)) := fun W hW => (placeR (ev := ev) (rd := rd) (wr := wr_0) (x := v) (nrow_below h hW) hs (by omega)).mono fun r w2 hh => ⟨by rw [hh.1, hpv], hh.2⟩
  have z3 : ¬ (kv : Int) < 0 := by omega
  have CD : Hid (∀ W, Calls Try.prog 38 #[.int .u32 b] W fun r w2 => r = .returned (.tuple #[.int .u32 b', .int .i64 0]) ∧ w2 = W) := fun W => by
    have := refAdmit b W
    rw [hk] at this
    exact this
  clear hno hu hv hat hpu hpv hk
  clear h hE hvv hvn hl hl2 hs hev0
  subst hvv' hev
  unfold oG oEd14 oZ at HT0
  go_enter Try.func21, Try.ntmps21
  go_upto_region 1 with fail
  generalize ((w.alloc (.cells #[.slice va vn vc, .slice ea en ec, .int .i64 rd, .int .i64 wr_0] 28 (0, 0))).alloc (.cells #[.int .i64 e, .int .i64 u, .int .i64 v, .int .u32 b] 42 (0, 0))).alloc (.cells #[.slice none 0 0, .slice none 0 0, .int .i64 0, .int .i64 0] 28 (0, 0)) = wb at *
  replace HT0 : Hid (RW3 w w.heap.size (w.heap.size + 1) (w.heap.size + 1 + 1) (.slice va vn vc) (.slice ea en ec) rd wr_0 e u v b wb) := HT0
  generalize hb2 : w.heap.size + 1 + 1 = b2 at *
  generalize hb1 : w.heap.size + 1 = b1 at *
  generalize hbb : w.heap.size = bb at *
  obtain ⟨c0, c1, c2, c3, cf⟩ := cellsG (unhide HT0).box
  obtain ⟨x0, x1, x2, x3⟩ := cellsEd14 (unhide HT0).edg
  obtain ⟨d0, d1, d2, d3, df⟩ := cellsG (vv := .slice none 0 0) (ev := .slice none 0 0) (rd := 0) (wr := 0) (unhide HT0).res
  replace CA := hide (unhide CA wb (by first | exact (unhide HT0).low | (rw [hbb]; exact (unhide HT0).low)))
  go_wp2_with fail
  refine (unhide CA).mono ?_
  rintro r1 w2 ⟨rfl, hR1⟩
  have HT1 : Hid (RW3 w bb b1 b2 (.slice va vn vc) (.slice ea en ec) rd wr_0 e u v b w2) := (unhide HT0).next (unhide hR1)
  clear c0 c1 c2 c3 cf x0 x1 x2 x3 d0 d1 d2 d3 df CA hR1
  obtain ⟨c0, c1, c2, c3, cf⟩ := cellsG (unhide HT1).box
  obtain ⟨x0, x1, x2, x3⟩ := cellsEd14 (unhide HT1).edg
  obtain ⟨d0, d1, d2, d3, df⟩ := cellsG (vv := .slice none 0 0) (ev := .slice none 0 0) (rd := 0) (wr := 0) (unhide HT1).res
  replace Cu := hide (unhide Cu w2 (by first | exact (unhide HT1).low | (rw [hbb]; exact (unhide HT1).low)))
  go_wp2_with fail
  refine (unhide Cu).mono ?_
  rintro r1 w3 ⟨rfl, hR2⟩
  have HT2 : Hid (RW3 w bb b1 b2 (.slice va vn vc) (.slice ea en ec) rd wr_0 e u v b w3) := (unhide HT1).next (unhide hR2)
  clear c0 c1 c2 c3 cf x0 x1 x2 x3 d0 d1 d2 d3 df Cu hR2
  obtain ⟨c0, c1, c2, c3, cf⟩ := cellsG (unhide HT2).box
  obtain ⟨x0, x1, x2, x3⟩ := cellsEd14 (unhide HT2).edg
  obtain ⟨d0, d1, d2, d3, df⟩ := cellsG (vv := .slice none 0 0) (ev := .slice none 0 0) (rd := 0) (wr := 0) (unhide HT2).res
  replace Cv := hide (unhide Cv w3 (by first | exact (unhide HT2).low | (rw [hbb]; exact (unhide HT2).low)))
  go_wp2_with fail
  refine (unhide Cv).mono ?_
  rintro r1 w4 ⟨rfl, hR3⟩
  have HT3 : Hid (RW3 w bb b1 b2 (.slice va vn vc) (.slice ea en ec) rd wr_0 e u v b w4) := (unhide HT2).next (unhide hR3)
  clear c0 c1 c2 c3 cf x0 x1 x2 x3 d0 d1 d2 d3 df Cv hR3
  obtain ⟨c0, c1, c2, c3, cf⟩ := cellsG (unhide HT3).box
  obtain ⟨x0, x1, x2, x3⟩ := cellsEd14 (unhide HT3).edg
  obtain ⟨d0, d1, d2, d3, df⟩ := cellsG (vv := .slice none 0 0) (ev := .slice none 0 0) (rd := 0) (wr := 0) (unhide HT3).res
  go_wp2_with fail
  refine (unhide CD _).mono ?_
  rintro r1 w5 ⟨rfl, hw⟩
  rw [hw]
  clear CD hw w5
  have xf : w4.frozen? ⟨b1, 3, none⟩ = false := frozen_of_row _ _ 3 _ _ (unhide HT3).edg
  obtain ⟨w5, hw5⟩ : ∃ w5, w5 = w4.setCell ⟨b1, 3, none⟩ (.int .u32 b') := ⟨_, rfl⟩
  have HT5 : Hid (RW3 w bb b1 b2 (.slice va vn vc) (.slice ea en ec) rd wr_0 e u v b' w5) := by
    have hT := unhide HT3
    rw [hw5]
    exact ⟨(heap_setCell_other _ _ _ _ (by show bb ≠ b1; have := hT.lt1; omega)).trans hT.box, by rw [heap_setCell_same _ _ _ _ _ _ hT.edg]; rfl, (heap_setCell_other _ _ _ _ (by show b2 ≠ b1; have := hT.lt2; omega)).trans hT.res, hT.low.setCell (p := ⟨b1, 3, none⟩) (by show bb ≤ b1; have := hT.lt1; omega) _, hT.lt1, hT.lt2⟩
  have HW5 := hide hw5
  clear hw5
  go_upto_region 11 with fail
  rw [show w4.setCell ⟨b1, 3, none⟩ (.int .u32 b') = w5 from (unhide HW5).symm]
  clear HW5 c0 c1 c2 c3 cf x0 x1 x2 x3 d0 d1 d2 d3 df xf
  obtain ⟨W0, hW0⟩ : ∃ W0, W0 = w5.drew := ⟨_, rfl⟩
  have HTW : Hid (RW3 w bb b1 b2 (.slice va vn vc) (.slice ea en ec) rd wr_0 e u v b' W0) := by rw [show Hid _ = _ from rfl, hW0]; exact (unhide HT5).next (below_drewN (Below.refl _ _) 1)
  have hEs := (unhide HF W0 (by first | exact (unhide HTW).low | (rw [hbb]; exact (unhide HTW).low))).2
  have HIA := hide (insA hEs (by have := unhide HN; omega) (e, u, v, b'))
  have HIB := hide (insB hEs (by have := unhide HN; omega) (e, u, v, b'))
  have HIC := hide (insC hEs (by have := unhide HN; omega) (e, u, v, b'))
  have HS : Hid (∀ W, Below W0.heap.size W0 W → W.cell? ⟨bb, 1, none⟩ = some (.slice ea en ec) ∧ W.cell? ⟨b1, 0, none⟩ = some (.int .i64 e) ∧ W.cell? ⟨b1, 1, none⟩ = some (.int .i64 u) ∧ W.cell? ⟨b1, 2, none⟩ = some (.int .i64 v) ∧ W.cell? ⟨b1, 3, none⟩ = some (.int .u32 b') ∧ W.frozen? ⟨bb, 1, none⟩ = false) := fun W hW => by
    have hT := (unhide HTW).next hW
    obtain ⟨-, c1, -, -, cf⟩ := cellsG hT.box
    obtain ⟨x0, x1, x2, x3⟩ := cellsEd14 hT.edg
    exact ⟨c1, x0, x1, x2, x3, cf 1⟩
  have HEND : Hid (∀ a4 n4 c4 W4, Below W0.heap.size W0 W4 → ERow W0.heap.size W4 (.slice a4 n4 c4) (es ++ [(e, u, v, b')]) → (W4.setCell ⟨bb, 1, none⟩ (.slice a4 n4 c4)).heap[bb]? = some (oG (.slice va vn vc) (.slice a4 n4 c4) rd wr_0) ∧ (W4.setCell ⟨bb, 1, none⟩ (.slice a4 n4 c4)).heap[b2]? = some oZ ∧ ∀ y0 y1 y2 y3, NRow (set4 (W4.setCell ⟨bb, 1, none⟩ (.slice a4 n4 c4)) b2 y0 y1 y2 y3) (.slice va vn vc) vs ∧ GRow 0 (set4 (W4.setCell ⟨bb, 1, none⟩ (.slice a4 n4 c4)) b2 y0 y1 y2 y3) (.slice a4 n4 c4) (es ++ [(e, u, v, b')]) ∧ Below bb w (set4 (W4.setCell ⟨bb, 1, none⟩ (.slice a4 n4 c4)) b2 y0 y1 y2 y3) ∧ ∀ b, (Value.slice a4 n4 c4).ownBlock = some b → bb ≤ b) := fun a4 n4 c4 W4 hB hR => by
    have hT0 := unhide HTW
    have hT := hT0.next hB
    have hbl := heap_lt hT0.res
    have hlow : Below bb w (W4.setCell ⟨bb, 1, none⟩ (.slice a4 n4 c4)) := hT.low.setCell (p := ⟨bb, 1, none⟩) (Nat.le_refl _) _
    refine ⟨by rw [heap_setCell_same _ _ _ _ _ _ hT.box]; rfl, (heap_setCell_other _ _ _ _ (by show b2 ≠ bb; have := hT0.lt1; have := hT0.lt2; omega)).trans hT.res, fun y0 y1 y2 y3 => ?_⟩
    have hBw := set4_below hlow (by have := hT0.lt1; have := hT0.lt2; omega : bb ≤ b2) y0 y1 y2 y3
    refine ⟨(unhide HF _ (by first | exact hBw | (rw [hbb]; exact hBw))).1, erow_zero (show GRow W0.heap.size _ (.slice a4 n4 c4) _ from grow_kept hR (fun k hk => ?_)), hBw, fun k e => by have := (hR.lt k e).1; have := hT0.lt1; have := hT0.lt2; omega⟩
    have hk2 := (hR.lt k hk).1
    have t1 := hT0.lt1
    have t2 := hT0.lt2
    rw [set4_other (by omega), heap_setCell_other _ _ _ _ (by show k ≠ bb; omega)]
  clear hEs HT5
  have hS0 := unhide HS W0 (Below.refl _ _)
  have hS0' : w5.drew.cell? ⟨bb, 1, none⟩ = some (.slice ea en ec) ∧ w5.drew.cell? ⟨b1, 0, none⟩ = some (.int .i64 e) ∧ w5.drew.cell? ⟨b1, 1, none⟩ = some (.int .i64 u) ∧ w5.drew.cell? ⟨b1, 2, none⟩ = some (.int .i64 v) ∧ w5.drew.cell? ⟨b1, 3, none⟩ = some (.int .u32 b') ∧ w5.drew.frozen? ⟨bb, 1, none⟩ = false := by rw [← hW0]; exact hS0
  clear hS0
  refine wp_region_noPanic ?_
  refine regionL [8] (fun y => y.cell? ⟨bb, 1, none⟩ = some (.slice ea en ec) ∧ y.cell? ⟨b1, 0, none⟩ = some (.int .i64 e) ∧ y.cell? ⟨b1, 1, none⟩ = some (.int .i64 u) ∧ y.cell? ⟨b1, 2, none⟩ = some (.int .i64 v) ∧ y.cell? ⟨b1, 3, none⟩ = some (.int .u32 b') ∧ y.frozen? ⟨bb, 1, none⟩ = false) (by kernel_rfl) hS0' (fun hHeld => ?_)
  rw [← hW0] at hHeld ⊢
  have HW0 := hide hW0
  clear hW0 hS0'
  refine takeL (i := 1) (v := ?t2v1) (some 44) rfl rfl (by kernel_rfl) (by kernel_rfl) (by kernel_rfl) (by kernel_rfl) (by kernel_rfl) (fun _ _ _ h => h) (Or.inl ⟨by rfl, ?t2h1⟩) (by assumption) ?t2r1
  case t2h1 => (intro y hSu; (try dsimp only at hSu); go_simp; first | done | with_reducible rfl)
  (try simp only [Act.put, List.setIfInBounds_toArray, List.set_cons_zero, List.set_cons_succ])
  refine takeL (i := 2) (v := ?t2v2) (some 45) rfl rfl (by kernel_rfl) (by kernel_rfl) (by kernel_rfl) (by kernel_rfl) (by kernel_rfl) (fun _ _ _ h => h) (Or.inl ⟨by rfl, ?t2h2⟩) (by assumption) ?t2r2
  case t2h2 => (intro y hSu; (try dsimp only at hSu); go_simp; first | done | with_reducible rfl)
  (try simp only [Act.put, List.setIfInBounds_toArray, List.set_cons_zero, List.set_cons_succ])
  refine takeL (i := 4) (v := ?t2v4) (some 47) rfl rfl (by kernel_rfl) (by kernel_rfl) (by kernel_rfl) (by kernel_rfl) (by kernel_rfl) (fun _ _ _ h => h) (Or.inl ⟨by rfl, ?t2h4⟩) (by assumption) ?t2r4
  case t2h4 => (intro y hSu; (try dsimp only at hSu); go_simp; first | done | with_reducible rfl)
  (try simp only [Act.put, List.setIfInBounds_toArray, List.set_cons_zero, List.set_cons_succ])
  refine readyL2 (i := 0) (k := 5) (by kernel_rfl) rfl rfl (fun K hK => ?_) (fun K hK => ?_)
  · go_simp
    refine hK.out _ _ (fun _ => (unhide HS _ (below_new W0 oE0))) ?_
    clear hK K
    (try simp only [Act.put, List.setIfInBounds_toArray, List.set_cons_zero, List.set_cons_succ])
    have hH3 := (unhide HS _ (below_new W0 oE0))
    refine readyL2 (i := 3) (k := 5) (by kernel_rfl) rfl rfl (fun K hK => ?_) (fun K hK => ?_)
    · obtain ⟨a2, n2, c2', W2, hr2, hb2, a4, n4, c4, W4, hr4, hfin⟩ := unhide HIA
      have HR2 := hide hr2
      have HR4 := hide hr4
      have HFIN := hide hfin
      have HB2 := hide hb2
      have HB4 : Hid (Below W0.heap.size W0 W4) := hfin.1
      clear hr2 hr4 hfin hb2 HIA HIB HIC
      refine step_append_run rfl (.tmp 43) (.tmp 45) 26 rfl _ _ (by simp [Act.eval]; first | rfl | done) (by simp [Act.eval]; first | rfl | done) _ _ (unhide HR2 _) ?_
      refine hK.out _ _ (fun _ => (unhide HS _ (unhide HB2))) ?_
      clear hK K
      (try simp only [Act.put, List.setIfInBounds_toArray])
      have hH4 := (unhide HS _ (unhide HB2))
      refine readyL (i := 5) (by kernel_rfl) rfl (fun K hK => ?_)
      go_simp
      refine hK.out _ _ (fun _ => (unhide HS _ ((unhide HB2).trans ((below_new W2 (oEx (e, u, v, b'))).mono (unhide HB2).size)))) ?_
      clear hK K
      (try simp only [Act.put, List.setIfInBounds_toArray, List.set_cons_zero, List.set_cons_succ])
      have hH6 := (unhide HS _ ((unhide HB2).trans ((below_new W2 (oEx (e, u, v, b'))).mono (unhide HB2).size)))
      refine readyL (i := 6) (by kernel_rfl) rfl (fun K hK => ?_)
      refine step_append_run rfl (.tmp 46) (.tmp 48) 26 rfl _ _ (by simp [Act.eval]; first | rfl | done) (by simp [Act.eval]; first | rfl | done) _ _ (unhide HR4 _) ?_
      refine hK.out _ _ (fun _ => (unhide HS _ (unhide HB4))) ?_
      clear hK K
      (try simp only [Act.put, List.setIfInBounds_toArray])
      have hH7 := (unhide HS _ (unhide HB4))
      refine takeL (i := 7) (v := ?t8v7) (some 50) rfl rfl (by kernel_rfl) (by kernel_rfl) (by kernel_rfl) (by kernel_rfl) (by kernel_rfl) (fun _ _ _ h => h) (Or.inl ⟨by rfl, ?t8h7⟩) (by assumption) ?t8r7
      case t8h7 => (intro y hSu; (try dsimp only at hSu); go_simp; first | done | with_reducible rfl)
      (try simp only [Act.put])
      refine readyL (i := 8) (by kernel_rfl) rfl (fun K hK => ?_)
      go_simp
      refine hK.out _ _ (fun h => by cases h) ?_
      clear hK K
      (try simp only [Act.put, List.setIfInBounds_toArray, List.set_cons_zero, List.set_cons_succ])
      refine doneL (by kernel_rfl) ?_ _
      refine NoPanic.normal ?_
      clear hHeld
      obtain ⟨hF1, hF2⟩ := unhide HFIN
      obtain ⟨f2, f3, f4⟩ := unhide HEND _ _ _ _ hF1 hF2
      have HQ4 := hide f4
      clear f4 HFIN hF1 hF2 HEND HS
      generalize W4.setCell ⟨bb, 1, none⟩ (.slice a4 n4 c4) = w8 at *
      obtain ⟨c0, c1, c2, c3, cf⟩ := cellsG f2
      obtain ⟨d0, d1, d2, d3, df⟩ := cellsG (vv := .slice none 0 0) (ev := .slice none 0 0) (rd := 0) (wr := 0) f3
      have HT9 := hide f3
      clear f2 f3
      go_wp2_with fail
      (try simp only [Exit.inBlock, Exit.then])
      change bodyPost _ _ _ _ _ (set4 w8 b2 _ _ _ _)
      refine bodyPost_ret (resG rfl _ _ b2 _ _ _ _ rfl (set4G_at (unhide HT9) _ _ _ _)) rfl ?_
      obtain ⟨r1, r2, r3, r4⟩ := unhide HQ4 (.slice va vn vc) (.slice a4 n4 c4) (.int .i64 rd) (.int .i64 wr_0)
      exact ⟨_, _, rfl, r1, r2, by first | exact r3 | (rw [hbb]; exact r3), Apt.refl _ _, Apt.new r4 (by omega)⟩
    · obtain ⟨a2, n2, c2', W2, hr2, hb2, a4, n4, c4, W4, hr4, hfin⟩ := unhide HIB
      have HR2 := hide hr2
      have HR4 := hide hr4
      have HFIN := hide hfin
      have HB2 := hide hb2
      have HB4 : Hid (Below W0.heap.size W0 W4) := hfin.1
      clear hr2 hr4 hfin hb2 HIA HIB HIC
      go_simp
      refine hK.out _ _ (fun _ => (unhide HS _ ((below_new W0 oE0).trans ((below_new (W0.alloc oE0) (oEx (e, u, v, b'))).mono (below_new W0 oE0).size)))) ?_
      clear hK K
      (try simp only [Act.put, List.setIfInBounds_toArray, List.set_cons_zero, List.set_cons_succ])
      have hH12 := (unhide HS _ ((below_new W0 oE0).trans ((below_new (W0.alloc oE0) (oEx (e, u, v, b'))).mono (below_new W0 oE0).size)))
      refine readyL (i := 3) (by kernel_rfl) rfl (fun K hK => ?_)
      refine step_append_run rfl (.tmp 43) (.tmp 45) 26 rfl _ _ (by simp [Act.eval]; first | rfl | done) (by simp [Act.eval]; first | rfl | done) _ _ (unhide HR2 _) ?_
      refine hK.out _ _ (fun _ => (unhide HS _ (unhide HB2))) ?_
      clear hK K
      (try simp only [Act.put, List.setIfInBounds_toArray])
      have hH13 := (unhide HS _ (unhide HB2))
      refine readyL (i := 6) (by kernel_rfl) rfl (fun K hK => ?_)
      refine step_append_run rfl (.tmp 46) (.tmp 48) 26 rfl _ _ (by simp [Act.eval]; first | rfl | done) (by simp [Act.eval]; first | rfl | done) _ _ (unhide HR4 _) ?_
      refine hK.out _ _ (fun _ => (unhide HS _ (unhide HB4))) ?_
      clear hK K
      (try simp only [Act.put])
      have hH14 := (unhide HS _ (unhide HB4))
      refine takeL (i := 7) (v := ?t15v7) (some 50) rfl rfl (by kernel_rfl) (by kernel_rfl) (by kernel_rfl) (by kernel_rfl) (by kernel_rfl) (fun _ _ _ h => h) (Or.inl ⟨by rfl, ?t15h7⟩) (by assumption) ?t15r7
      case t15h7 => (intro y hSu; (try dsimp only at hSu); go_simp; first | done | with_reducible rfl)
      (try simp only [Act.put])
      refine readyL (i := 8) (by kernel_rfl) rfl (fun K hK => ?_)
      go_simp
      refine hK.out _ _ (fun h => by cases h) ?_
      clear hK K
      (try simp only [Act.put, List.setIfInBounds_toArray, List.set_cons_zero, List.set_cons_succ])
      refine doneL (by kernel_rfl) ?_ _
      refine NoPanic.normal ?_
      clear hHeld
      obtain ⟨hF1, hF2⟩ := unhide HFIN
      obtain ⟨f2, f3, f4⟩ := unhide HEND _ _ _ _ hF1 hF2
      have HQ4 := hide f4
      clear f4 HFIN hF1 hF2 HEND HS
      generalize W4.setCell ⟨bb, 1, none⟩ (.slice a4 n4 c4) = w8 at *
      obtain ⟨c0, c1, c2, c3, cf⟩ := cellsG f2
      obtain ⟨d0, d1, d2, d3, df⟩ := cellsG (vv := .slice none 0 0) (ev := .slice none 0 0) (rd := 0) (wr := 0) f3
      have HT9 := hide f3
      clear f2 f3
      go_wp2_with fail
      (try simp only [Exit.inBlock, Exit.then])
      change bodyPost _ _ _ _ _ (set4 w8 b2 _ _ _ _)
      refine bodyPost_ret (resG rfl _ _ b2 _ _ _ _ rfl (set4G_at (unhide HT9) _ _ _ _)) rfl ?_
      obtain ⟨r1, r2, r3, r4⟩ := unhide HQ4 (.slice va vn vc) (.slice a4 n4 c4) (.int .i64 rd) (.int .i64 wr_0)
      exact ⟨_, _, rfl, r1, r2, by first | exact r3 | (rw [hbb]; exact r3), Apt.refl _ _, Apt.new r4 (by omega)⟩
  · go_simp
    refine hK.out _ _ (fun _ => (unhide HS _ (below_new W0 (oEx (e, u, v, b'))))) ?_
    clear hK K
    (try simp only [Act.put, List.setIfInBounds_toArray, List.set_cons_zero, List.set_cons_succ])
    have hH19 := (unhide HS _ (below_new W0 (oEx (e, u, v, b'))))
    refine readyL (i := 0) (by kernel_rfl) rfl (fun K hK => ?_)
    go_simp
    refine hK.out _ _ (fun _ => (unhide HS _ ((below_new W0 (oEx (e, u, v, b'))).trans ((below_new (W0.alloc (oEx (e, u, v, b'))) oE0).mono (below_new W0 (oEx (e, u, v, b'))).size)))) ?_
    clear hK K
    (try simp only [Act.put, List.setIfInBounds_toArray, List.set_cons_zero, List.set_cons_succ])
    have hH21 := (unhide HS _ ((below_new W0 (oEx (e, u, v, b'))).trans ((below_new (W0.alloc (oEx (e, u, v, b'))) oE0).mono (below_new W0 (oEx (e, u, v, b'))).size)))
    obtain ⟨a2, n2, c2', W2, hr2, hb2, a4, n4, c4, W4, hr4, hfin⟩ := unhide HIC
    have HR2 := hide hr2
    have HR4 := hide hr4
    have HFIN := hide hfin
    have HB2 := hide hb2
    have HB4 : Hid (Below W0.heap.size W0 W4) := hfin.1
    clear hr2 hr4 hfin hb2 HIA HIB HIC
    refine readyL (i := 3) (by kernel_rfl) rfl (fun K hK => ?_)
    refine step_append_run rfl (.tmp 43) (.tmp 45) 26 rfl _ _ (by simp [Act.eval]; first | rfl | done) (by simp [Act.eval]; first | rfl | done) _ _ (unhide HR2 _) ?_
    refine hK.out _ _ (fun _ => (unhide HS _ (unhide HB2))) ?_
    clear hK K
    (try simp only [Act.put, List.setIfInBounds_toArray])
    have hH22 := (unhide HS _ (unhide HB2))
    refine readyL (i := 6) (by kernel_rfl) rfl (fun K hK => ?_)
    refine step_append_run rfl (.tmp 46) (.tmp 48) 26 rfl _ _ (by simp [Act.eval]; first | rfl | done) (by simp [Act.eval]; first | rfl | done) _ _ (unhide HR4 _) ?_
    refine hK.out _ _ (fun _ => (unhide HS _ (unhide HB4))) ?_
    clear hK K
    (try simp only [Act.put])
    have hH23 := (unhide HS _ (unhide HB4))
    refine takeL (i := 7) (v := ?t24v7) (some 50) rfl rfl (by kernel_rfl) (by kernel_rfl) (by kernel_rfl) (by kernel_rfl) (by kernel_rfl) (fun _ _ _ h => h) (Or.inl ⟨by rfl, ?t24h7⟩) (by assumption) ?t24r7
    case t24h7 => (intro y hSu; (try dsimp only at hSu); go_simp; first | done | with_reducible rfl)
    (try simp only [Act.put])
    refine readyL (i := 8) (by kernel_rfl) rfl (fun K hK => ?_)
    go_simp
    refine hK.out _ _ (fun h => by cases h) ?_
    clear hK K
    (try simp only [Act.put, List.setIfInBounds_toArray, List.set_cons_zero, List.set_cons_succ])
    refine doneL (by kernel_rfl) ?_ _
    refine NoPanic.normal ?_
    clear hHeld
    obtain ⟨hF1, hF2⟩ := unhide HFIN
    obtain ⟨f2, f3, f4⟩ := unhide HEND _ _ _ _ hF1 hF2
    have HQ4 := hide f4
    clear f4 HFIN hF1 hF2 HEND HS
    generalize W4.setCell ⟨bb, 1, none⟩ (.slice a4 n4 c4) = w8 at *
    obtain ⟨c0, c1, c2, c3, cf⟩ := cellsG f2
    obtain ⟨d0, d1, d2, d3, df⟩ := cellsG (vv := .slice none 0 0) (ev := .slice none 0 0) (rd := 0) (wr := 0) f3
    have HT9 := hide f3
    clear f2 f3
    go_wp2_with fail
    (try simp only [Exit.inBlock, Exit.then])
    change bodyPost _ _ _ _ _ (set4 w8 b2 _ _ _ _)
    refine bodyPost_ret (resG rfl _ _ b2 _ _ _ _ rfl (set4G_at (unhide HT9) _ _ _ _)) rfl ?_
    obtain ⟨r1, r2, r3, r4⟩ := unhide HQ4 (.slice va vn vc) (.slice a4 n4 c4) (.int .i64 rd) (.int .i64 wr_0)
    exact ⟨_, _, rfl, r1, r2, by first | exact r3 | (rw [hbb]; exact r3), Apt.refl _ _, Apt.new r4 (by omega)⟩
end Go.Proofs.Ytbmcibofecigeaa
