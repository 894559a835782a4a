/- The reference of layer 10: DropVertex. -/
import Derived.Test.YtbmcibofecigeaaR10514
namespace Go.Proofs.Ytbmcibofecigeaa
open Go.RowKit Go.Maps
set_option maxHeartbeats 4000000 in
set_option maxRecDepth 100000 in
theorem refDVYes {w : World} {vv ev : Value} {rd wr_0 : Int} {vs : List Int} {es : List EdgeV} {v : Int} (h : NRow w vv vs) (hE : GRow 0 w ev es) (hs : vs.Pairwise (· < ·)) (hl : vs.length ≤ 90000) (hl2 : es.length ≤ 100000) (hv : v ∈ vs) (hb : (eOut es v).length + (eIn es v).length = 0) :
    Calls Try.prog 37 #[.agg #[vv, ev, .int .i64 rd, .int .i64 wr_0], .int .i64 v] w fun e w' => Hid (∃ i : Nat, vs[i]? = some v ∧ AnsX w vv ev (vs.take i ++ vs.drop (i + 1)) es rd wr_0 (.bool true) e w') := by
  obtain ⟨t1, t2, t3, t4⟩ := two_boxes w (oG vv ev rd wr_0)
  obtain ⟨c0, c1, c2, c3, cf⟩ := cellsG t1
  obtain ⟨d0, d1, d2, d3, df⟩ := cellsG (b := w.heap.size + 1) (vv := .slice none 0 0) (ev := .slice none 0 0) (rd := 0) (wr := 0) t2
  have HF : Hid (∀ W, Below w.heap.size w W → NRow W vv vs ∧ GRow 0 W ev es) := fun W hW => ⟨nrow_below h hW, grow_below hE hW⟩
  have HT0 : Hid (RW w w.heap.size (w.heap.size + 1) vv ev rd wr_0 ((w.alloc (oG vv ev rd wr_0)).alloc oZ)) := ⟨t2, t1, t3, by omega⟩
  obtain ⟨va, vc, hvv, -⟩ := brow_shape h
  obtain ⟨vn, hvv', hvn⟩ : ∃ vn, vv = .slice va vn vc ∧ vn = vs.length := ⟨_, hvv, rfl⟩
  obtain ⟨ea, en, ec, hev⟩ := grow_shape hE
  have hne : ¬ w.heap.size = w.heap.size + 1 := by omega
  have hne2 : ¬ w.heap.size + 1 = w.heap.size := by omega
  have HN : Hid (vn = vs.length ∧ vs.length ≤ 90000 ∧ es.length ≤ 100000 ∧ vs.Pairwise (· < ·)) := ⟨hvn, hl, hl2, hs⟩
  obtain ⟨k, hk⟩ : ∃ k : Nat, k = vs.idxOf v := ⟨_, rfl⟩
  obtain ⟨m1, hm1⟩ : ∃ m1, m1 = (eOut es v).length := ⟨_, rfl⟩
  obtain ⟨m2, hm2⟩ : ∃ m2, m2 = (eIn es v).length := ⟨_, rfl⟩
  obtain ⟨m3, hm3⟩ : ∃ m3, m3 = m1 + m2 := ⟨_, rfl⟩
  have CP : Hid (∀ W, RW w w.heap.size (w.heap.size + 1) vv ev rd wr_0 W → Calls Try.prog 27 #[.agg #[vv, ev, .int .i64 rd, .int .i64 wr_0], .int .i64 v] W fun e w2 => e = .returned (.int .i64 ((k : Nat))) ∧ Hid (Below W.heap.size W w2)) := fun W hW => (placeR (x := v) (nrow_below h hW.low) hs (by omega)).mono fun e w2 hh => ⟨by rw [hh.1]; rw [place_in hv, hk], hh.2⟩
  have CO : Hid (∀ W, RW w w.heap.size (w.heap.size + 1) vv ev rd wr_0 W → Calls Try.prog 53 #[.agg #[vv, ev, .int .i64 rd, .int .i64 wr_0], .int .i64 v] W fun e w2 => ∃ a c, e = .returned (.slice a m1 c) ∧ Hid (Below W.heap.size W w2)) := fun W hW => (refOut v (grow_below hE hW.low) (by omega)).mono fun e w2 hh => by
    obtain ⟨r, rfl, g⟩ := hh
    obtain ⟨g1, g2⟩ := unhide g
    obtain ⟨a, c, e, -⟩ := brow_shape g1
    rw [e, ← hm1]
    exact ⟨a, c, rfl, g2⟩
  have CI : Hid (∀ W, RW w w.heap.size (w.heap.size + 1) vv ev rd wr_0 W → Calls Try.prog 54 #[.agg #[vv, ev, .int .i64 rd, .int .i64 wr_0], .int .i64 v] W fun e w2 => ∃ a c, e = .returned (.slice a m2 c) ∧ Hid (Below W.heap.size W w2)) := fun W hW => (refIn v (grow_below hE hW.low) (by omega)).mono fun e w2 hh => by
    obtain ⟨r, rfl, g⟩ := hh
    obtain ⟨g1, g2⟩ := unhide g
    obtain ⟨a, c, e, -⟩ := brow_shape g1
    rw [e, ← hm2]
    exact ⟨a, c, rfl, g2⟩
  have z3 : ¬ (0 : Int) < (m3 : Int) := by omega
  have z4 : decide (0 < m3) = false := decide_eq_false (by omega)
  have HKK : Hid (vs[k]? = some v ∧ k < vs.length) := by
    have hl3 := List.idxOf_lt_length_of_mem hv
    rw [hk]
    exact ⟨by rw [List.getElem?_eq_getElem hl3, List.getElem_idxOf], hl3⟩
  replace CP := hide (unhide CP _ (unhide HT0))
  have z1 : ¬ (k : Int) < 0 := by omega
  have z2 : decide ((k : Int) < 0) = false := decide_eq_false z1
  have zw : IntKind.i64.wrap ((m1 : Int) + (m2 : Int)) = (m3 : Int) := by
    have := len_eOut es v
    have := len_eIn es v
    rw [IntKind.wrap_i64]; omega
  clear hk hv hb hm1 hm2 hm3
  clear t1 t2 t3 t4 h hE hvv hvn hl hl2 hs
  subst hvv' hev
  go_enter Try.func37, Try.ntmps37
  go_upto_region 1 with fail
  change Code.wp _ _ _ _ ((w.alloc (oG (.slice va vn vc) (.slice ea en ec) rd wr_0)).alloc oZ)
  generalize (w.alloc (oG (.slice va vn vc) (.slice ea en ec) rd wr_0)).alloc oZ = wb at *
  generalize hb1 : w.heap.size + 1 = b1 at *
  generalize hbb : w.heap.size = bb at *
  go_wp2_with fail
  refine (unhide CP).mono ?_
  rintro e w2 ⟨rfl, hR1⟩
  have HT1 : Hid (RW w bb b1 (.slice va vn vc) (.slice ea en ec) rd wr_0 w2) := (unhide HT0).next (unhide hR1)
  clear c0 c1 c2 c3 cf d0 d1 d2 d3 df CP hR1
  obtain ⟨c0, c1, c2, c3, cf⟩ := cellsG (unhide HT1).box
  obtain ⟨d0, d1, d2, d3, df⟩ := cellsG (vv := .slice none 0 0) (ev := .slice none 0 0) (rd := 0) (wr := 0) (unhide HT1).res
  go_upto_region 2 with fail
  refine wp_region_noPanic ?_
  refine regionL [] (fun y => y.cell? ⟨bb, 0, none⟩ = some (.slice va vn vc) ∧ y.cell? ⟨bb, 1, none⟩ = some (.slice ea en ec) ∧ y.cell? ⟨bb, 2, none⟩ = some (.int .i64 rd) ∧ y.cell? ⟨bb, 3, none⟩ = some (.int .i64 wr_0)) (by kernel_rfl) ⟨c0, c1, c2, c3⟩ (fun hHeld => ?_)
  refine takeL (i := 0) (v := ?t2v0) (some 11) rfl rfl (by kernel_rfl) (by kernel_rfl) (by kernel_rfl) (by kernel_rfl) (by kernel_rfl) (fun _ _ _ h => h) (Or.inl ⟨by rfl, ?t2h0⟩) (by assumption) ?t2r0
  case t2h0 => (intro y hSu; (try dsimp only at hSu); go_simp; first | done | with_reducible rfl)
  (try simp only [Act.put, List.setIfInBounds_toArray, List.set_cons_zero, List.set_cons_succ])
  refine takeL (i := 1) (v := ?t2v1) (some 12) rfl rfl (by kernel_rfl) (by kernel_rfl) (by kernel_rfl) (by kernel_rfl) (by kernel_rfl) (fun _ _ _ h => h) (Or.inl ⟨by rfl, ?t2h1⟩) (by assumption) ?t2r1
  case t2h1 => (intro y hSu; (try dsimp only at hSu); go_simp; first | done | with_reducible rfl)
  (try simp only [Act.put, List.setIfInBounds_toArray, List.set_cons_zero, List.set_cons_succ])
  refine takeL (i := 2) (v := ?t2v2) (some 13) rfl rfl (by kernel_rfl) (by kernel_rfl) (by kernel_rfl) (by kernel_rfl) (by kernel_rfl) (fun _ _ _ h => h) (Or.inl ⟨by rfl, ?t2h2⟩) (by assumption) ?t2r2
  case t2h2 => (intro y hSu; (try dsimp only at hSu); go_simp; first | done | with_reducible rfl)
  (try simp only [Act.put, List.setIfInBounds_toArray, List.set_cons_zero, List.set_cons_succ])
  refine takeL (i := 3) (v := ?t2v3) (some 14) rfl rfl (by kernel_rfl) (by kernel_rfl) (by kernel_rfl) (by kernel_rfl) (by kernel_rfl) (fun _ _ _ h => h) (Or.inl ⟨by rfl, ?t2h3⟩) (by assumption) ?t2r3
  case t2h3 => (intro y hSu; (try dsimp only at hSu); go_simp; first | done | with_reducible rfl)
  (try simp only [Act.put, List.setIfInBounds_toArray, List.set_cons_zero, List.set_cons_succ])
  refine takeL (i := 4) (v := ?t2v4) (some 15) rfl rfl (by kernel_rfl) (by kernel_rfl) (by kernel_rfl) (by kernel_rfl) (by kernel_rfl) (fun _ _ _ h => h) (Or.inl ⟨by rfl, ?t2h4⟩) (by assumption) ?t2r4
  case t2h4 => (intro y hSu; (try dsimp only at hSu); go_simp; first | done | with_reducible rfl)
  (try simp only [Act.put, List.setIfInBounds_toArray, List.set_cons_zero, List.set_cons_succ])
  refine takeL (i := 7) (v := ?t2v7) (some 18) rfl rfl (by kernel_rfl) (by kernel_rfl) (by kernel_rfl) (by kernel_rfl) (by kernel_rfl) (fun _ _ _ h => h) (Or.inl ⟨by rfl, ?t2h7⟩) (by assumption) ?t2r7
  case t2h7 => (intro y hSu; (try dsimp only at hSu); go_simp; first | done | with_reducible rfl)
  (try simp only [Act.put, List.setIfInBounds_toArray, List.set_cons_zero, List.set_cons_succ])
  refine takeL (i := 8) (v := ?t2v8) (some 19) rfl rfl (by kernel_rfl) (by kernel_rfl) (by kernel_rfl) (by kernel_rfl) (by kernel_rfl) (fun _ _ _ h => h) (Or.inl ⟨by rfl, ?t2h8⟩) (by assumption) ?t2r8
  case t2h8 => (intro y hSu; (try dsimp only at hSu); go_simp; first | done | with_reducible rfl)
  (try simp only [Act.put, List.setIfInBounds_toArray, List.set_cons_zero, List.set_cons_succ])
  refine readyL (i := 5) (by kernel_rfl) rfl (fun K hK => ?_)
  go_simp
  refine (unhide CO (w2.drewN 1) ((unhide HT1).next (below_drewN (Below.refl _ _) 1))).mono ?_
  rintro e w3 ⟨x3, y3, rfl, hR3⟩
  have HT2 : Hid (RW w bb b1 (.slice va vn vc) (.slice ea en ec) rd wr_0 w3) := ((unhide HT1).next (below_drewN (Below.refl _ _) 1)).next (unhide hR3)
  have HE1 : Hid (w3.cell? ⟨bb, 0, none⟩ = some (.slice va vn vc) ∧ w3.cell? ⟨bb, 1, none⟩ = some (.slice ea en ec) ∧ w3.cell? ⟨bb, 2, none⟩ = some (.int .i64 rd) ∧ w3.cell? ⟨bb, 3, none⟩ = some (.int .i64 wr_0)) := by obtain ⟨c0, c1, c2, c3, -⟩ := cellsG (unhide HT2).box; exact ⟨c0, c1, c2, c3⟩
  clear CO hR3
  (try dsimp only)
  refine hK.out _ _ (fun _ => (unhide HE1)) ?_
  clear hK K
  (try simp only [Act.put, List.setIfInBounds_toArray, List.set_cons_zero, List.set_cons_succ])
  have hH4 := (unhide HE1)
  refine takeL (i := 6) (v := ?t5v6) (some 17) rfl rfl (by kernel_rfl) (by kernel_rfl) (by kernel_rfl) (by kernel_rfl) (by kernel_rfl) (fun _ _ _ h => h) (Or.inl ⟨by rfl, ?t5h6⟩) (by assumption) ?t5r6
  case t5h6 => (intro y hSu; (try dsimp only at hSu); go_simp; first | done | with_reducible rfl)
  (try simp only [Act.put, List.setIfInBounds_toArray, List.set_cons_zero, List.set_cons_succ])
  refine readyL (i := 9) (by kernel_rfl) rfl (fun K hK => ?_)
  go_simp
  refine (unhide CI w3 (unhide HT2)).mono ?_
  rintro e w4 ⟨x4, y4, rfl, hR4⟩
  have HT3 : Hid (RW w bb b1 (.slice va vn vc) (.slice ea en ec) rd wr_0 w4) := (unhide HT2).next (unhide hR4)
  have HE2 : Hid (w4.cell? ⟨bb, 0, none⟩ = some (.slice va vn vc) ∧ w4.cell? ⟨bb, 1, none⟩ = some (.slice ea en ec) ∧ w4.cell? ⟨bb, 2, none⟩ = some (.int .i64 rd) ∧ w4.cell? ⟨bb, 3, none⟩ = some (.int .i64 wr_0)) := by obtain ⟨c0, c1, c2, c3, -⟩ := cellsG (unhide HT3).box; exact ⟨c0, c1, c2, c3⟩
  clear CI hR4
  (try dsimp only)
  refine hK.out _ _ (fun _ => (unhide HE2)) ?_
  clear hK K
  (try simp only [Act.put, List.setIfInBounds_toArray, List.set_cons_zero, List.set_cons_succ])
  have hH7 := (unhide HE2)
  refine takeL (i := 10) (v := ?t8v10) (some 21) rfl rfl (by kernel_rfl) (by kernel_rfl) (by kernel_rfl) (by kernel_rfl) (by kernel_rfl) (fun _ _ _ h => h) (Or.inl ⟨by rfl, ?t8h10⟩) (by assumption) ?t8r10
  case t8h10 => (intro y hSu; (try dsimp only at hSu); go_simp; first | done | with_reducible rfl)
  (try simp only [Act.put, List.setIfInBounds_toArray, List.set_cons_zero, List.set_cons_succ])
  refine takeL (i := 11) (v := ?t8v11) (some 22) rfl rfl (by kernel_rfl) (by kernel_rfl) (by kernel_rfl) (by kernel_rfl) (by kernel_rfl) (fun _ _ _ h => h) (Or.inl ⟨by rfl, ?t8h11⟩) (by assumption) ?t8r11
  case t8h11 => (intro y hSu; (try dsimp only at hSu); go_simp; first | done | with_reducible rfl)
  (try simp only [Act.put, List.setIfInBounds_toArray, List.set_cons_zero, List.set_cons_succ])
  refine takeL (i := 12) (v := ?t8v12) (some 23) rfl rfl (by kernel_rfl) (by kernel_rfl) (by kernel_rfl) (by kernel_rfl) (by kernel_rfl) (fun _ _ _ h => h) (Or.inl ⟨by rfl, ?t8h12⟩) (by assumption) ?t8r12
  case t8h12 => (intro y hSu; (try dsimp only at hSu); go_simp; first | done | with_reducible rfl)
  (try simp only [Act.put, List.setIfInBounds_toArray, List.set_cons_zero, List.set_cons_succ])
  refine takeL (i := 13) (v := ?t8v13) (some 24) rfl rfl (by kernel_rfl) (by kernel_rfl) (by kernel_rfl) (by kernel_rfl) (by kernel_rfl) (fun _ _ _ h => h) (Or.inl ⟨by rfl, ?t8h13⟩) (by assumption) ?t8r13
  case t8h13 => (intro y hSu; (try dsimp only at hSu); go_simp; first | done | with_reducible rfl)
  (try simp only [Act.put, List.setIfInBounds_toArray, List.set_cons_zero, List.set_cons_succ])
  refine doneL (by kernel_rfl) ?_ _
  refine NoPanic.normal ?_
  clear HE1 HE2 c0 c1 c2 c3 cf d0 d1 d2 d3 df zw
  obtain ⟨c0, c1, c2, c3, cf⟩ := cellsG (unhide HT3).box
  obtain ⟨d0, d1, d2, d3, df⟩ := cellsG (vv := .slice none 0 0) (ev := .slice none 0 0) (rd := 0) (wr := 0) (unhide HT3).res
  have hR2 := (unhide HF w4 (unhide HT3).low).1
  obtain ⟨n1, n2, n3, n4⟩ := unhide HN
  obtain ⟨kk1, kk2⟩ := unhide HKK
  obtain ⟨g, hg⟩ := brow_some hR2 (by omega)
  subst hg
  have hcap := (nrow_some hR2).2.1
  have hR2' := hR2
  rw [n1] at hR2'
  obtain ⟨a5, n5, c5, w5, r5, hB5, a6, n6, c6, w6, r6, g6, hB6⟩ := dropV10_mem hR2' kk2 (by omega)
  rw [← n1] at r6
  have hbx := heap_lt (unhide HT3).box
  have l1 : (w4.alloc (.cells #[] 3)).cell? ⟨bb, 0, none⟩ = some (.slice (some ⟨g, 0, none⟩) vn vc) := (cell_of_heap (x := ⟨bb, 0, none⟩) (heap_alloc_old w4 _ hbx)).trans c0
  have l2 : w5.cell? ⟨bb, 0, none⟩ = some (.slice (some ⟨g, 0, none⟩) vn vc) := (cell_of_heap (x := ⟨bb, 0, none⟩) (hB5.block bb hbx)).trans c0
  obtain ⟨f1, f2, f3, f4⟩ := rw_setV (unhide HT3) hB6 g6 (fun W hW => (unhide HF W hW).2)
  have HFIN := hide (And.intro f2 (And.intro f3 f4))
  obtain ⟨p0, p1, p2, p3, pf⟩ := cellsG f1
  have HR5 := hide r5
  have HR6 := hide r6
  have hic : (k : Int) ≤ (vc : Int) := by omega
  have hi0 : ¬ (k : Int) < 0 := by omega
  have hin : ((k + 1 : Nat) : Int) ≤ (vn : Int) := by omega
  have hin3 : (k : Int) + 1 ≤ (vn : Int) := by omega
  have hin4 : ¬ (k : Int) + 1 < 0 := by omega
  have hin2 : k + 1 ≤ vn := by omega
  have HVN : Hid (vn ≤ vc) := hcap
  clear hR2 hR2' hcap r5 r6 g6 hB5 hB6 hbx c0 c1 c2 c3 cf d0 d1 d2 d3 df f1 f2 f3 f4 kk1 kk2 n2 n3 n4
  have HN1 := hide n1
  clear n1
  have hwi : wrap64 ((k : Int) + 1) = ((k + 1 : Nat) : Int) := by have := (unhide HN).2.1; have := unhide HN1; unfold wrap64; omega
  go_upto_region 5 with (at_builtin; refine Lib.wpList_append_run _ rfl _ _ 25 25 rfl _ _ rfl rfl _ _ (unhide HR5 _) ?_)
  clear HR5 l1
  by_cases hcz : vc = k + 1
  · have HE1 : Hid (vn = k + 1) := by have := unhide HVN; show vn = _; omega
    have HVC := hide hcz
    clear hin2
    go_upto_region 6 with (at_builtin; refine Lib.wpList_append_run _ rfl _ _ 25 25 rfl _ _ rfl rfl _ _ (unhide HR6 _ _ _ (.inr (unhide HE1))) ?_)
    all_goals
      clear p0 p1 p2 p3 pf l2
      obtain ⟨q2, q3, q4⟩ := unhide HFIN
      have HQ4 := hide q4
      clear q4 HFIN
      generalize w6.setCell ⟨bb, 0, none⟩ (.slice a6 n6 c6) = w8 at *
      obtain ⟨c0, c1, c2, c3, cf⟩ := cellsG q2
      obtain ⟨d0, d1, d2, d3, df⟩ := cellsG (vv := .slice none 0 0) (ev := .slice none 0 0) (rd := 0) (wr := 0) q3
      have HT9 := hide q3
      clear q2 q3
      go_wp2_with fail
      (try simp only [Exit.inBlock, Exit.then])
      change bodyPost _ _ _ _ _ (set4 w8 b1 _ _ _ _)
      refine bodyPost_ret (resG rfl _ _ b1 _ _ _ _ rfl (set4G_at (unhide HT9) _ _ _ _)) rfl ?_
      obtain ⟨r1, r2, r3, r4⟩ := unhide HQ4 (.slice a6 n6 c6) (.slice ea en ec) (.int .i64 rd) (.int .i64 wr_0)
      exact ⟨k, (unhide HKK).1, _, _, rfl, r1, r2, by first | exact r3 | (rw [hbb]; exact r3), Apt.new r4 (by omega), Apt.refl _ _⟩
  · go_upto_region 6 with (at_builtin; refine Lib.wpList_append_run _ rfl _ _ 25 25 rfl _ _ rfl rfl _ _ (unhide HR6 _ _ _ (.inl ⟨rfl, rfl⟩)) ?_)
    clear p0 p1 p2 p3 pf l2
    obtain ⟨q2, q3, q4⟩ := unhide HFIN
    have HQ4 := hide q4
    clear q4 HFIN
    generalize w6.setCell ⟨bb, 0, none⟩ (.slice a6 n6 c6) = w8 at *
    obtain ⟨c0, c1, c2, c3, cf⟩ := cellsG q2
    obtain ⟨d0, d1, d2, d3, df⟩ := cellsG (vv := .slice none 0 0) (ev := .slice none 0 0) (rd := 0) (wr := 0) q3
    have HT9 := hide q3
    clear q2 q3
    go_wp2_with fail
    (try simp only [Exit.inBlock, Exit.then])
    change bodyPost _ _ _ _ _ (set4 w8 b1 _ _ _ _)
    refine bodyPost_ret (resG rfl _ _ b1 _ _ _ _ rfl (set4G_at (unhide HT9) _ _ _ _)) rfl ?_
    obtain ⟨r1, r2, r3, r4⟩ := unhide HQ4 (.slice a6 n6 c6) (.slice ea en ec) (.int .i64 rd) (.int .i64 wr_0)
    exact ⟨k, (unhide HKK).1, _, _, rfl, r1, r2, by first | exact r3 | (rw [hbb]; exact r3), Apt.new r4 (by omega), Apt.refl _ _⟩
end Go.Proofs.Ytbmcibofecigeaa
