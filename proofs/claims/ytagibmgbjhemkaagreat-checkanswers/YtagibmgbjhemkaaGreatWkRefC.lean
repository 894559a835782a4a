/- The reference's Cost. -/
import Derived.Test.YtagibmgbjhemkaaGreatWkRefT
namespace Go.Proofs.YtagibmgbjhemkaaGreat
open Go.RowKit Go.Maps

/-- Two operations may come up now. -/
theorem readyL2 {P : Program} {ops : Array Oper} {Q : Exit → Act → World → Prop} {md : Region.Mode} {S : World → Prop} {T : List Nat} {i k : Nat} {o o2 : Oper} {fuel : Nat} {listed : Array Bool} {a : Act} {w : World} (hr : Region.ready md ops listed = [i, k]) (ho : ops[i]? = some o) (ho2 : ops[k]? = some o2)
    (h : ∀ K' : Act → World → Prop, Shut (∀ a w, (T.contains i = false → S w) → wpAnyL P md ops Q S T fuel (listed.setIfInBounds i true) a w → K' a w) → if Region.wanted o (yielded ops a.tmps) = true then Oper.wp P o a w K' Q else K' (a.put o.dst undef) w)
    (h2 : ∀ K' : Act → World → Prop, Shut (∀ a w, (T.contains k = false → S w) → wpAnyL P md ops Q S T fuel (listed.setIfInBounds k true) a w → K' a w) → if Region.wanted o2 (yielded ops a.tmps) = true then Oper.wp P o2 a w K' Q else K' (a.put o2.dst undef) w) :
    wpAnyL P md ops Q S T (fuel + 1) listed a w := by
  refine ⟨fun h0 => (by rw [hr] at h0; cases h0), fun j hj => ?_⟩
  rw [hr] at hj
  rcases List.mem_cons.1 hj with e | e
  · subst e
    exact wpOp_step ho (fun K' hK => h K' (fun a w hS hW => hK a w ⟨hS, hW⟩))
  · obtain rfl : j = k := by simpa using e
    exact wpOp_step ho2 (fun K' hK => h2 K' (fun a w hS hW => hK a w ⟨hS, hW⟩))
theorem way_lk8 {ps : List (EdgeV × Bool)} : ∀ {es : List Int} {a e : Int} {d : List EdgeV} {k : Nat}, Way ps a es d → es[k]? = some e → ∃ x, lk ps e = some x
  | [], a, e, d, k, _, hk => by cases hk
  | e' :: es, a, e, d, k, h, hk => by
    obtain ⟨x, d', rfl, h2, h3, h4⟩ := h
    match k, hk with
    | 0, hk => exact ⟨x, by rw [← show e' = e by simpa using hk]; exact h2⟩
    | k + 1, hk => exact way_lk8 h4 (k := k) (by simpa using hk)
/-- Its loop. -/
def RCL (ps : List (EdgeV × Bool)) (wb : World) (from_ : Int) (ks : List Int) (cst : Nat) (i : Nat) (d : List EdgeV) (W : World) : Prop := Way ps from_ (ks.take i) d ∧ cst = costOf d ∧ Below wb.heap.size wb W

set_option maxHeartbeats 4000000 in
set_option maxRecDepth 100000 in
theorem refCostS {w : World} {vv ev : Value} {rd wr0 : Int} {es : List EdgeV} {ps : List (EdgeV × Bool)} (from_ : Int) {kv : Value} {ks : List Int} {dd : List EdgeV} (h : GRow 0 w ev es) (hG : GR8 ps es) (hr : SRow w kv ks) (hkl : ks.length ≤ 2000) (hW : Way ps from_ ks dd) (hwt : ∀ x ∈ es, Wt x) :
    Calls Tryz.prog 25 #[.agg #[vv, ev, .int .i64 rd, .int .i64 wr0], kv] w fun e w' => e = .returned (.int .u32 (costOf dd)) ∧ Hid (Below w.heap.size w w') := by
  have hb := below_new w (oG vv ev rd wr0)
  have hs0 : (w.alloc (oG vv ev rd wr0)).heap.size = w.heap.size + 1 := by simp
  have HW : Hid (∀ W, Below (w.alloc (oG vv ev rd wr0)).heap.size (w.alloc (oG vv ev rd wr0)) W → (W.cell? ⟨w.heap.size, 0, none⟩ = some vv ∧ W.cell? ⟨w.heap.size, 1, none⟩ = some ev ∧ W.cell? ⟨w.heap.size, 2, none⟩ = some (.int .i64 rd) ∧ W.cell? ⟨w.heap.size, 3, none⟩ = some (.int .i64 wr0)) ∧ GRow 0 W ev es ∧ SRow W kv ks) := fun W hW => by
    obtain ⟨c0, c1, c2, c3, -⟩ := cellsG ((hW.block w.heap.size (by omega)).trans (heap_alloc_new w (oG vv ev rd wr0)))
    exact ⟨⟨c0, c1, c2, c3⟩, grow_below (grow_below h hb) hW, (hr.below hb).below hW⟩
  obtain ⟨ka, kc, rfl, -⟩ := hr
  obtain ⟨kn, hkn⟩ : ∃ kn, kn = ks.length := ⟨_, rfl⟩
  have HKN : Hid (kn = ks.length ∧ kn ≤ 2000) := ⟨hkn, by omega⟩
  rw [← hkn]
  obtain ⟨ea, en, ec, hev⟩ := grow_shape h
  have HEN : Hid (en = es.length) := by
    rcases h.2 with ⟨e, h0⟩ | ⟨g, cap, cur, e, -⟩
    · rw [hev] at e; cases e; exact h0.symm
    · rw [hev] at e; cases e; rfl
  subst hev
  have HG := hide hG
  have HWT := hide hwt
  have HWY := hide hW
  have HOUT : Hid (∀ W, Below (w.alloc (oG vv (.slice ea en ec) rd wr0)).heap.size (w.alloc (oG vv (.slice ea en ec) rd wr0)) W → Below w.heap.size w W) := fun W hW => hb.trans (hW.mono (by omega))
  clear h hb hkl hG hs0 hkn hwt hW
  go_enter Tryz.func25, Tryz.ntmps25
  go_upto_region 1 with fail
  change Code.wp _ _ _ _ (w.alloc (oG vv (.slice ea en ec) rd wr0))
  obtain ⟨bb, hbb⟩ : ∃ bb, bb = w.heap.size := ⟨_, rfl⟩
  have HBB := hide hbb
  rw [← hbb]
  rw [← hbb] at HW
  clear hbb
  generalize w.alloc (oG vv (.slice ea en ec) rd wr0) = wb at *
  go_wp2_with fail
  go_loopw [5, 6, 7] (fun s5 s6 s7 wr => ∃ (i cst : Nat) (d : List EdgeV), s6 = .int .i64 i ∧ s5 = .int .u32 cst ∧ i ≤ kn ∧ Hid (RCL ps wb from_ ks cst i d wr)) (fun _ s6 _ _ => kn - (intOf s6).toNat)
  case atStart => exact ⟨0, 0, [], rfl, rfl, Nat.zero_le _, rfl, rfl, Below.refl _ _⟩
  case round =>
    obtain ⟨i, cst, d, rfl, rfl, hi, hS⟩ := hrel
    by_cases hlt : i < kn
    · have hz : (i : Int) < (kn : Int) := by omega
      obtain ⟨s1, s2, s3⟩ := unhide hS
      obtain ⟨⟨c0, c1, c2, c3⟩, hg, hp⟩ := unhide HW wr s3
      obtain ⟨e, he⟩ : ∃ e, ks[i]? = some e := ⟨_, List.getElem?_eq_getElem (by have := unhide HKN; omega)⟩
      obtain ⟨ka', kc', hke, hkc⟩ := hp
      injection hke with hk1 hk2 hk3
      subst hk1
      obtain ⟨kg, ko, rfl, hce⟩ := hkc i e he
      obtain ⟨x, hk⟩ := way_lk8 (unhide HWY) he
      obtain ⟨hxm, hxe⟩ := (unhide HG).mem e x hk
      obtain ⟨j, hj⟩ := List.mem_iff_getElem?.1 hxm
      have hjl : j < es.length := (List.getElem?_eq_some_iff.1 hj).1
      obtain ⟨eg, ec', heg, -⟩ := grow_at hg (by omega)
      injection heg with heg1 heg2 heg3
      subst heg1
      have hwt := unhide HWT x hxm
      have hx4 : x.2.2.2 = ((x.2.2.2.toNat : Nat) : Int) := by have := hwt.1; omega
      have hwd : Way ps from_ (ks.take (i + 1)) (d ++ [x]) := by
        have h1 := unhide HWY
        rw [← List.take_append_drop (i + 1) ks, take_succ_of he] at h1
        obtain ⟨d1, d2, -, h2, -⟩ := Way.split h1
        obtain ⟨d3, d4, rfl, h3, h4⟩ := Way.split h2
        obtain ⟨y, d5, rfl, h5, h6, h7⟩ := h4
        have h7' : d5 = [] := h7
        subst h7'
        have e3 := h3.all.symm.trans s1.all
        injection e3 with e3
        subst e3
        rw [hk] at h5
        injection h5 with h5
        subst h5
        rw [take_succ_of he]
        exact h2
      have hwi : wrap64 ((i : Int) + 1) = ((i + 1 : Nat) : Int) := by have := unhide HKN; unfold wrap64; omega
      have HWI := hide hwi
      have hjz : (j : Int) < (en : Int) := by have := unhide HEN; omega
      obtain ⟨xe, xu, xv, xb⟩ := x
      simp only at hx4
      have HCELL : Hid (∀ W, Below wr.heap.size wr W → (W.cell? ⟨bb, 0, none⟩ = some vv ∧ W.cell? ⟨bb, 1, none⟩ = some (.slice (some ⟨eg, 0, none⟩) en ec) ∧ W.cell? ⟨bb, 2, none⟩ = some (.int .i64 rd) ∧ W.cell? ⟨bb, 3, none⟩ = some (.int .i64 wr0) ∧ W.cell? ⟨kg, ko + i, none⟩ = some (.int .i64 e) ∧ W.cell? ⟨eg, j * 4, none⟩ = some (.int .i64 xe) ∧ W.cell? ⟨eg, j * 4 + 1, none⟩ = some (.int .i64 xu) ∧ W.cell? ⟨eg, j * 4 + 2, none⟩ = some (.int .i64 xv) ∧ W.cell? ⟨eg, j * 4 + 3, none⟩ = some (.int .u32 xb))) := fun W h2 => by
        have h3 : Below wb.heap.size wb W := s3.trans (h2.mono s3.size)
        obtain ⟨⟨d0, d1, d2, d3⟩, hg3, -⟩ := unhide HW W h3
        obtain ⟨eg2, ec2, he2, hec2⟩ := grow_at hg3 (by omega)
        injection he2 with he21 he22 he23
        injection he21 with he21
        injection he21 with he21
        obtain ⟨q1, q2, q3, q4⟩ := hec2 j _ hj
        rw [← he21] at q1 q2 q3 q4
        exact ⟨d0, d1, d2, d3, (cell_of_heap (x := ⟨kg, ko + i, none⟩) (h2.block kg (World.block_lt_of_cell? _ _ hce))).trans hce, q1, q2, q3, q4⟩
      have CA : Hid (∀ W, Below wr.heap.size wr W → Calls Tryz.prog 38 #[.agg #[vv, .slice (some ⟨eg, 0, none⟩) en ec, .int .i64 rd, .int .i64 wr0], .int .i64 e] W fun e' w' => e' = .returned (.int .i64 (j : Int)) ∧ Hid (Below wr.heap.size wr w' ∧ Below W.heap.size W w')) := fun W hW => by
        refine (refAt (vv := vv) (rd := rd) (wr := wr0) e (grow_below hg hW) (by have := (unhide HG).len; omega)).mono ?_
        rintro e' w' ⟨r, rfl, hh⟩
        obtain ⟨h1, h2⟩ := unhide hh
        obtain rfl := (unhide HG).at_some hk hj h1
        exact ⟨rfl, hW.trans (h2.mono hW.size), h2⟩
      have CS : Hid (∀ W, Calls Tryz.prog 50 #[.int .u32 (cst : Int), .int .u32 xb] W fun e w' => e = .returned (.int .u32 ((costOf (d ++ [(xe, xu, xv, xb)]) : Nat) : Int)) ∧ ∃ nq, w' = W.drewN nq) := fun W => by
        rw [hx4, costOf_snoc, s2]
        simp only
        rw [← hx4]
        have := refFold_step (c := costOf d) xb.toNat (costOf_le d) W
        rw [← hx4] at this
        exact this
      have HWD : Hid (Way ps from_ (ks.take (i + 1)) (d ++ [(xe, xu, xv, xb)]) ∧ Below wb.heap.size wb wr) := ⟨hwd, s3⟩
      have HC0 := hide (unhide HCELL wr (Below.refl _ _))
      clear hS s1 s2 s3 hg hkc he hwi hk hk3 hxm hxe hj hjl heg2 heg3 hwt hwd c0 c1 c2 c3 hce hx4
      go_upto_region 5 with fail
      have hc0 := unhide HC0
      refine wp_region_noPanic ?_
      refine regionL [11] (fun y => y.cell? ⟨bb, 0, none⟩ = some vv ∧ y.cell? ⟨bb, 1, none⟩ = some (.slice (some ⟨eg, 0, none⟩) en ec) ∧ y.cell? ⟨bb, 2, none⟩ = some (.int .i64 rd) ∧ y.cell? ⟨bb, 3, none⟩ = some (.int .i64 wr0) ∧ y.cell? ⟨kg, ko + i, none⟩ = some (.int .i64 e) ∧ y.cell? ⟨eg, j * 4, none⟩ = some (.int .i64 xe) ∧ y.cell? ⟨eg, j * 4 + 1, none⟩ = some (.int .i64 xu) ∧ y.cell? ⟨eg, j * 4 + 2, none⟩ = some (.int .i64 xv) ∧ y.cell? ⟨eg, j * 4 + 3, none⟩ = some (.int .u32 xb)) (by kernel_rfl) hc0 (fun hHeld => ?_)
      refine takeL (i := 0) (v := ?t2v0) (some 14) rfl rfl (by kernel_rfl) (by kernel_rfl) (by kernel_rfl) (by kernel_rfl) (by kernel_rfl) (fun _ _ _ h => h) (Or.inl ⟨by rfl, ?t2h0⟩) (by assumption) ?t2r0
      case t2h0 => (intro y hSu; (try dsimp only at hSu); go_simp; first | done | with_reducible rfl)
      (try simp only [Act.put, List.setIfInBounds_toArray, List.set_cons_zero, List.set_cons_succ])
      refine takeL (i := 1) (v := ?t2v1) (some 15) rfl rfl (by kernel_rfl) (by kernel_rfl) (by kernel_rfl) (by kernel_rfl) (by kernel_rfl) (fun _ _ _ h => h) (Or.inl ⟨by rfl, ?t2h1⟩) (by assumption) ?t2r1
      case t2h1 => (intro y hSu; (try dsimp only at hSu); go_simp; first | done | with_reducible rfl)
      (try simp only [Act.put, List.setIfInBounds_toArray, List.set_cons_zero, List.set_cons_succ])
      refine takeL (i := 2) (v := ?t2v2) (some 16) rfl rfl (by kernel_rfl) (by kernel_rfl) (by kernel_rfl) (by kernel_rfl) (by kernel_rfl) (fun _ _ _ h => h) (Or.inl ⟨by rfl, ?t2h2⟩) (by assumption) ?t2r2
      case t2h2 => (intro y hSu; (try dsimp only at hSu); go_simp; first | done | with_reducible rfl)
      (try simp only [Act.put, List.setIfInBounds_toArray, List.set_cons_zero, List.set_cons_succ])
      refine takeL (i := 3) (v := ?t2v3) (some 17) rfl rfl (by kernel_rfl) (by kernel_rfl) (by kernel_rfl) (by kernel_rfl) (by kernel_rfl) (fun _ _ _ h => h) (Or.inl ⟨by rfl, ?t2h3⟩) (by assumption) ?t2r3
      case t2h3 => (intro y hSu; (try dsimp only at hSu); go_simp; first | done | with_reducible rfl)
      (try simp only [Act.put, List.setIfInBounds_toArray, List.set_cons_zero, List.set_cons_succ])
      refine takeL (i := 4) (v := ?t2v4) (some 18) rfl rfl (by kernel_rfl) (by kernel_rfl) (by kernel_rfl) (by kernel_rfl) (by kernel_rfl) (fun _ _ _ h => h) (Or.inl ⟨by rfl, ?t2h4⟩) (by assumption) ?t2r4
      case t2h4 => (intro y hSu; (try dsimp only at hSu); go_simp; first | done | with_reducible rfl)
      (try simp only [Act.put, List.setIfInBounds_toArray, List.set_cons_zero, List.set_cons_succ])
      refine takeL (i := 5) (v := ?t2v5) (some 19) rfl rfl (by kernel_rfl) (by kernel_rfl) (by kernel_rfl) (by kernel_rfl) (by kernel_rfl) (fun _ _ _ h => h) (Or.inl ⟨by rfl, ?t2h5⟩) (by assumption) ?t2r5
      case t2h5 => (intro y hSu; (try dsimp only at hSu); go_simp; first | done | with_reducible rfl)
      (try simp only [Act.put, List.setIfInBounds_toArray, List.set_cons_zero, List.set_cons_succ])
      refine takeL (i := 6) (v := ?t2v6) (some 20) rfl rfl (by kernel_rfl) (by kernel_rfl) (by kernel_rfl) (by kernel_rfl) (by kernel_rfl) (fun _ _ _ h => h) (Or.inl ⟨by rfl, ?t2h6⟩) (by assumption) ?t2r6
      case t2h6 => (intro y hSu; (try dsimp only at hSu); go_simp; first | done | with_reducible rfl)
      (try simp only [Act.put, List.setIfInBounds_toArray, List.set_cons_zero, List.set_cons_succ])
      refine readyL2 (i := 7) (k := 10) (by kernel_rfl) rfl rfl (fun K hK => ?_) (fun K hK => ?_)
      · go_simp
        refine (unhide CA _ (by exact (Below.refl _ _).drew)).mono ?_
        rintro e' w4 ⟨rfl, hw4⟩
        have hc4 := unhide HCELL w4 (unhide hw4).1
        (try dsimp only)
        refine hK.out _ _ (fun _ => hc4) ?_
        clear hK K
        (try simp only [Act.put, List.setIfInBounds_toArray, List.set_cons_zero, List.set_cons_succ])
        have hH3 := hc4
        refine takeL (i := 8) (v := ?t4v8) (some 22) rfl rfl (by kernel_rfl) (by kernel_rfl) (by kernel_rfl) (by kernel_rfl) (by kernel_rfl) (fun _ _ _ h => h) (Or.inl ⟨by rfl, ?t4h8⟩) (by assumption) ?t4r8
        case t4h8 => (intro y hSu; (try dsimp only at hSu); go_simp; first | done | with_reducible rfl)
        (try simp only [Act.put, List.setIfInBounds_toArray, List.set_cons_zero, List.set_cons_succ])
        refine takeL (i := 9) (v := ?t4v9) (some 23) rfl rfl (by kernel_rfl) (by kernel_rfl) (by kernel_rfl) (by kernel_rfl) (by kernel_rfl) (fun _ _ _ h => h) (Or.inl ⟨by rfl, ?t4h9⟩) (by assumption) ?t4r9
        case t4h9 => (intro y hSu; (try dsimp only at hSu); go_simp; first | done | with_reducible rfl)
        (try simp only [Act.put, List.setIfInBounds_toArray, List.set_cons_zero, List.set_cons_succ])
        refine readyL (i := 10) (by kernel_rfl) rfl (fun K hK => ?_)
        go_simp
        have hc5 := unhide HCELL (w4.alloc o34) ((unhide hw4).1.alloc (by have := (unhide hw4).1.size; omega) _)
        refine hK.out _ _ (fun _ => hc5) ?_
        clear hK K
        (try simp only [Act.put, List.setIfInBounds_toArray, List.set_cons_zero, List.set_cons_succ])
        have hH6 := hc5
        refine readyL (i := 11) (by kernel_rfl) rfl (fun K hK => ?_)
        go_simp
        refine hK.out _ _ (fun h => by cases h) ?_
        clear hK K
        (try simp only [Act.put, List.setIfInBounds_toArray, List.set_cons_zero, List.set_cons_succ])
        refine doneL (by kernel_rfl) ?_ _
        refine NoPanic.normal ?_
        change Exit.then _ _ _ _ (w4.alloc (oE (xe, xu, xv, xb)))
        obtain ⟨-, -, -, x3, -⟩ := box_cells (heap_alloc_new w4 (oE (xe, xu, xv, xb)))
        simp only at x3
        have HB5 : Hid (Below wb.heap.size wb (w4.alloc (oE (xe, xu, xv, xb)))) := ((unhide HWD).2.trans ((unhide hw4).1.mono (unhide HWD).2.size)).alloc (by have := (unhide HWD).2.size; have := (unhide hw4).1.size; omega) _
        generalize w4.alloc (oE (xe, xu, xv, xb)) = w5 at *
        generalize w4.heap.size = bx at *
        clear HCELL CA hc0 hc4 hc5 hHeld HC0
        go_wp2_with fail
        refine (unhide CS _).mono ?_
        rintro e' w6 ⟨rfl, nq, rfl⟩
        clear CS
        go_wp2_with fail
        (try rw [unhide HWI])
        exact ⟨⟨i + 1, _, d ++ [(xe, xu, xv, xb)], rfl, rfl, by omega, (unhide HWD).1, rfl, below_drewN (unhide HB5) nq⟩, by simp [intOf]; omega⟩
      · go_simp
        have hc4 := unhide HCELL (wr.drew.alloc o34) (((Below.refl _ _).drew).alloc (Nat.le_refl _) _)
        refine hK.out _ _ (fun _ => hc4) ?_
        clear hK K
        (try simp only [Act.put, List.setIfInBounds_toArray, List.set_cons_zero, List.set_cons_succ])
        have hH10 := hc4
        refine readyL (i := 7) (by kernel_rfl) rfl (fun K hK => ?_)
        go_simp
        refine (unhide CA _ (by exact ((Below.refl _ _).drew).alloc (Nat.le_refl _) _)).mono ?_
        rintro e' w4 ⟨rfl, hw4⟩
        have hc5 := unhide HCELL w4 (unhide hw4).1
        obtain ⟨g0, g1, g2, g3, gf⟩ := cells34 (w := w4) (g := wr.heap.size) ((unhide hw4).2.block _ (by simp) |>.trans (heap_alloc_new _ _))
        (try dsimp only)
        refine hK.out _ _ (fun _ => hc5) ?_
        clear hK K
        (try simp only [Act.put, List.setIfInBounds_toArray, List.set_cons_zero, List.set_cons_succ])
        have hH12 := hc5
        refine takeL (i := 8) (v := ?t13v8) (some 22) rfl rfl (by kernel_rfl) (by kernel_rfl) (by kernel_rfl) (by kernel_rfl) (by kernel_rfl) (fun _ _ _ h => h) (Or.inl ⟨by rfl, ?t13h8⟩) (by assumption) ?t13r8
        case t13h8 => (intro y hSu; (try dsimp only at hSu); go_simp; first | done | with_reducible rfl)
        (try simp only [Act.put, List.setIfInBounds_toArray, List.set_cons_zero, List.set_cons_succ])
        refine takeL (i := 9) (v := ?t13v9) (some 23) rfl rfl (by kernel_rfl) (by kernel_rfl) (by kernel_rfl) (by kernel_rfl) (by kernel_rfl) (fun _ _ _ h => h) (Or.inl ⟨by rfl, ?t13h9⟩) (by assumption) ?t13r9
        case t13h9 => (intro y hSu; (try dsimp only at hSu); go_simp; first | done | with_reducible rfl)
        (try simp only [Act.put, List.setIfInBounds_toArray, List.set_cons_zero, List.set_cons_succ])
        refine readyL (i := 11) (by kernel_rfl) rfl (fun K hK => ?_)
        go_simp
        refine hK.out _ _ (fun h => by cases h) ?_
        clear hK K
        (try simp only [Act.put, List.setIfInBounds_toArray, List.set_cons_zero, List.set_cons_succ])
        refine doneL (by kernel_rfl) ?_ _
        refine NoPanic.normal ?_
        change Exit.then _ _ _ _ (set4 w4 wr.heap.size (.int .i64 xe) (.int .i64 xu) (.int .i64 xv) (.int .u32 xb))
        have hbx : w4.heap[wr.heap.size]? = some o34 := ((unhide hw4).2.block _ (by simp)).trans (heap_alloc_new _ _)
        obtain ⟨-, -, -, x3, -⟩ := cells34 (set4_at hbx (.int .i64 xe) (.int .i64 xu) (.int .i64 xv) (.int .u32 xb))
        have HB5 : Hid (Below wb.heap.size wb (set4 w4 wr.heap.size (.int .i64 xe) (.int .i64 xu) (.int .i64 xv) (.int .u32 xb))) := (unhide HWD).2.trans ((set4_below (unhide hw4).1 (Nat.le_refl _) _ _ _ _).mono (unhide HWD).2.size)
        clear hbx g0 g1 g2 g3 gf
        generalize set4 w4 wr.heap.size (.int .i64 xe) (.int .i64 xu) (.int .i64 xv) (.int .u32 xb) = w5 at *
        generalize wr.heap.size = bx at *
        clear HCELL CA hc0 hc4 hc5 hHeld HC0
        go_wp2_with fail
        refine (unhide CS _).mono ?_
        rintro e' w6 ⟨rfl, nq, rfl⟩
        clear CS
        go_wp2_with fail
        (try rw [unhide HWI])
        exact ⟨⟨i + 1, _, d ++ [(xe, xu, xv, xb)], rfl, rfl, by omega, (unhide HWD).1, rfl, below_drewN (unhide HB5) nq⟩, by simp [intOf]; omega⟩
    · have hz : ¬ (i : Int) < (kn : Int) := by omega
      obtain rfl : i = kn := by omega
      have HF : Hid (cst = costOf dd ∧ Below w.heap.size w wr) := by
        obtain ⟨s1, s2, s3⟩ := unhide hS
        rw [List.take_of_length_le (by have := (unhide HKN).1; omega)] at s1
        have e3 := s1.all.symm.trans (unhide HWY).all
        injection e3 with e3
        exact ⟨by rw [s2, e3], unhide HOUT wr s3⟩
      clear hS
      go_wp2_with fail
      go_ret
      exact ⟨by rw [(unhide HF).1]; rfl, (unhide HF).2⟩
end Go.Proofs.YtagibmgbjhemkaaGreat
