/- play, kind 4. -/
import Derived.Test.YtbmcibofecigeaaPlM14
namespace Go.Proofs.Ytbmcibofecigeaa

section
open Go.RowKit Go.Maps
set_option maxHeartbeats 4000000 in
set_option maxRecDepth 100000 in
theorem play3 {L : Lab} {w : World} {p : Nat} {s tc : Int} {vs : List Int} {gs : List EdV} {T : L14.Tr} {N : Nat} {vv ev : Value} {rd wr_0 e u v b : Int} {t : Int} (hK : LvK L w p s tc vs gs T N) (hvv : NRow w vv vs) (hev : ERow 0 w ev gs) (lv : ∀ b, vv.ownBlock = some b → L b = none) (le : ∀ b, ev.ownBlock = some b → L b = none)
    (HR : ∀ W, Below w.heap.size w W → Calls Try.prog 21 #[.agg #[vv, ev, .int .i64 rd, .int .i64 wr_0], .agg #[.int .i64 e, .int .i64 u, .int .i64 v, .int .u32 b]] W fun r w2 => ∃ va vn vc ea en ec wr1, r = .returned (.tuple #[.agg #[.slice va vn vc, .slice ea en ec, .int .i64 rd, .int .i64 wr1], .int .i64 t]) ∧ Hid (Pair p s tc vs gs T N wr_0 3 e vv ev W (fun Q W2 => Calls Try.prog 13 #[.pointer (some ⟨p, 0, none⟩), .agg #[.int .i64 e, .int .i64 u, .int .i64 v, .int .u32 b]] W2 Q) (.int .i64 t) (.slice va vn vc) (.slice ea en ec) wr1 w2)) :
    Calls Try.prog 8 #[.pointer (some ⟨p, 0, none⟩), .agg #[vv, ev, .int .i64 rd, .int .i64 wr_0], .int .i64 s, .agg #[.int .i64 3, .int .i64 e, .int .i64 u, .int .i64 v, .int .u32 b]] w fun r w' => Hid (PlayAns L w p s tc vs gs T N vv ev rd wr_0 3 e r w') := by
  obtain ⟨t1, t2, t3, t4, t5⟩ := three_boxesP w (oG vv ev rd wr_0) (oOp 3 e u v b)
  have P0 : PG L w w.heap.size vv ev rd wr_0 3 e u v b L (((w.alloc (oG vv ev rd wr_0)).alloc (oOp 3 e u v b)).alloc oZ) := ⟨ChL.below t4, t1, t2, t3, hK.fr _ (by omega), hK.fr _ (by omega), hK.fr _ (by omega), rfl⟩
  have K0 := hK.below t4
  obtain ⟨c0, c1, c2, c3, cf⟩ := cellsG t1
  obtain ⟨p0, p1, p2, p3, p4⟩ := cellsOp t2
  have bX := below_new (((w.alloc (oG vv ev rd wr_0)).alloc (oOp 3 e u v b)).alloc oZ) (oEd14 e u v b)
  have xX := heap_alloc_new (((w.alloc (oG vv ev rd wr_0)).alloc (oOp 3 e u v b)).alloc oZ) (oEd14 e u v b)
  have CR := hide (HR _ (t4.trans (bX.mono t4.size)))
  have HEB := hide (And.intro bX xX)
  have HP0 := hide P0
  have HK0 := hide K0
  have HLV : Hid ((∀ b, vv.ownBlock = some b → L b = none ∧ b < w.heap.size) ∧ (∀ b, ev.ownBlock = some b → L b = none ∧ b < w.heap.size) ∧ (((w.alloc (oG vv ev rd wr_0)).alloc (oOp 3 e u v b)).alloc oZ).heap.size = w.heap.size + 3 ∧ ∀ b, w.heap.size ≤ b → L b = none) := ⟨fun b q => ⟨lv b q, (hvv.lt b q).2⟩, fun b q => ⟨le b q, (hev.lt b q).2⟩, t5, hK.fr⟩
  obtain ⟨va0, vc0, hv0, -⟩ := brow_shape hvv
  obtain ⟨vn0, hv0'⟩ : ∃ vn0, vv = .slice va0 vn0 vc0 := ⟨_, hv0⟩
  obtain ⟨ea0, ec0, he0⟩ := rrow_shape hev
  obtain ⟨en0, he0'⟩ : ∃ en0, ev = .slice ea0 en0 ec0 := ⟨_, he0⟩
  clear t1 t2 t3 t4 t5 P0 K0 hK hvv hev lv le HR hv0 he0 bX xX
  subst hv0' he0'
  go_enter Try.func8, Try.ntmps8
  go_upto_region 1 with fail
  change Code.wp _ _ _ _ (((w.alloc (oG (.slice va0 vn0 vc0) (.slice ea0 en0 ec0) rd wr_0)).alloc (oOp 3 e u v b)).alloc oZ)
  generalize ((w.alloc (oG (.slice va0 vn0 vc0) (.slice ea0 en0 ec0) rd wr_0)).alloc (oOp 3 e u v b)).alloc oZ = wb at *
  obtain ⟨bb, hbb⟩ : ∃ bb, bb = w.heap.size := ⟨_, rfl⟩
  have HBB := hide hbb
  rw [← hbb] at c0 c1 c2 c3 cf p0 p1 p2 p3 p4 HP0
  rw [← hbb]
  clear hbb
  have hsz : wb.heap.size = bb + 3 := by rw [unhide HBB]; exact (unhide HLV).2.2.1
  rw [hsz] at HEB
  have HSZ := hide hsz
  go_upto_region 11 with fail
  change Code.wp _ _ _ _ (wb.alloc (oEd14 e u v b))
  generalize wb.alloc (oEd14 e u v b) = we at *
  have P1 := (unhide HP0).next (ChL.below (by rw [hsz]; exact (unhide HEB).1))
  obtain ⟨i0, i1, i2, i3⟩ := cellsEd14 (unhide HEB).2
  clear c0 c1 c2 c3 cf p0 p1 p2 p3 p4 hsz
  obtain ⟨c0, c1, c2, c3, cf⟩ := cellsG P1.box
  clear P1
  go_wp2_with fail
  refine (unhide CR).mono ?_
  rintro r w2 ⟨va, vn, vc, ea, en, ec, wr1, rfl, HQ⟩
  clear CR c0 c1 c2 c3 cf
  obtain ⟨vs', gs', n1, n2, hb, a1, a2, w1, w2', hG', hC⟩ := unhide HQ
  have P1 := (unhide HP0).next (ChL.below (by rw [unhide HSZ]; exact (unhide HEB).1))
  have K1 := (unhide HK0).below (by rw [unhide HSZ]; exact (unhide HEB).1)
  have hsz : bb + 3 ≤ we.heap.size := by rw [← unhide HSZ]; exact (unhide HEB).1.size
  have HX : Hid (w2.heap[bb + 3]? = some (oEd14 e u v b)) := (hb.block _ (Array.getElem?_eq_some_iff.1 (unhide HEB).2).1).trans (unhide HEB).2
  clear i0 i1 i2 i3
  obtain ⟨P3, R3⟩ := play_mid (wr1 := wr1) (rd := rd) P1 (unhide HLV).2.2.2 (unhide HLV).1 (unhide HLV).2.1 hsz n1 n2 hb a1 a2
  have P2 := P1.next (ChL.below hb)
  have K3 := (K1.below hb).set P2.l0 (.slice va vn vc) (.slice ea en ec) (.int .i64 rd) (.int .i64 wr1)
  obtain ⟨c0, c1, c2, c3, cf⟩ := cellsG P2.box
  obtain ⟨w3, hw3⟩ : ∃ w3, w3 = set4 w2 bb (.slice va vn vc) (.slice ea en ec) (.int .i64 rd) (.int .i64 wr1) := ⟨_, rfl⟩
  have HX3 : Hid (w3.heap[bb + 3]? = some (oEd14 e u v b) ∧ L (bb + 3) = none) := ⟨by rw [hw3, set4_other (by omega)]; exact unhide HX, (unhide HLV).2.2.2 _ (by rw [← unhide HBB]; omega)⟩
  obtain ⟨x0, x1, x2, x3⟩ := cellsEd14 (unhide HX)
  obtain ⟨o0, o1, o2, o3⟩ := cellsEd14 (unhide HX3).1
  rw [← hw3] at P3 R3 K3
  have CC := hide (hC _ (w3.drewN 1) (K3.below (below_drewN (Below.refl _ _) 1)))
  have HP3 := hide P3
  have HR3 := hide R3
  have HG : Hid (GV vs' gs' (N + 1) ∧ wr_0 ≤ wr1 ∧ wr1 ≤ wr_0 + 1) := ⟨hG', w1, w2'⟩
  have HC3 : Hid (ChL L w3 L (w3.drewN 1)) := ChL.below (below_drewN (Below.refl _ _) 1)
  obtain ⟨g0, g1, g2, g3, gf⟩ := cellsG P3.box
  have HW3 := hide hw3
  clear HQ n1 n2 hb a1 a2 w1 w2' hG' hC hsz P1 K1 P2 P3 R3 K3 HP0 HK0 HLV
  go_upto_region 12 with fail
  (try rw [show (((w2.setCell ⟨bb, 0, none⟩ (.slice va vn vc)).setCell ⟨bb, 1, none⟩ (.slice ea en ec)).setCell ⟨bb, 2, none⟩ (.int .i64 rd)).setCell ⟨bb, 3, none⟩ (.int .i64 wr1) = w3 from (unhide HW3).symm])
  clear c0 c1 c2 c3 cf x0 x1 x2 x3 hw3 HW3
  refine wp_region_noPanic ?_
  refine regionL [] (fun y => y.cell? ⟨bb, 0, none⟩ = some (.slice va vn vc) ∧ y.cell? ⟨bb, 1, none⟩ = some (.slice ea en ec) ∧ y.cell? ⟨bb, 2, none⟩ = some (.int .i64 rd) ∧ y.cell? ⟨bb, 3, none⟩ = some (.int .i64 wr1) ∧ y.cell? ⟨bb + 3, 0, none⟩ = some (.int .i64 e) ∧ y.cell? ⟨bb + 3, 1, none⟩ = some (.int .i64 u) ∧ y.cell? ⟨bb + 3, 2, none⟩ = some (.int .i64 v) ∧ y.cell? ⟨bb + 3, 3, none⟩ = some (.int .u32 b)) (by kernel_rfl) ⟨g0, g1, g2, g3, o0, o1, o2, o3⟩ (fun hHeld => ?_)
  refine takeL (i := 0) (v := ?t2v0) (some 65) rfl rfl (by kernel_rfl) (by kernel_rfl) (by kernel_rfl) (by kernel_rfl) (by kernel_rfl) (fun _ _ _ h => h) (Or.inl ⟨by rfl, ?t2h0⟩) (by assumption) ?t2r0
  case t2h0 => (intro y hSu; (try dsimp only at hSu); go_simp; first | done | with_reducible rfl)
  (try simp only [Act.put, List.setIfInBounds_toArray, List.set_cons_zero, List.set_cons_succ])
  refine takeL (i := 1) (v := ?t2v1) (some 66) rfl rfl (by kernel_rfl) (by kernel_rfl) (by kernel_rfl) (by kernel_rfl) (by kernel_rfl) (fun _ _ _ h => h) (Or.inl ⟨by rfl, ?t2h1⟩) (by assumption) ?t2r1
  case t2h1 => (intro y hSu; (try dsimp only at hSu); go_simp; first | done | with_reducible rfl)
  (try simp only [Act.put, List.setIfInBounds_toArray, List.set_cons_zero, List.set_cons_succ])
  refine takeL (i := 2) (v := ?t2v2) (some 67) rfl rfl (by kernel_rfl) (by kernel_rfl) (by kernel_rfl) (by kernel_rfl) (by kernel_rfl) (fun _ _ _ h => h) (Or.inl ⟨by rfl, ?t2h2⟩) (by assumption) ?t2r2
  case t2h2 => (intro y hSu; (try dsimp only at hSu); go_simp; first | done | with_reducible rfl)
  (try simp only [Act.put, List.setIfInBounds_toArray, List.set_cons_zero, List.set_cons_succ])
  refine takeL (i := 4) (v := ?t2v4) (some 69) rfl rfl (by kernel_rfl) (by kernel_rfl) (by kernel_rfl) (by kernel_rfl) (by kernel_rfl) (fun _ _ _ h => h) (Or.inl ⟨by rfl, ?t2h4⟩) (by assumption) ?t2r4
  case t2h4 => (intro y hSu; (try dsimp only at hSu); go_simp; first | done | with_reducible rfl)
  (try simp only [Act.put, List.setIfInBounds_toArray, List.set_cons_zero, List.set_cons_succ])
  refine readyL (i := 3) (by kernel_rfl) rfl (fun K hK => ?_)
  go_simp
  refine (unhide CC).mono ?_
  rintro r w4 ⟨rfl, HQ⟩
  obtain ⟨T', tc', ⟨L4, K4, ch4⟩, hB⟩ := unhide HQ
  have HC4 : Hid (ChL L w3 L4 w4) := (unhide HC3).trans ch4
  have P4 := (unhide HP3).next (unhide HC4)
  have HK4 : Hid (LvK L4 w4 p s tc' vs' gs' T' (N + 1) ∧ Bd 3 e wr_0 wr1 vs gs T tc vs' gs' T' tc') := ⟨K4, hB⟩
  obtain ⟨h0, h1, h2, h3, hf⟩ := cellsG P4.box
  have hx4 : w4.heap[bb + 3]? = some (oEd14 e u v b) := ((unhide HC4).tur.block _ (heap_lt (unhide HX3).1) (fun z => z (unhide HX3).2)).trans (unhide HX3).1
  obtain ⟨q0, q1, q2, q3⟩ := cellsEd14 hx4
  obtain ⟨d0, d1, d2, d3, df⟩ := cellsG (vv := .slice none 0 0) (ev := .slice none 0 0) (rd := 0) (wr := 0) P4.res
  have HE : Hid (w4.cell? ⟨bb, 0, none⟩ = some (.slice va vn vc) ∧ w4.cell? ⟨bb, 1, none⟩ = some (.slice ea en ec) ∧ w4.cell? ⟨bb, 2, none⟩ = some (.int .i64 rd) ∧ w4.cell? ⟨bb, 3, none⟩ = some (.int .i64 wr1) ∧ w4.cell? ⟨bb + 3, 0, none⟩ = some (.int .i64 e) ∧ w4.cell? ⟨bb + 3, 1, none⟩ = some (.int .i64 u) ∧ w4.cell? ⟨bb + 3, 2, none⟩ = some (.int .i64 v) ∧ w4.cell? ⟨bb + 3, 3, none⟩ = some (.int .u32 b)) := ⟨h0, h1, h2, h3, q0, q1, q2, q3⟩
  have hset : ∀ b, b ≠ bb + 2 → (set4 w4 (bb + 2) (.slice va vn vc) (.slice ea en ec) (.int .i64 rd) (.int .i64 wr1)).heap[b]? = w4.heap[b]? := fun b hb => set4_other hb _ _ _ _
  have hS21 : (set4 w4 (bb + 2) (.slice va vn vc) (.slice ea en ec) (.int .i64 rd) (.int .i64 wr1)).cell? ⟨bb, 0, none⟩ = some (.slice va vn vc) ∧ (set4 w4 (bb + 2) (.slice va vn vc) (.slice ea en ec) (.int .i64 rd) (.int .i64 wr1)).cell? ⟨bb, 1, none⟩ = some (.slice ea en ec) ∧ (set4 w4 (bb + 2) (.slice va vn vc) (.slice ea en ec) (.int .i64 rd) (.int .i64 wr1)).cell? ⟨bb, 2, none⟩ = some (.int .i64 rd) ∧ (set4 w4 (bb + 2) (.slice va vn vc) (.slice ea en ec) (.int .i64 rd) (.int .i64 wr1)).cell? ⟨bb, 3, none⟩ = some (.int .i64 wr1) ∧ (set4 w4 (bb + 2) (.slice va vn vc) (.slice ea en ec) (.int .i64 rd) (.int .i64 wr1)).cell? ⟨bb + 3, 0, none⟩ = some (.int .i64 e) ∧ (set4 w4 (bb + 2) (.slice va vn vc) (.slice ea en ec) (.int .i64 rd) (.int .i64 wr1)).cell? ⟨bb + 3, 1, none⟩ = some (.int .i64 u) ∧ (set4 w4 (bb + 2) (.slice va vn vc) (.slice ea en ec) (.int .i64 rd) (.int .i64 wr1)).cell? ⟨bb + 3, 2, none⟩ = some (.int .i64 v) ∧ (set4 w4 (bb + 2) (.slice va vn vc) (.slice ea en ec) (.int .i64 rd) (.int .i64 wr1)).cell? ⟨bb + 3, 3, none⟩ = some (.int .u32 b) := by
    obtain ⟨z0, z1, z2, z3, -⟩ := cellsG ((hset bb (by omega)).trans P4.box)
    obtain ⟨y0, y1, y2, y3⟩ := cellsEd14 ((hset (bb + 3) (by omega)).trans hx4)
    exact ⟨z0, z1, z2, z3, y0, y1, y2, y3⟩
  unfold set4 at hS21
  have HRES := hide P4.res
  clear CC HQ P4 K4 ch4 hB HC3 hset h0 h1 h2 h3 hf q0 q1 q2 q3 hx4
  (try dsimp only)
  refine hK.out _ _ (fun _ => (unhide HE)) ?_
  clear hK K
  (try simp only [Act.put, List.setIfInBounds_toArray, List.set_cons_zero, List.set_cons_succ])
  have hH4 := (unhide HE)
  refine takeL (i := 5) (v := ?t5v5) (some 70) rfl rfl (by kernel_rfl) (by kernel_rfl) (by kernel_rfl) (by kernel_rfl) (by kernel_rfl) (fun _ _ _ h => h) (Or.inl ⟨by rfl, ?t5h5⟩) (by assumption) ?t5r5
  case t5h5 => (intro y hSu; (try dsimp only at hSu); go_simp; first | done | with_reducible rfl)
  (try simp only [Act.put, List.setIfInBounds_toArray, List.set_cons_zero, List.set_cons_succ])
  refine readyL (i := 6) (by kernel_rfl) rfl (fun K hK => ?_)
  go_simp
  refine hK.out _ _ (fun _ => hS21) ?_
  clear hK K
  (try simp only [Act.put, List.setIfInBounds_toArray, List.set_cons_zero, List.set_cons_succ])
  have hH7 := hS21
  refine takeL (i := 7) (v := ?t8v7) (some 9) rfl rfl (by kernel_rfl) (by kernel_rfl) (by kernel_rfl) (by kernel_rfl) (by kernel_rfl) (fun _ _ _ h => h) (Or.inl ⟨by rfl, ?t8h7⟩) (by assumption) ?t8r7
  case t8h7 => (intro y hSu; (try dsimp only at hSu); go_simp; first | done | with_reducible rfl)
  (try simp only [Act.put, List.setIfInBounds_toArray, List.set_cons_zero, List.set_cons_succ])
  refine doneL (by kernel_rfl) ?_ _
  refine NoPanic.normal ?_
  clear hS21 HE d0 d1 d2 d3 df g0 g1 g2 g3 gf o0 o1 o2 o3
  go_wp2_with fail
  (try simp only [Exit.inBlock, Exit.then])
  change bodyPost _ _ _ _ _ (set4 w4 (bb + 2) _ _ _ _)
  refine bodyPost_ret (resG rfl _ _ (bb + 2) _ _ _ _ rfl (set4G_at (unhide HRES) _ _ _ _)) rfl ?_
  exact play_end (unhide HP3) (unhide HR3) (unhide HK4).1 (unhide HC4) (unhide HG).1 (unhide HG).2.1 (unhide HG).2.2 (unhide HK4).2
end

section
open Go.RowKit Go.Maps
set_option maxHeartbeats 4000000 in
set_option maxRecDepth 100000 in
theorem play4 {L : Lab} {w : World} {p : Nat} {s tc : Int} {vs : List Int} {gs : List EdV} {T : L14.Tr} {N : Nat} {vv ev : Value} {rd wr_0 e u v b : Int} {t : Int} (hK : LvK L w p s tc vs gs T N) (hvv : NRow w vv vs) (hev : ERow 0 w ev gs) (lv : ∀ b, vv.ownBlock = some b → L b = none) (le : ∀ b, ev.ownBlock = some b → L b = none)
    (HR : ∀ W, Below w.heap.size w W → Calls Try.prog 22 #[.agg #[vv, ev, .int .i64 rd, .int .i64 wr_0], .int .i64 e] W fun r w2 => ∃ va vn vc ea en ec wr1 mid, r = .returned (.tuple #[.agg #[.slice va vn vc, .slice ea en ec, .int .i64 rd, .int .i64 wr1], mid, .int .i64 t]) ∧ Hid (Pair p s tc vs gs T N wr_0 4 e vv ev W (fun Q W2 => Calls Try.prog 23 #[.pointer (some ⟨p, 0, none⟩), .int .i64 e] W2 Q) (.int .i64 t) (.slice va vn vc) (.slice ea en ec) wr1 w2)) :
    Calls Try.prog 8 #[.pointer (some ⟨p, 0, none⟩), .agg #[vv, ev, .int .i64 rd, .int .i64 wr_0], .int .i64 s, .agg #[.int .i64 4, .int .i64 e, .int .i64 u, .int .i64 v, .int .u32 b]] w fun r w' => Hid (PlayAns L w p s tc vs gs T N vv ev rd wr_0 4 e r w') := by
  obtain ⟨t1, t2, t3, t4, t5⟩ := three_boxesP w (oG vv ev rd wr_0) (oOp 4 e u v b)
  have P0 : PG L w w.heap.size vv ev rd wr_0 4 e u v b L (((w.alloc (oG vv ev rd wr_0)).alloc (oOp 4 e u v b)).alloc oZ) := ⟨ChL.below t4, t1, t2, t3, hK.fr _ (by omega), hK.fr _ (by omega), hK.fr _ (by omega), rfl⟩
  have K0 := hK.below t4
  obtain ⟨c0, c1, c2, c3, cf⟩ := cellsG t1
  obtain ⟨p0, p1, p2, p3, p4⟩ := cellsOp t2
  have CR := hide (HR _ t4)
  have HP0 := hide P0
  have HK0 := hide K0
  have HLV : Hid ((∀ b, vv.ownBlock = some b → L b = none ∧ b < w.heap.size) ∧ (∀ b, ev.ownBlock = some b → L b = none ∧ b < w.heap.size) ∧ (((w.alloc (oG vv ev rd wr_0)).alloc (oOp 4 e u v b)).alloc oZ).heap.size = w.heap.size + 3 ∧ ∀ b, w.heap.size ≤ b → L b = none) := ⟨fun b q => ⟨lv b q, (hvv.lt b q).2⟩, fun b q => ⟨le b q, (hev.lt b q).2⟩, t5, hK.fr⟩
  obtain ⟨va0, vc0, hv0, -⟩ := brow_shape hvv
  obtain ⟨vn0, hv0'⟩ : ∃ vn0, vv = .slice va0 vn0 vc0 := ⟨_, hv0⟩
  obtain ⟨ea0, ec0, he0⟩ := rrow_shape hev
  obtain ⟨en0, he0'⟩ : ∃ en0, ev = .slice ea0 en0 ec0 := ⟨_, he0⟩
  clear t1 t2 t3 t4 t5 P0 K0 hK hvv hev lv le HR hv0 he0
  subst hv0' he0'
  go_enter Try.func8, Try.ntmps8
  go_upto_region 1 with fail
  change Code.wp _ _ _ _ (((w.alloc (oG (.slice va0 vn0 vc0) (.slice ea0 en0 ec0) rd wr_0)).alloc (oOp 4 e u v b)).alloc oZ)
  generalize ((w.alloc (oG (.slice va0 vn0 vc0) (.slice ea0 en0 ec0) rd wr_0)).alloc (oOp 4 e u v b)).alloc oZ = wb at *
  obtain ⟨bb, hbb⟩ : ∃ bb, bb = w.heap.size := ⟨_, rfl⟩
  have HBB := hide hbb
  rw [← hbb] at c0 c1 c2 c3 cf p0 p1 p2 p3 p4 HP0
  rw [← hbb]
  clear hbb
  go_wp2_with fail
  refine (unhide CR).mono ?_
  rintro r w2 ⟨va, vn, vc, ea, en, ec, wr1, mid, rfl, HQ⟩
  clear CR c0 c1 c2 c3 cf p0 p1 p2 p3 p4
  obtain ⟨vs', gs', n1, n2, hb, a1, a2, w1, w2', hG', hC⟩ := unhide HQ
  have P1 := unhide HP0
  have K1 := unhide HK0
  have hsz : bb + 3 ≤ wb.heap.size := by rw [unhide HBB]; exact Nat.le_of_eq (unhide HLV).2.2.1.symm
  obtain ⟨P3, R3⟩ := play_mid (wr1 := wr1) (rd := rd) P1 (unhide HLV).2.2.2 (unhide HLV).1 (unhide HLV).2.1 hsz n1 n2 hb a1 a2
  have P2 := P1.next (ChL.below hb)
  have K3 := (K1.below hb).set P2.l0 (.slice va vn vc) (.slice ea en ec) (.int .i64 rd) (.int .i64 wr1)
  obtain ⟨c0, c1, c2, c3, cf⟩ := cellsG P2.box
  obtain ⟨w3, hw3⟩ : ∃ w3, w3 = set4 w2 bb (.slice va vn vc) (.slice ea en ec) (.int .i64 rd) (.int .i64 wr1) := ⟨_, rfl⟩
  rw [← hw3] at P3 R3 K3
  have CC := hide (hC _ (w3.drewN 1) (K3.below (below_drewN (Below.refl _ _) 1)))
  have HP3 := hide P3
  have HR3 := hide R3
  have HG : Hid (GV vs' gs' (N + 1) ∧ wr_0 ≤ wr1 ∧ wr1 ≤ wr_0 + 1) := ⟨hG', w1, w2'⟩
  have HC3 : Hid (ChL L w3 L (w3.drewN 1)) := ChL.below (below_drewN (Below.refl _ _) 1)
  obtain ⟨g0, g1, g2, g3, gf⟩ := cellsG P3.box
  obtain ⟨o0, o1, o2, o3, o4⟩ := cellsOp P3.op
  obtain ⟨x0, x1, x2, x3, x4⟩ := cellsOp P2.op
  have HW3 := hide hw3
  clear HQ n1 n2 hb a1 a2 w1 w2' hG' hC hsz P1 K1 P2 P3 R3 K3 HP0 HK0 HLV
  go_upto_region 15 with fail
  (try rw [show (((w2.setCell ⟨bb, 0, none⟩ (.slice va vn vc)).setCell ⟨bb, 1, none⟩ (.slice ea en ec)).setCell ⟨bb, 2, none⟩ (.int .i64 rd)).setCell ⟨bb, 3, none⟩ (.int .i64 wr1) = w3 from (unhide HW3).symm])
  clear c0 c1 c2 c3 cf x0 x1 x2 x3 x4 hw3 HW3
  refine wp_region_noPanic ?_
  refine regionL [] (fun y => y.cell? ⟨bb, 0, none⟩ = some (.slice va vn vc) ∧ y.cell? ⟨bb, 1, none⟩ = some (.slice ea en ec) ∧ y.cell? ⟨bb, 2, none⟩ = some (.int .i64 rd) ∧ y.cell? ⟨bb, 3, none⟩ = some (.int .i64 wr1) ∧ y.cell? ⟨bb + 1, 1, none⟩ = some (.int .i64 e)) (by kernel_rfl) ⟨g0, g1, g2, g3, o1⟩ (fun hHeld => ?_)
  refine takeL (i := 0) (v := ?t2v0) (some 81) rfl rfl (by kernel_rfl) (by kernel_rfl) (by kernel_rfl) (by kernel_rfl) (by kernel_rfl) (fun _ _ _ h => h) (Or.inl ⟨by rfl, ?t2h0⟩) (by assumption) ?t2r0
  case t2h0 => (intro y hSu; (try dsimp only at hSu); go_simp; first | done | with_reducible rfl)
  (try simp only [Act.put, List.setIfInBounds_toArray, List.set_cons_zero, List.set_cons_succ])
  refine takeL (i := 1) (v := ?t2v1) (some 82) rfl rfl (by kernel_rfl) (by kernel_rfl) (by kernel_rfl) (by kernel_rfl) (by kernel_rfl) (fun _ _ _ h => h) (Or.inl ⟨by rfl, ?t2h1⟩) (by assumption) ?t2r1
  case t2h1 => (intro y hSu; (try dsimp only at hSu); go_simp; first | done | with_reducible rfl)
  (try simp only [Act.put, List.setIfInBounds_toArray, List.set_cons_zero, List.set_cons_succ])
  refine takeL (i := 2) (v := ?t2v2) (some 83) rfl rfl (by kernel_rfl) (by kernel_rfl) (by kernel_rfl) (by kernel_rfl) (by kernel_rfl) (fun _ _ _ h => h) (Or.inl ⟨by rfl, ?t2h2⟩) (by assumption) ?t2r2
  case t2h2 => (intro y hSu; (try dsimp only at hSu); go_simp; first | done | with_reducible rfl)
  (try simp only [Act.put, List.setIfInBounds_toArray, List.set_cons_zero, List.set_cons_succ])
  refine takeL (i := 3) (v := ?t2v3) (some 84) rfl rfl (by kernel_rfl) (by kernel_rfl) (by kernel_rfl) (by kernel_rfl) (by kernel_rfl) (fun _ _ _ h => h) (Or.inl ⟨by rfl, ?t2h3⟩) (by assumption) ?t2r3
  case t2h3 => (intro y hSu; (try dsimp only at hSu); go_simp; first | done | with_reducible rfl)
  (try simp only [Act.put, List.setIfInBounds_toArray, List.set_cons_zero, List.set_cons_succ])
  refine takeL (i := 5) (v := ?t2v5) (some 86) rfl rfl (by kernel_rfl) (by kernel_rfl) (by kernel_rfl) (by kernel_rfl) (by kernel_rfl) (fun _ _ _ h => h) (Or.inl ⟨by rfl, ?t2h5⟩) (by assumption) ?t2r5
  case t2h5 => (intro y hSu; (try dsimp only at hSu); go_simp; first | done | with_reducible rfl)
  (try simp only [Act.put, List.setIfInBounds_toArray, List.set_cons_zero, List.set_cons_succ])
  refine readyL (i := 4) (by kernel_rfl) rfl (fun K hK => ?_)
  go_simp
  refine (unhide CC).mono ?_
  rintro r w4 ⟨rfl, HQ⟩
  obtain ⟨T', tc', ⟨L4, K4, ch4⟩, hB⟩ := unhide HQ
  have HC4 : Hid (ChL L w3 L4 w4) := (unhide HC3).trans ch4
  have P4 := (unhide HP3).next (unhide HC4)
  have HK4 : Hid (LvK L4 w4 p s tc' vs' gs' T' (N + 1) ∧ Bd 4 e wr_0 wr1 vs gs T tc vs' gs' T' tc') := ⟨K4, hB⟩
  obtain ⟨h0, h1, h2, h3, hf⟩ := cellsG P4.box
  obtain ⟨q0, q1, q2, q3, q4⟩ := cellsOp P4.op
  obtain ⟨d0, d1, d2, d3, df⟩ := cellsG (vv := .slice none 0 0) (ev := .slice none 0 0) (rd := 0) (wr := 0) P4.res
  have HE : Hid (w4.cell? ⟨bb, 0, none⟩ = some (.slice va vn vc) ∧ w4.cell? ⟨bb, 1, none⟩ = some (.slice ea en ec) ∧ w4.cell? ⟨bb, 2, none⟩ = some (.int .i64 rd) ∧ w4.cell? ⟨bb, 3, none⟩ = some (.int .i64 wr1) ∧ w4.cell? ⟨bb + 1, 1, none⟩ = some (.int .i64 e)) := ⟨h0, h1, h2, h3, q1⟩
  have hset : ∀ b, b ≠ bb + 2 → (set4 w4 (bb + 2) (.slice va vn vc) (.slice ea en ec) (.int .i64 rd) (.int .i64 wr1)).heap[b]? = w4.heap[b]? := fun b hb => set4_other hb _ _ _ _
  have hS21 : (set4 w4 (bb + 2) (.slice va vn vc) (.slice ea en ec) (.int .i64 rd) (.int .i64 wr1)).cell? ⟨bb, 0, none⟩ = some (.slice va vn vc) ∧ (set4 w4 (bb + 2) (.slice va vn vc) (.slice ea en ec) (.int .i64 rd) (.int .i64 wr1)).cell? ⟨bb, 1, none⟩ = some (.slice ea en ec) ∧ (set4 w4 (bb + 2) (.slice va vn vc) (.slice ea en ec) (.int .i64 rd) (.int .i64 wr1)).cell? ⟨bb, 2, none⟩ = some (.int .i64 rd) ∧ (set4 w4 (bb + 2) (.slice va vn vc) (.slice ea en ec) (.int .i64 rd) (.int .i64 wr1)).cell? ⟨bb, 3, none⟩ = some (.int .i64 wr1) ∧ (set4 w4 (bb + 2) (.slice va vn vc) (.slice ea en ec) (.int .i64 rd) (.int .i64 wr1)).cell? ⟨bb + 1, 1, none⟩ = some (.int .i64 e) := by
    obtain ⟨z0, z1, z2, z3, -⟩ := cellsG ((hset bb (by omega)).trans P4.box)
    obtain ⟨y0, y1, y2, y3, y4⟩ := cellsOp ((hset (bb + 1) (by omega)).trans P4.op)
    exact ⟨z0, z1, z2, z3, y1⟩
  unfold set4 at hS21
  have HRES := hide P4.res
  clear CC HQ P4 K4 ch4 hB HC3 hset h0 h1 h2 h3 hf q0 q1 q2 q3 q4
  (try dsimp only)
  refine hK.out _ _ (fun _ => (unhide HE)) ?_
  clear hK K
  (try simp only [Act.put, List.setIfInBounds_toArray, List.set_cons_zero, List.set_cons_succ])
  have hH4 := (unhide HE)
  refine takeL (i := 6) (v := ?t5v6) (some 87) rfl rfl (by kernel_rfl) (by kernel_rfl) (by kernel_rfl) (by kernel_rfl) (by kernel_rfl) (fun _ _ _ h => h) (Or.inl ⟨by rfl, ?t5h6⟩) (by assumption) ?t5r6
  case t5h6 => (intro y hSu; (try dsimp only at hSu); go_simp; first | done | with_reducible rfl)
  (try simp only [Act.put, List.setIfInBounds_toArray, List.set_cons_zero, List.set_cons_succ])
  refine readyL (i := 7) (by kernel_rfl) rfl (fun K hK => ?_)
  go_simp
  refine hK.out _ _ (fun _ => hS21) ?_
  clear hK K
  (try simp only [Act.put, List.setIfInBounds_toArray, List.set_cons_zero, List.set_cons_succ])
  have hH7 := hS21
  refine takeL (i := 8) (v := ?t8v8) (some 9) rfl rfl (by kernel_rfl) (by kernel_rfl) (by kernel_rfl) (by kernel_rfl) (by kernel_rfl) (fun _ _ _ h => h) (Or.inl ⟨by rfl, ?t8h8⟩) (by assumption) ?t8r8
  case t8h8 => (intro y hSu; (try dsimp only at hSu); go_simp; first | done | with_reducible rfl)
  (try simp only [Act.put, List.setIfInBounds_toArray, List.set_cons_zero, List.set_cons_succ])
  refine doneL (by kernel_rfl) ?_ _
  refine NoPanic.normal ?_
  clear hS21 HE d0 d1 d2 d3 df g0 g1 g2 g3 gf o0 o1 o2 o3 o4
  go_wp2_with fail
  (try simp only [Exit.inBlock, Exit.then])
  change bodyPost _ _ _ _ _ (set4 w4 (bb + 2) _ _ _ _)
  refine bodyPost_ret (resG rfl _ _ (bb + 2) _ _ _ _ rfl (set4G_at (unhide HRES) _ _ _ _)) rfl ?_
  exact play_end (unhide HP3) (unhide HR3) (unhide HK4).1 (unhide HC4) (unhide HG).1 (unhide HG).2.1 (unhide HG).2.2 (unhide HK4).2
end

end Go.Proofs.Ytbmcibofecigeaa
