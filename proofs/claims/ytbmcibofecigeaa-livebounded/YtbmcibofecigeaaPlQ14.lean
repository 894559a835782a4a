/- play, where it asks. -/
import Derived.Test.YtbmcibofecigeaaPlM14
namespace Go.Proofs.Ytbmcibofecigeaa

section
open Go.RowKit Go.Maps
set_option maxHeartbeats 4000000 in
set_option maxRecDepth 100000 in
theorem play5 {L : Lab} {w : World} {p : Nat} {s tc : Int} {vs : List Int} {gs : List EdV} {T : L14.Tr} {N : Nat} {vv ev : Value} {rd wr_0 e u v b : Int} {t : Int} (hK : LvK L w p s tc vs gs T N) (hvv : NRow w vv vs) (hev : ERow 0 w ev gs) (lv : ∀ b, vv.ownBlock = some b → L b = none) (le : ∀ b, ev.ownBlock = some b → L b = none)
    (HR : ∀ W, Below w.heap.size w W → Calls Try.prog 24 #[.agg #[vv, ev, .int .i64 rd, .int .i64 wr_0], .int .i64 e, .int .u32 b] W fun r w2 => ∃ va vn vc ea en ec wr1 mid, r = .returned (.tuple #[.agg #[.slice va vn vc, .slice ea en ec, .int .i64 rd, .int .i64 wr1], mid, .int .i64 t]) ∧ Hid (Pair p s tc vs gs T N wr_0 5 e vv ev W (fun Q W2 => Calls Try.prog 25 #[.pointer (some ⟨p, 0, none⟩), .int .i64 e, .int .u32 b] W2 Q) (.int .i64 t) (.slice va vn vc) (.slice ea en ec) wr1 w2)) :
    Calls Try.prog 8 #[.pointer (some ⟨p, 0, none⟩), .agg #[vv, ev, .int .i64 rd, .int .i64 wr_0], .int .i64 s, .agg #[.int .i64 5, .int .i64 e, .int .i64 u, .int .i64 v, .int .u32 b]] w fun r w' => Hid (PlayAns L w p s tc vs gs T N vv ev rd wr_0 5 e r w') := by
  obtain ⟨t1, t2, t3, t4, t5⟩ := three_boxesP w (oG vv ev rd wr_0) (oOp 5 e u v b)
  have P0 : PG L w w.heap.size vv ev rd wr_0 5 e u v b L (((w.alloc (oG vv ev rd wr_0)).alloc (oOp 5 e u v b)).alloc oZ) := ⟨ChL.below t4, t1, t2, t3, hK.fr _ (by omega), hK.fr _ (by omega), hK.fr _ (by omega), rfl⟩
  have K0 := hK.below t4
  obtain ⟨c0, c1, c2, c3, cf⟩ := cellsG t1
  obtain ⟨p0, p1, p2, p3, p4⟩ := cellsOp t2
  have CR := hide (HR _ t4)
  have HP0 := hide P0
  have HK0 := hide K0
  have HLV : Hid ((∀ b, vv.ownBlock = some b → L b = none ∧ b < w.heap.size) ∧ (∀ b, ev.ownBlock = some b → L b = none ∧ b < w.heap.size) ∧ (((w.alloc (oG vv ev rd wr_0)).alloc (oOp 5 e u v b)).alloc oZ).heap.size = w.heap.size + 3 ∧ ∀ b, w.heap.size ≤ b → L b = none) := ⟨fun b q => ⟨lv b q, (hvv.lt b q).2⟩, fun b q => ⟨le b q, (hev.lt b q).2⟩, t5, hK.fr⟩
  obtain ⟨va0, vc0, hv0, -⟩ := brow_shape hvv
  obtain ⟨vn0, hv0'⟩ : ∃ vn0, vv = .slice va0 vn0 vc0 := ⟨_, hv0⟩
  obtain ⟨ea0, ec0, he0⟩ := rrow_shape hev
  obtain ⟨en0, he0'⟩ : ∃ en0, ev = .slice ea0 en0 ec0 := ⟨_, he0⟩
  clear t1 t2 t3 t4 t5 P0 K0 hK hvv hev lv le HR hv0 he0
  subst hv0' he0'
  go_enter Try.func8, Try.ntmps8
  go_upto_region 1 with fail
  change Code.wp _ _ _ _ (((w.alloc (oG (.slice va0 vn0 vc0) (.slice ea0 en0 ec0) rd wr_0)).alloc (oOp 5 e u v b)).alloc oZ)
  generalize ((w.alloc (oG (.slice va0 vn0 vc0) (.slice ea0 en0 ec0) rd wr_0)).alloc (oOp 5 e u v b)).alloc oZ = wb at *
  obtain ⟨bb, hbb⟩ : ∃ bb, bb = w.heap.size := ⟨_, rfl⟩
  have HBB := hide hbb
  rw [← hbb] at c0 c1 c2 c3 cf p0 p1 p2 p3 p4 HP0
  rw [← hbb]
  clear hbb
  go_wp2_with fail
  refine (unhide CR).mono ?_
  rintro r w2 ⟨va, vn, vc, ea, en, ec, wr1, mid, rfl, HQ⟩
  clear CR c0 c1 c2 c3 cf p0 p1 p2 p3 p4
  obtain ⟨vs', gs', n1, n2, hb, a1, a2, w1, w2', hG', hC⟩ := unhide HQ
  have P1 := unhide HP0
  have K1 := unhide HK0
  have hsz : bb + 3 ≤ wb.heap.size := by rw [unhide HBB]; exact Nat.le_of_eq (unhide HLV).2.2.1.symm
  obtain ⟨P3, R3⟩ := play_mid (wr1 := wr1) (rd := rd) P1 (unhide HLV).2.2.2 (unhide HLV).1 (unhide HLV).2.1 hsz n1 n2 hb a1 a2
  have P2 := P1.next (ChL.below hb)
  have K3 := (K1.below hb).set P2.l0 (.slice va vn vc) (.slice ea en ec) (.int .i64 rd) (.int .i64 wr1)
  obtain ⟨c0, c1, c2, c3, cf⟩ := cellsG P2.box
  obtain ⟨w3, hw3⟩ : ∃ w3, w3 = set4 w2 bb (.slice va vn vc) (.slice ea en ec) (.int .i64 rd) (.int .i64 wr1) := ⟨_, rfl⟩
  rw [← hw3] at P3 R3 K3
  have CC := hide (hC _ (w3.drewN 1) (K3.below (below_drewN (Below.refl _ _) 1)))
  have HP3 := hide P3
  have HR3 := hide R3
  have HG : Hid (GV vs' gs' (N + 1) ∧ wr_0 ≤ wr1 ∧ wr1 ≤ wr_0 + 1) := ⟨hG', w1, w2'⟩
  have HC3 : Hid (ChL L w3 L (w3.drewN 1)) := ChL.below (below_drewN (Below.refl _ _) 1)
  obtain ⟨g0, g1, g2, g3, gf⟩ := cellsG P3.box
  obtain ⟨o0, o1, o2, o3, o4⟩ := cellsOp P3.op
  obtain ⟨x0, x1, x2, x3, x4⟩ := cellsOp P2.op
  have HW3 := hide hw3
  clear HQ n1 n2 hb a1 a2 w1 w2' hG' hC hsz P1 K1 P2 P3 R3 K3 HP0 HK0 HLV
  go_upto_region 18 with fail
  (try rw [show (((w2.setCell ⟨bb, 0, none⟩ (.slice va vn vc)).setCell ⟨bb, 1, none⟩ (.slice ea en ec)).setCell ⟨bb, 2, none⟩ (.int .i64 rd)).setCell ⟨bb, 3, none⟩ (.int .i64 wr1) = w3 from (unhide HW3).symm])
  clear c0 c1 c2 c3 cf x0 x1 x2 x3 x4 hw3 HW3
  refine wp_region_noPanic ?_
  refine regionL [] (fun y => y.cell? ⟨bb, 0, none⟩ = some (.slice va vn vc) ∧ y.cell? ⟨bb, 1, none⟩ = some (.slice ea en ec) ∧ y.cell? ⟨bb, 2, none⟩ = some (.int .i64 rd) ∧ y.cell? ⟨bb, 3, none⟩ = some (.int .i64 wr1) ∧ y.cell? ⟨bb + 1, 1, none⟩ = some (.int .i64 e) ∧ y.cell? ⟨bb + 1, 4, none⟩ = some (.int .u32 b)) (by kernel_rfl) ⟨g0, g1, g2, g3, o1, o4⟩ (fun hHeld => ?_)
  refine takeL (i := 0) (v := ?t2v0) (some 100) rfl rfl (by kernel_rfl) (by kernel_rfl) (by kernel_rfl) (by kernel_rfl) (by kernel_rfl) (fun _ _ _ h => h) (Or.inl ⟨by rfl, ?t2h0⟩) (by assumption) ?t2r0
  case t2h0 => (intro y hSu; (try dsimp only at hSu); go_simp; first | done | with_reducible rfl)
  (try simp only [Act.put, List.setIfInBounds_toArray, List.set_cons_zero, List.set_cons_succ])
  refine takeL (i := 1) (v := ?t2v1) (some 101) rfl rfl (by kernel_rfl) (by kernel_rfl) (by kernel_rfl) (by kernel_rfl) (by kernel_rfl) (fun _ _ _ h => h) (Or.inl ⟨by rfl, ?t2h1⟩) (by assumption) ?t2r1
  case t2h1 => (intro y hSu; (try dsimp only at hSu); go_simp; first | done | with_reducible rfl)
  (try simp only [Act.put, List.setIfInBounds_toArray, List.set_cons_zero, List.set_cons_succ])
  refine takeL (i := 2) (v := ?t2v2) (some 102) rfl rfl (by kernel_rfl) (by kernel_rfl) (by kernel_rfl) (by kernel_rfl) (by kernel_rfl) (fun _ _ _ h => h) (Or.inl ⟨by rfl, ?t2h2⟩) (by assumption) ?t2r2
  case t2h2 => (intro y hSu; (try dsimp only at hSu); go_simp; first | done | with_reducible rfl)
  (try simp only [Act.put, List.setIfInBounds_toArray, List.set_cons_zero, List.set_cons_succ])
  refine takeL (i := 3) (v := ?t2v3) (some 103) rfl rfl (by kernel_rfl) (by kernel_rfl) (by kernel_rfl) (by kernel_rfl) (by kernel_rfl) (fun _ _ _ h => h) (Or.inl ⟨by rfl, ?t2h3⟩) (by assumption) ?t2r3
  case t2h3 => (intro y hSu; (try dsimp only at hSu); go_simp; first | done | with_reducible rfl)
  (try simp only [Act.put, List.setIfInBounds_toArray, List.set_cons_zero, List.set_cons_succ])
  refine takeL (i := 4) (v := ?t2v4) (some 104) rfl rfl (by kernel_rfl) (by kernel_rfl) (by kernel_rfl) (by kernel_rfl) (by kernel_rfl) (fun _ _ _ h => h) (Or.inl ⟨by rfl, ?t2h4⟩) (by assumption) ?t2r4
  case t2h4 => (intro y hSu; (try dsimp only at hSu); go_simp; first | done | with_reducible rfl)
  (try simp only [Act.put, List.setIfInBounds_toArray, List.set_cons_zero, List.set_cons_succ])
  refine takeL (i := 5) (v := ?t2v5) (some 105) rfl rfl (by kernel_rfl) (by kernel_rfl) (by kernel_rfl) (by kernel_rfl) (by kernel_rfl) (fun _ _ _ h => h) (Or.inl ⟨by rfl, ?t2h5⟩) (by assumption) ?t2r5
  case t2h5 => (intro y hSu; (try dsimp only at hSu); go_simp; first | done | with_reducible rfl)
  (try simp only [Act.put, List.setIfInBounds_toArray, List.set_cons_zero, List.set_cons_succ])
  refine takeL (i := 7) (v := ?t2v7) (some 107) rfl rfl (by kernel_rfl) (by kernel_rfl) (by kernel_rfl) (by kernel_rfl) (by kernel_rfl) (fun _ _ _ h => h) (Or.inl ⟨by rfl, ?t2h7⟩) (by assumption) ?t2r7
  case t2h7 => (intro y hSu; (try dsimp only at hSu); go_simp; first | done | with_reducible rfl)
  (try simp only [Act.put, List.setIfInBounds_toArray, List.set_cons_zero, List.set_cons_succ])
  refine readyL (i := 6) (by kernel_rfl) rfl (fun K hK => ?_)
  go_simp
  refine (unhide CC).mono ?_
  rintro r w4 ⟨rfl, HQ⟩
  obtain ⟨T', tc', ⟨L4, K4, ch4⟩, hB⟩ := unhide HQ
  have HC4 : Hid (ChL L w3 L4 w4) := (unhide HC3).trans ch4
  have P4 := (unhide HP3).next (unhide HC4)
  have HK4 : Hid (LvK L4 w4 p s tc' vs' gs' T' (N + 1) ∧ Bd 5 e wr_0 wr1 vs gs T tc vs' gs' T' tc') := ⟨K4, hB⟩
  obtain ⟨h0, h1, h2, h3, hf⟩ := cellsG P4.box
  obtain ⟨q0, q1, q2, q3, q4⟩ := cellsOp P4.op
  obtain ⟨d0, d1, d2, d3, df⟩ := cellsG (vv := .slice none 0 0) (ev := .slice none 0 0) (rd := 0) (wr := 0) P4.res
  have HE : Hid (w4.cell? ⟨bb, 0, none⟩ = some (.slice va vn vc) ∧ w4.cell? ⟨bb, 1, none⟩ = some (.slice ea en ec) ∧ w4.cell? ⟨bb, 2, none⟩ = some (.int .i64 rd) ∧ w4.cell? ⟨bb, 3, none⟩ = some (.int .i64 wr1) ∧ w4.cell? ⟨bb + 1, 1, none⟩ = some (.int .i64 e) ∧ w4.cell? ⟨bb + 1, 4, none⟩ = some (.int .u32 b)) := ⟨h0, h1, h2, h3, q1, q4⟩
  have hset : ∀ b, b ≠ bb + 2 → (set4 w4 (bb + 2) (.slice va vn vc) (.slice ea en ec) (.int .i64 rd) (.int .i64 wr1)).heap[b]? = w4.heap[b]? := fun b hb => set4_other hb _ _ _ _
  have hS21 : (set4 w4 (bb + 2) (.slice va vn vc) (.slice ea en ec) (.int .i64 rd) (.int .i64 wr1)).cell? ⟨bb, 0, none⟩ = some (.slice va vn vc) ∧ (set4 w4 (bb + 2) (.slice va vn vc) (.slice ea en ec) (.int .i64 rd) (.int .i64 wr1)).cell? ⟨bb, 1, none⟩ = some (.slice ea en ec) ∧ (set4 w4 (bb + 2) (.slice va vn vc) (.slice ea en ec) (.int .i64 rd) (.int .i64 wr1)).cell? ⟨bb, 2, none⟩ = some (.int .i64 rd) ∧ (set4 w4 (bb + 2) (.slice va vn vc) (.slice ea en ec) (.int .i64 rd) (.int .i64 wr1)).cell? ⟨bb, 3, none⟩ = some (.int .i64 wr1) ∧ (set4 w4 (bb + 2) (.slice va vn vc) (.slice ea en ec) (.int .i64 rd) (.int .i64 wr1)).cell? ⟨bb + 1, 1, none⟩ = some (.int .i64 e) ∧ (set4 w4 (bb + 2) (.slice va vn vc) (.slice ea en ec) (.int .i64 rd) (.int .i64 wr1)).cell? ⟨bb + 1, 4, none⟩ = some (.int .u32 b) := by
    obtain ⟨z0, z1, z2, z3, -⟩ := cellsG ((hset bb (by omega)).trans P4.box)
    obtain ⟨y0, y1, y2, y3, y4⟩ := cellsOp ((hset (bb + 1) (by omega)).trans P4.op)
    exact ⟨z0, z1, z2, z3, y1, y4⟩
  unfold set4 at hS21
  have HRES := hide P4.res
  clear CC HQ P4 K4 ch4 hB HC3 hset h0 h1 h2 h3 hf q0 q1 q2 q3 q4
  (try dsimp only)
  refine hK.out _ _ (fun _ => (unhide HE)) ?_
  clear hK K
  (try simp only [Act.put, List.setIfInBounds_toArray, List.set_cons_zero, List.set_cons_succ])
  have hH4 := (unhide HE)
  refine takeL (i := 8) (v := ?t5v8) (some 108) rfl rfl (by kernel_rfl) (by kernel_rfl) (by kernel_rfl) (by kernel_rfl) (by kernel_rfl) (fun _ _ _ h => h) (Or.inl ⟨by rfl, ?t5h8⟩) (by assumption) ?t5r8
  case t5h8 => (intro y hSu; (try dsimp only at hSu); go_simp; first | done | with_reducible rfl)
  (try simp only [Act.put, List.setIfInBounds_toArray, List.set_cons_zero, List.set_cons_succ])
  refine readyL (i := 9) (by kernel_rfl) rfl (fun K hK => ?_)
  go_simp
  refine hK.out _ _ (fun _ => hS21) ?_
  clear hK K
  (try simp only [Act.put, List.setIfInBounds_toArray, List.set_cons_zero, List.set_cons_succ])
  have hH7 := hS21
  refine takeL (i := 10) (v := ?t8v10) (some 9) rfl rfl (by kernel_rfl) (by kernel_rfl) (by kernel_rfl) (by kernel_rfl) (by kernel_rfl) (fun _ _ _ h => h) (Or.inl ⟨by rfl, ?t8h10⟩) (by assumption) ?t8r10
  case t8h10 => (intro y hSu; (try dsimp only at hSu); go_simp; first | done | with_reducible rfl)
  (try simp only [Act.put, List.setIfInBounds_toArray, List.set_cons_zero, List.set_cons_succ])
  refine doneL (by kernel_rfl) ?_ _
  refine NoPanic.normal ?_
  clear hS21 HE d0 d1 d2 d3 df g0 g1 g2 g3 gf o0 o1 o2 o3 o4
  go_wp2_with fail
  (try simp only [Exit.inBlock, Exit.then])
  change bodyPost _ _ _ _ _ (set4 w4 (bb + 2) _ _ _ _)
  refine bodyPost_ret (resG rfl _ _ (bb + 2) _ _ _ _ rfl (set4G_at (unhide HRES) _ _ _ _)) rfl ?_
  exact play_end (unhide HP3) (unhide HR3) (unhide HK4).1 (unhide HC4) (unhide HG).1 (unhide HG).2.1 (unhide HG).2.2 (unhide HK4).2
end

section
open Go.RowKit Go.Maps
set_option maxHeartbeats 4000000 in
set_option maxRecDepth 100000 in
theorem playAsk {L : Lab} {w : World} {p : Nat} {s tc : Int} {vs : List Int} {gs : List EdV} {T : L14.Tr} {N : Nat} {vv ev : Value} {rd wr_0 k e u v b : Int} (hK : LvK L w p s tc vs gs T N) (hN : N ≤ 199) (hG : GV vs gs N) (hvv : NRow w vv vs) (hev : ERow 0 w ev gs) (lv : ∀ b, vv.ownBlock = some b → L b = none) (le : ∀ b, ev.ownBlock = some b → L b = none) (hov : okN v) (z1 : (k == 1) = false) (z2 : (k == 2) = false) (z3 : (k == 3) = false) (z4 : (k == 4) = false) (z5 : (k == 5) = false) :
    Calls Try.prog 8 #[.pointer (some ⟨p, 0, none⟩), .agg #[vv, ev, .int .i64 rd, .int .i64 wr_0], .int .i64 s, .agg #[.int .i64 k, .int .i64 e, .int .i64 u, .int .i64 v, .int .u32 b]] w fun r w' => Hid (PlayAns L w p s tc vs gs T N vv ev rd wr_0 k e r w') := by
  obtain ⟨t1, t2, t3, t4, t5⟩ := three_boxesP w (oG vv ev rd wr_0) (oOp k e u v b)
  have P0 : PG L w w.heap.size vv ev rd wr_0 k e u v b L (((w.alloc (oG vv ev rd wr_0)).alloc (oOp k e u v b)).alloc oZ) := ⟨ChL.below t4, t1, t2, t3, hK.fr _ (by omega), hK.fr _ (by omega), hK.fr _ (by omega), rfl⟩
  have K0 := hK.below t4
  have R0 : RS w.heap.size vv ev vv ev vs gs L (((w.alloc (oG vv ev rd wr_0)).alloc (oOp k e u v b)).alloc oZ) := ⟨nrow_below hvv t4, rrow_below hev t4, fun b q => ⟨lv b q, .inl (hvv.lt b q).2, .inl q⟩, fun b q => ⟨le b q, .inl (hev.lt b q).2, .inl q⟩⟩
  obtain ⟨g0, g1, g2, g3, gf⟩ := cellsG t1
  obtain ⟨p0, p1, p2, p3, p4⟩ := cellsOp t2
  have hd := below_drewN (Below.refl (((w.alloc (oG vv ev rd wr_0)).alloc (oOp k e u v b)).alloc oZ).heap.size (((w.alloc (oG vv ev rd wr_0)).alloc (oOp k e u v b)).alloc oZ)) 1
  have CA := hide (asksT (rd := rd) (wr0 := wr_0) (K0.below hd) (by omega) (by have := hG.2; omega) hG.1 (nrow_below R0.vs hd) (rrow_below R0.gs hd) hov)
  have HP0 := hide P0
  have HK0 := hide K0
  have HR0 := hide R0
  have HG : Hid (GV vs gs (N + 1)) := ⟨hG.1, by have := hG.2; omega⟩
  obtain ⟨va, vc, hv0, -⟩ := brow_shape hvv
  obtain ⟨vn, hv0'⟩ : ∃ vn0, vv = .slice va vn0 vc := ⟨_, hv0⟩
  obtain ⟨ea, ec, he0⟩ := rrow_shape hev
  obtain ⟨en, he0'⟩ : ∃ en0, ev = .slice ea en0 ec := ⟨_, he0⟩
  clear t1 t2 t3 t4 t5 P0 K0 R0 hK hG hN hvv hev lv le hv0 he0 hov hd
  subst hv0' he0'
  go_enter Try.func8, Try.ntmps8
  go_upto_region 1 with fail
  change Code.wp _ _ _ _ (((w.alloc (oG (.slice va vn vc) (.slice ea en ec) rd wr_0)).alloc (oOp k e u v b)).alloc oZ)
  generalize ((w.alloc (oG (.slice va vn vc) (.slice ea en ec) rd wr_0)).alloc (oOp k e u v b)).alloc oZ = wb at *
  obtain ⟨bb, hbb⟩ : ∃ bb, bb = w.heap.size := ⟨_, rfl⟩
  rw [← hbb] at g0 g1 g2 g3 gf p0 p1 p2 p3 p4 HP0 HR0
  rw [← hbb]
  clear hbb
  have HC1 : Hid (ChL L wb L (wb.drewN 1)) := ChL.below (below_drewN (Below.refl _ _) 1)
  go_upto_region 19 with fail
  refine wp_region_noPanic ?_
  refine regionL [] (fun y => y.cell? ⟨bb, 0, none⟩ = some (.slice va vn vc) ∧ y.cell? ⟨bb, 1, none⟩ = some (.slice ea en ec) ∧ y.cell? ⟨bb, 2, none⟩ = some (.int .i64 rd) ∧ y.cell? ⟨bb, 3, none⟩ = some (.int .i64 wr_0) ∧ y.cell? ⟨bb + 1, 3, none⟩ = some (.int .i64 v)) (by kernel_rfl) ⟨g0, g1, g2, g3, p3⟩ (fun hHeld => ?_)
  refine takeL (i := 0) (v := ?t2v0) (some 109) rfl rfl (by kernel_rfl) (by kernel_rfl) (by kernel_rfl) (by kernel_rfl) (by kernel_rfl) (fun _ _ _ h => h) (Or.inl ⟨by rfl, ?t2h0⟩) (by assumption) ?t2r0
  case t2h0 => (intro y hSu; (try dsimp only at hSu); go_simp; first | done | with_reducible rfl)
  (try simp only [Act.put, List.setIfInBounds_toArray, List.set_cons_zero, List.set_cons_succ])
  refine takeL (i := 1) (v := ?t2v1) (some 110) rfl rfl (by kernel_rfl) (by kernel_rfl) (by kernel_rfl) (by kernel_rfl) (by kernel_rfl) (fun _ _ _ h => h) (Or.inl ⟨by rfl, ?t2h1⟩) (by assumption) ?t2r1
  case t2h1 => (intro y hSu; (try dsimp only at hSu); go_simp; first | done | with_reducible rfl)
  (try simp only [Act.put, List.setIfInBounds_toArray, List.set_cons_zero, List.set_cons_succ])
  refine takeL (i := 2) (v := ?t2v2) (some 111) rfl rfl (by kernel_rfl) (by kernel_rfl) (by kernel_rfl) (by kernel_rfl) (by kernel_rfl) (fun _ _ _ h => h) (Or.inl ⟨by rfl, ?t2h2⟩) (by assumption) ?t2r2
  case t2h2 => (intro y hSu; (try dsimp only at hSu); go_simp; first | done | with_reducible rfl)
  (try simp only [Act.put, List.setIfInBounds_toArray, List.set_cons_zero, List.set_cons_succ])
  refine takeL (i := 3) (v := ?t2v3) (some 112) rfl rfl (by kernel_rfl) (by kernel_rfl) (by kernel_rfl) (by kernel_rfl) (by kernel_rfl) (fun _ _ _ h => h) (Or.inl ⟨by rfl, ?t2h3⟩) (by assumption) ?t2r3
  case t2h3 => (intro y hSu; (try dsimp only at hSu); go_simp; first | done | with_reducible rfl)
  (try simp only [Act.put, List.setIfInBounds_toArray, List.set_cons_zero, List.set_cons_succ])
  refine takeL (i := 4) (v := ?t2v4) (some 113) rfl rfl (by kernel_rfl) (by kernel_rfl) (by kernel_rfl) (by kernel_rfl) (by kernel_rfl) (fun _ _ _ h => h) (Or.inl ⟨by rfl, ?t2h4⟩) (by assumption) ?t2r4
  case t2h4 => (intro y hSu; (try dsimp only at hSu); go_simp; first | done | with_reducible rfl)
  (try simp only [Act.put, List.setIfInBounds_toArray, List.set_cons_zero, List.set_cons_succ])
  refine takeL (i := 5) (v := ?t2v5) (some 114) rfl rfl (by kernel_rfl) (by kernel_rfl) (by kernel_rfl) (by kernel_rfl) (by kernel_rfl) (fun _ _ _ h => h) (Or.inl ⟨by rfl, ?t2h5⟩) (by assumption) ?t2r5
  case t2h5 => (intro y hSu; (try dsimp only at hSu); go_simp; first | done | with_reducible rfl)
  (try simp only [Act.put, List.setIfInBounds_toArray, List.set_cons_zero, List.set_cons_succ])
  refine readyL (i := 6) (by kernel_rfl) rfl (fun K hK => ?_)
  go_simp
  refine (unhide CA).mono ?_
  rintro r w4 ⟨rfl, hb4⟩
  have HC4 : Hid (ChL L wb L w4) := (unhide HC1).trans (ChL.below (unhide hb4))
  have P4 := (unhide HP0).next (unhide HC4)
  have HK4 : Hid (LvK L w4 p s tc vs gs T N) := ((unhide HK0).below (below_drewN (Below.refl _ _) 1)).below (unhide hb4)
  obtain ⟨h0, h1, h2, h3, hf⟩ := cellsG P4.box
  obtain ⟨q0, q1, q2, q3, q4⟩ := cellsOp P4.op
  obtain ⟨d0, d1, d2, d3, df⟩ := cellsG (vv := .slice none 0 0) (ev := .slice none 0 0) (rd := 0) (wr := 0) P4.res
  have HE4 : Hid (w4.cell? ⟨bb, 0, none⟩ = some (.slice va vn vc) ∧ w4.cell? ⟨bb, 1, none⟩ = some (.slice ea en ec) ∧ w4.cell? ⟨bb, 2, none⟩ = some (.int .i64 rd) ∧ w4.cell? ⟨bb, 3, none⟩ = some (.int .i64 wr_0) ∧ w4.cell? ⟨bb + 1, 3, none⟩ = some (.int .i64 v)) := ⟨h0, h1, h2, h3, q3⟩
  have hset : ∀ b, b ≠ bb + 2 → (set4 w4 (bb + 2) (.slice va vn vc) (.slice ea en ec) (.int .i64 rd) (.int .i64 wr_0)).heap[b]? = w4.heap[b]? := fun b hb => set4_other hb _ _ _ _
  have hS21 : (set4 w4 (bb + 2) (.slice va vn vc) (.slice ea en ec) (.int .i64 rd) (.int .i64 wr_0)).cell? ⟨bb, 0, none⟩ = some (.slice va vn vc) ∧ (set4 w4 (bb + 2) (.slice va vn vc) (.slice ea en ec) (.int .i64 rd) (.int .i64 wr_0)).cell? ⟨bb, 1, none⟩ = some (.slice ea en ec) ∧ (set4 w4 (bb + 2) (.slice va vn vc) (.slice ea en ec) (.int .i64 rd) (.int .i64 wr_0)).cell? ⟨bb, 2, none⟩ = some (.int .i64 rd) ∧ (set4 w4 (bb + 2) (.slice va vn vc) (.slice ea en ec) (.int .i64 rd) (.int .i64 wr_0)).cell? ⟨bb, 3, none⟩ = some (.int .i64 wr_0) ∧ (set4 w4 (bb + 2) (.slice va vn vc) (.slice ea en ec) (.int .i64 rd) (.int .i64 wr_0)).cell? ⟨bb + 1, 3, none⟩ = some (.int .i64 v) := by
    obtain ⟨z0, z1, z2, z3, -⟩ := cellsG ((hset bb (by omega)).trans P4.box)
    obtain ⟨y0, y1, y2, y3, y4⟩ := cellsOp ((hset (bb + 1) (by omega)).trans P4.op)
    exact ⟨z0, z1, z2, z3, y3⟩
  unfold set4 at hS21
  have HRES := hide P4.res
  clear CA hb4 P4 hset h0 h1 h2 h3 hf q0 q1 q2 q3 q4
  (try dsimp only)
  refine hK.out _ _ (fun _ => (unhide HE4)) ?_
  clear hK K
  (try simp only [Act.put, List.setIfInBounds_toArray, List.set_cons_zero, List.set_cons_succ])
  have hH4 := (unhide HE4)
  refine readyL (i := 7) (by kernel_rfl) rfl (fun K hK => ?_)
  go_simp
  refine hK.out _ _ (fun _ => hS21) ?_
  clear hK K
  (try simp only [Act.put, List.setIfInBounds_toArray, List.set_cons_zero, List.set_cons_succ])
  have hH6 := hS21
  refine takeL (i := 8) (v := ?t7v8) (some 9) rfl rfl (by kernel_rfl) (by kernel_rfl) (by kernel_rfl) (by kernel_rfl) (by kernel_rfl) (fun _ _ _ h => h) (Or.inl ⟨by rfl, ?t7h8⟩) (by assumption) ?t7r8
  case t7h8 => (intro y hSu; (try dsimp only at hSu); go_simp; first | done | with_reducible rfl)
  (try simp only [Act.put, List.setIfInBounds_toArray, List.set_cons_zero, List.set_cons_succ])
  refine doneL (by kernel_rfl) ?_ _
  refine NoPanic.normal ?_
  clear hS21 HE4 d0 d1 d2 d3 df g0 g1 g2 g3 gf p0 p1 p2 p3 p4
  go_wp2_with fail
  (try simp only [Exit.inBlock, Exit.then])
  change bodyPost _ _ _ _ _ (set4 w4 (bb + 2) _ _ _ _)
  refine bodyPost_ret (resG rfl _ _ (bb + 2) _ _ _ _ rfl (set4G_at (unhide HRES) _ _ _ _)) rfl ?_
  exact play_end (unhide HP0) (unhide HR0) ((unhide HK4).more (by omega)) (unhide HC4) (unhide HG) (Int.le_refl _) (by omega) (.inl ⟨rfl, rfl, rfl, rfl⟩)
end

end Go.Proofs.Ytbmcibofecigeaa
