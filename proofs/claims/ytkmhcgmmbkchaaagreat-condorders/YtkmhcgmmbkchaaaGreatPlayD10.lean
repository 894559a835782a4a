/- Play, kind 4: DropArc. -/
import Derived.Test.YtkmhcgmmbkchaaaGreatPlayB10
namespace Go.Proofs.YtkmhcgmmbkchaaaGreat

section
open Go.RowKit Go.Maps T9
set_option maxHeartbeats 4000000 in
set_option maxRecDepth 100000 in
theorem play3 {L : Nat → Nat} {w : World} {c p m ma ml me : Nat} {lk : Int} {V : List Int} {es : List EdV} {N : Nat} {vv ev : Value} {rd wr_0 e u v : Int} {t : Int} (hK : KSt L w c p m ma ml me lk V es N) (hvv : NRow w vv V) (hev : GRow 0 w ev es) (lv : ∀ b, vv.ownBlock = some b → L b = 0) (le : ∀ b, ev.ownBlock = some b → L b = 0)
    (HR : ∀ W, Below w.heap.size w W → Calls Tryz.prog 27 #[.agg #[vv, ev, .int .i64 rd, .int .i64 wr_0], .int .i64 e, .int .i64 u, .int .i64 v] W fun r w2 => ∃ va vn vc ea en ec wr1, r = .returned (.tuple #[.agg #[.slice va vn vc, .slice ea en ec, .int .i64 rd, .int .i64 wr1], .int .i64 t]) ∧ Hid (Pair L c p m ma ml me lk V es N wr_0 3 e u v vv ev W (fun Q W2 => Calls Tryz.prog 15 #[.pointer (some ⟨c, 0, none⟩), .int .i64 e, .int .i64 u, .int .i64 v] W2 Q) (.int .i64 t) (.slice va vn vc) (.slice ea en ec) wr1 w2)) :
    Calls Tryz.prog 9 #[.pointer (some ⟨c, 0, none⟩), .agg #[vv, ev, .int .i64 rd, .int .i64 wr_0], .agg #[.int .i64 3, .int .i64 e, .int .i64 u, .int .i64 v]] w fun r w' => Hid (PlayAns L w c p m ma ml me lk V es N vv ev rd wr_0 3 e u v r w') := by
  obtain ⟨t1, t2, t3, t4, t5⟩ := three_boxesP w (oG vv ev rd wr_0) (oOp 3 e u v)
  have hL : ∀ b, w.heap.size ≤ b → lab L w.heap.size 0 b = 0 := fun b hb => if_neg (by omega)
  have P0 : PG L w w.heap.size vv ev rd wr_0 3 e u v (lab L w.heap.size 0) (((w.alloc (oG vv ev rd wr_0)).alloc (oOp 3 e u v)).alloc oZ) := ⟨(Ch.named L w 0).trans (Ch.below t4), t1, t2, t3, hL _ (by omega), hL _ (by omega), hL _ (by omega), rfl⟩
  have K0 := (hK.named 0).below t4
  obtain ⟨c0, c1, c2, c3, cf⟩ := cellsG t1
  obtain ⟨p0, p1, p2, p3⟩ := cellsOp t2
  obtain ⟨Lz, hLz⟩ : ∃ Lz, Lz = lab L w.heap.size 0 := ⟨_, rfl⟩
  rw [← hLz] at P0 K0
  have HLZ := hide hLz
  have CR := hide (HR _ t4)
  have HP0 := hide P0
  have HK0 := hide K0
  have HLV : Hid ((∀ b, vv.ownBlock = some b → L b = 0 ∧ b < w.heap.size) ∧ (∀ b, ev.ownBlock = some b → L b = 0 ∧ b < w.heap.size) ∧ (((w.alloc (oG vv ev rd wr_0)).alloc (oOp 3 e u v)).alloc oZ).heap.size = w.heap.size + 3) := ⟨fun b q => ⟨lv b q, (hvv.lt b q).2⟩, fun b q => ⟨le b q, (hev.lt b q).2⟩, t5⟩
  obtain ⟨va0, vc0, hv0, -⟩ := brow_shape hvv
  obtain ⟨vn0, hv0'⟩ : ∃ vn0, vv = .slice va0 vn0 vc0 := ⟨_, hv0⟩
  obtain ⟨ea0, en0, ec0, he0⟩ := grow_shape hev
  clear t1 t2 t3 t4 t5 hL P0 K0 hLz hK hvv hev lv le HR hv0
  subst hv0' he0
  go_enter Tryz.func9, Tryz.ntmps9
  go_upto_region 1 with fail
  change Code.wp _ _ _ _ (((w.alloc (oG (.slice va0 vn0 vc0) (.slice ea0 en0 ec0) rd wr_0)).alloc (oOp 3 e u v)).alloc oZ)
  generalize ((w.alloc (oG (.slice va0 vn0 vc0) (.slice ea0 en0 ec0) rd wr_0)).alloc (oOp 3 e u v)).alloc oZ = wb at *
  obtain ⟨bb, hbb⟩ : ∃ bb, bb = w.heap.size := ⟨_, rfl⟩
  have HBB := hide hbb
  rw [← hbb] at c0 c1 c2 c3 cf p0 p1 p2 p3 HP0
  rw [← hbb]
  clear hbb
  go_wp2_with fail
  refine (unhide CR).mono ?_
  rintro r w2 ⟨va, vn, vc, ea, en, ec, wr1, rfl, HQ⟩
  clear CR c0 c1 c2 c3 cf p0 p1 p2 p3
  obtain ⟨V', es', n1, n2, hb, a1, a2, w1, w2', hG', hC⟩ := unhide HQ
  have hsz : wb.heap.size = bb + 3 := by rw [unhide HBB]; exact (unhide HLV).2.2
  obtain ⟨P3, R3⟩ := play_mid (wr1 := wr1) (rd := rd) (unhide HLZ) (unhide HP0) (unhide HLV).1 (unhide HLV).2.1 hsz n1 n2 hb a1 a2
  have P2 := (unhide HP0).next (Ch.below hb)
  have K3 := ((unhide HK0).below hb).set P2.l0 (.slice va vn vc) (.slice ea en ec) (.int .i64 rd) (.int .i64 wr1)
  obtain ⟨c0, c1, c2, c3, cf⟩ := cellsG P2.box
  obtain ⟨w3, hw3⟩ : ∃ w3, w3 = set4 w2 bb (.slice va vn vc) (.slice ea en ec) (.int .i64 rd) (.int .i64 wr1) := ⟨_, rfl⟩
  rw [← hw3] at P3 R3 K3
  have CC := hide (hC _ (w3.drewN 1) (K3.below (below_drewN (Below.refl _ _) 1)))
  have HP3 := hide P3
  have HR3 := hide R3
  have HG : Hid (GOk V' es' (N + 3) ∧ wr_0 ≤ wr1 ∧ wr1 ≤ wr_0 + 1) := ⟨hG', w1, w2'⟩
  have HC3 : Hid (Ch Lz w3 Lz (w3.drewN 1)) := Ch.below (below_drewN (Below.refl _ _) 1)
  obtain ⟨g0, g1, g2, g3, gf⟩ := cellsG P3.box
  obtain ⟨o0, o1, o2, o3⟩ := cellsOp P3.op
  obtain ⟨pp0, pp1, pp2, pp3⟩ := cellsOp P2.op
  have HW3 := hide hw3
  clear HQ n1 n2 hb a1 a2 w1 w2' hG' hC hsz P2 P3 R3 K3 HP0 HK0 HLV
  go_upto_region 11 with fail
  (try rw [show (((w2.setCell ⟨bb, 0, none⟩ (.slice va vn vc)).setCell ⟨bb, 1, none⟩ (.slice ea en ec)).setCell ⟨bb, 2, none⟩ (.int .i64 rd)).setCell ⟨bb, 3, none⟩ (.int .i64 wr1) = w3 from (unhide HW3).symm])
  clear c0 c1 c2 c3 cf pp0 pp1 pp2 pp3 hw3 HW3
  refine wp_region_noPanic ?_
  refine regionL [] (fun y => y.cell? ⟨bb, 0, none⟩ = some (.slice va vn vc) ∧ y.cell? ⟨bb, 1, none⟩ = some (.slice ea en ec) ∧ y.cell? ⟨bb, 2, none⟩ = some (.int .i64 rd) ∧ y.cell? ⟨bb, 3, none⟩ = some (.int .i64 wr1) ∧ y.cell? ⟨bb + 1, 1, none⟩ = some (.int .i64 e) ∧ y.cell? ⟨bb + 1, 2, none⟩ = some (.int .i64 u) ∧ y.cell? ⟨bb + 1, 3, none⟩ = some (.int .i64 v)) (by kernel_rfl) ⟨g0, g1, g2, g3, o1, o2, o3⟩ (fun hHeld => ?_)
  refine takeL (i := 0) (v := ?t2v0) (some 57) rfl rfl (by kernel_rfl) (by kernel_rfl) (by kernel_rfl) (by kernel_rfl) (by kernel_rfl) (fun _ _ _ h => h) (Or.inl ⟨by rfl, ?t2h0⟩) (by assumption) ?t2r0
  case t2h0 => (intro y hSu; (try dsimp only at hSu); go_simp; first | done | with_reducible rfl)
  (try simp only [Act.put, List.setIfInBounds_toArray, List.set_cons_zero, List.set_cons_succ])
  refine takeL (i := 1) (v := ?t2v1) (some 58) rfl rfl (by kernel_rfl) (by kernel_rfl) (by kernel_rfl) (by kernel_rfl) (by kernel_rfl) (fun _ _ _ h => h) (Or.inl ⟨by rfl, ?t2h1⟩) (by assumption) ?t2r1
  case t2h1 => (intro y hSu; (try dsimp only at hSu); go_simp; first | done | with_reducible rfl)
  (try simp only [Act.put, List.setIfInBounds_toArray, List.set_cons_zero, List.set_cons_succ])
  refine takeL (i := 2) (v := ?t2v2) (some 59) rfl rfl (by kernel_rfl) (by kernel_rfl) (by kernel_rfl) (by kernel_rfl) (by kernel_rfl) (fun _ _ _ h => h) (Or.inl ⟨by rfl, ?t2h2⟩) (by assumption) ?t2r2
  case t2h2 => (intro y hSu; (try dsimp only at hSu); go_simp; first | done | with_reducible rfl)
  (try simp only [Act.put, List.setIfInBounds_toArray, List.set_cons_zero, List.set_cons_succ])
  refine takeL (i := 3) (v := ?t2v3) (some 60) rfl rfl (by kernel_rfl) (by kernel_rfl) (by kernel_rfl) (by kernel_rfl) (by kernel_rfl) (fun _ _ _ h => h) (Or.inl ⟨by rfl, ?t2h3⟩) (by assumption) ?t2r3
  case t2h3 => (intro y hSu; (try dsimp only at hSu); go_simp; first | done | with_reducible rfl)
  (try simp only [Act.put, List.setIfInBounds_toArray, List.set_cons_zero, List.set_cons_succ])
  refine takeL (i := 4) (v := ?t2v4) (some 61) rfl rfl (by kernel_rfl) (by kernel_rfl) (by kernel_rfl) (by kernel_rfl) (by kernel_rfl) (fun _ _ _ h => h) (Or.inl ⟨by rfl, ?t2h4⟩) (by assumption) ?t2r4
  case t2h4 => (intro y hSu; (try dsimp only at hSu); go_simp; first | done | with_reducible rfl)
  (try simp only [Act.put, List.setIfInBounds_toArray, List.set_cons_zero, List.set_cons_succ])
  refine takeL (i := 5) (v := ?t2v5) (some 62) rfl rfl (by kernel_rfl) (by kernel_rfl) (by kernel_rfl) (by kernel_rfl) (by kernel_rfl) (fun _ _ _ h => h) (Or.inl ⟨by rfl, ?t2h5⟩) (by assumption) ?t2r5
  case t2h5 => (intro y hSu; (try dsimp only at hSu); go_simp; first | done | with_reducible rfl)
  (try simp only [Act.put, List.setIfInBounds_toArray, List.set_cons_zero, List.set_cons_succ])
  refine takeL (i := 6) (v := ?t2v6) (some 63) rfl rfl (by kernel_rfl) (by kernel_rfl) (by kernel_rfl) (by kernel_rfl) (by kernel_rfl) (fun _ _ _ h => h) (Or.inl ⟨by rfl, ?t2h6⟩) (by assumption) ?t2r6
  case t2h6 => (intro y hSu; (try dsimp only at hSu); go_simp; first | done | with_reducible rfl)
  (try simp only [Act.put, List.setIfInBounds_toArray, List.set_cons_zero, List.set_cons_succ])
  refine takeL (i := 7) (v := ?t2v7) (some 64) rfl rfl (by kernel_rfl) (by kernel_rfl) (by kernel_rfl) (by kernel_rfl) (by kernel_rfl) (fun _ _ _ h => h) (Or.inl ⟨by rfl, ?t2h7⟩) (by assumption) ?t2r7
  case t2h7 => (intro y hSu; (try dsimp only at hSu); go_simp; first | done | with_reducible rfl)
  (try simp only [Act.put, List.setIfInBounds_toArray, List.set_cons_zero, List.set_cons_succ])
  refine takeL (i := 9) (v := ?t2v9) (some 66) rfl rfl (by kernel_rfl) (by kernel_rfl) (by kernel_rfl) (by kernel_rfl) (by kernel_rfl) (fun _ _ _ h => h) (Or.inl ⟨by rfl, ?t2h9⟩) (by assumption) ?t2r9
  case t2h9 => (intro y hSu; (try dsimp only at hSu); go_simp; first | done | with_reducible rfl)
  (try simp only [Act.put, List.setIfInBounds_toArray, List.set_cons_zero, List.set_cons_succ])
  refine readyL (i := 8) (by kernel_rfl) rfl (fun K hK => ?_)
  go_simp
  refine (unhide CC).mono ?_
  rintro r w4 ⟨rfl, HQ⟩
  obtain ⟨lk', ⟨L4, K4, ch4⟩, hB⟩ := unhide HQ
  have HC4 : Hid (Ch Lz w3 L4 w4) := (unhide HC3).trans ch4
  have P4 := (unhide HP3).next (unhide HC4)
  have HK4 : Hid (KSt L4 w4 c p m ma ml me lk' V' es' (N + 3) ∧ Bd 3 e u v V es lk es' lk') := ⟨K4, hB⟩
  obtain ⟨h0, h1, h2, h3, hf⟩ := cellsG P4.box
  obtain ⟨q0, q1, q2, q3⟩ := cellsOp P4.op
  obtain ⟨d0, d1, d2, d3, df⟩ := cellsG (vv := .slice none 0 0) (ev := .slice none 0 0) (rd := 0) (wr := 0) P4.res
  have HE : Hid (w4.cell? ⟨bb, 0, none⟩ = some (.slice va vn vc) ∧ w4.cell? ⟨bb, 1, none⟩ = some (.slice ea en ec) ∧ w4.cell? ⟨bb, 2, none⟩ = some (.int .i64 rd) ∧ w4.cell? ⟨bb, 3, none⟩ = some (.int .i64 wr1) ∧ w4.cell? ⟨bb + 1, 1, none⟩ = some (.int .i64 e) ∧ w4.cell? ⟨bb + 1, 2, none⟩ = some (.int .i64 u) ∧ w4.cell? ⟨bb + 1, 3, none⟩ = some (.int .i64 v)) := ⟨h0, h1, h2, h3, q1, q2, q3⟩
  have hset : ∀ b, b ≠ bb + 2 → (set4 w4 (bb + 2) (.slice va vn vc) (.slice ea en ec) (.int .i64 rd) (.int .i64 wr1)).heap[b]? = w4.heap[b]? := fun b hb => set4_other hb _ _ _ _
  have hS21 : (set4 w4 (bb + 2) (.slice va vn vc) (.slice ea en ec) (.int .i64 rd) (.int .i64 wr1)).cell? ⟨bb, 0, none⟩ = some (.slice va vn vc) ∧ (set4 w4 (bb + 2) (.slice va vn vc) (.slice ea en ec) (.int .i64 rd) (.int .i64 wr1)).cell? ⟨bb, 1, none⟩ = some (.slice ea en ec) ∧ (set4 w4 (bb + 2) (.slice va vn vc) (.slice ea en ec) (.int .i64 rd) (.int .i64 wr1)).cell? ⟨bb, 2, none⟩ = some (.int .i64 rd) ∧ (set4 w4 (bb + 2) (.slice va vn vc) (.slice ea en ec) (.int .i64 rd) (.int .i64 wr1)).cell? ⟨bb, 3, none⟩ = some (.int .i64 wr1) ∧ (set4 w4 (bb + 2) (.slice va vn vc) (.slice ea en ec) (.int .i64 rd) (.int .i64 wr1)).cell? ⟨bb + 1, 1, none⟩ = some (.int .i64 e) ∧ (set4 w4 (bb + 2) (.slice va vn vc) (.slice ea en ec) (.int .i64 rd) (.int .i64 wr1)).cell? ⟨bb + 1, 2, none⟩ = some (.int .i64 u) ∧ (set4 w4 (bb + 2) (.slice va vn vc) (.slice ea en ec) (.int .i64 rd) (.int .i64 wr1)).cell? ⟨bb + 1, 3, none⟩ = some (.int .i64 v) := by
    obtain ⟨z0, z1, z2, z3, -⟩ := cellsG ((hset bb (by omega)).trans P4.box)
    obtain ⟨y0, y1, y2, y3⟩ := cellsOp ((hset (bb + 1) (by omega)).trans P4.op)
    exact ⟨z0, z1, z2, z3, y1, y2, y3⟩
  unfold set4 at hS21
  have HRES := hide P4.res
  clear CC HQ P4 K4 ch4 hB HC3 hset h0 h1 h2 h3 hf q0 q1 q2 q3
  (try dsimp only)
  refine hK.out _ _ (fun _ => (unhide HE)) ?_
  clear hK K
  (try simp only [Act.put, List.setIfInBounds_toArray, List.set_cons_zero, List.set_cons_succ])
  have hH4 := (unhide HE)
  refine takeL (i := 10) (v := ?t5v10) (some 67) rfl rfl (by kernel_rfl) (by kernel_rfl) (by kernel_rfl) (by kernel_rfl) (by kernel_rfl) (fun _ _ _ h => h) (Or.inl ⟨by rfl, ?t5h10⟩) (by assumption) ?t5r10
  case t5h10 => (intro y hSu; (try dsimp only at hSu); go_simp; first | done | with_reducible rfl)
  (try simp only [Act.put, List.setIfInBounds_toArray, List.set_cons_zero, List.set_cons_succ])
  refine readyL (i := 11) (by kernel_rfl) rfl (fun K hK => ?_)
  go_simp
  refine hK.out _ _ (fun _ => hS21) ?_
  clear hK K
  (try simp only [Act.put, List.setIfInBounds_toArray, List.set_cons_zero, List.set_cons_succ])
  have hH7 := hS21
  refine takeL (i := 12) (v := ?t8v12) (some 7) rfl rfl (by kernel_rfl) (by kernel_rfl) (by kernel_rfl) (by kernel_rfl) (by kernel_rfl) (fun _ _ _ h => h) (Or.inl ⟨by rfl, ?t8h12⟩) (by assumption) ?t8r12
  case t8h12 => (intro y hSu; (try dsimp only at hSu); go_simp; first | done | with_reducible rfl)
  (try simp only [Act.put, List.setIfInBounds_toArray, List.set_cons_zero, List.set_cons_succ])
  refine doneL (by kernel_rfl) ?_ _
  refine NoPanic.normal ?_
  clear hS21 HE d0 d1 d2 d3 df g0 g1 g2 g3 gf o0 o1 o2 o3
  go_wp2_with fail
  (try simp only [Exit.inBlock, Exit.then])
  change bodyPost _ _ _ _ _ (set4 w4 (bb + 2) _ _ _ _)
  refine bodyPost_ret (resG rfl _ _ (bb + 2) _ _ _ _ rfl (set4G_at (unhide HRES) _ _ _ _)) rfl ?_
  exact play_end (unhide HP3) (unhide HR3) (unhide HK4).1 (unhide HC4) (unhide HG).1 (unhide HG).2.1 (unhide HG).2.2 (unhide HK4).2
end

section
open Go.RowKit Go.Maps T9
set_option maxHeartbeats 4000000 in
set_option maxRecDepth 100000 in
theorem play4 {L : Nat → Nat} {w : World} {c p m ma ml me : Nat} {lk : Int} {V : List Int} {es : List EdV} {N : Nat} {vv ev : Value} {rd wr_0 e u v : Int} {t : Int} (hK : KSt L w c p m ma ml me lk V es N) (hvv : NRow w vv V) (hev : GRow 0 w ev es) (lv : ∀ b, vv.ownBlock = some b → L b = 0) (le : ∀ b, ev.ownBlock = some b → L b = 0)
    (HR : ∀ W, Below w.heap.size w W → Calls Tryz.prog 28 #[.agg #[vv, ev, .int .i64 rd, .int .i64 wr_0], .int .i64 e] W fun r w2 => ∃ va vn vc ea en ec wr1, r = .returned (.tuple #[.agg #[.slice va vn vc, .slice ea en ec, .int .i64 rd, .int .i64 wr1], .int .i64 t]) ∧ Hid (Pair L c p m ma ml me lk V es N wr_0 4 e u v vv ev W (fun Q W2 => Calls Tryz.prog 16 #[.pointer (some ⟨c, 0, none⟩), .int .i64 e] W2 Q) (.int .i64 t) (.slice va vn vc) (.slice ea en ec) wr1 w2)) :
    Calls Tryz.prog 9 #[.pointer (some ⟨c, 0, none⟩), .agg #[vv, ev, .int .i64 rd, .int .i64 wr_0], .agg #[.int .i64 4, .int .i64 e, .int .i64 u, .int .i64 v]] w fun r w' => Hid (PlayAns L w c p m ma ml me lk V es N vv ev rd wr_0 4 e u v r w') := by
  obtain ⟨t1, t2, t3, t4, t5⟩ := three_boxesP w (oG vv ev rd wr_0) (oOp 4 e u v)
  have hL : ∀ b, w.heap.size ≤ b → lab L w.heap.size 0 b = 0 := fun b hb => if_neg (by omega)
  have P0 : PG L w w.heap.size vv ev rd wr_0 4 e u v (lab L w.heap.size 0) (((w.alloc (oG vv ev rd wr_0)).alloc (oOp 4 e u v)).alloc oZ) := ⟨(Ch.named L w 0).trans (Ch.below t4), t1, t2, t3, hL _ (by omega), hL _ (by omega), hL _ (by omega), rfl⟩
  have K0 := (hK.named 0).below t4
  obtain ⟨c0, c1, c2, c3, cf⟩ := cellsG t1
  obtain ⟨p0, p1, p2, p3⟩ := cellsOp t2
  obtain ⟨Lz, hLz⟩ : ∃ Lz, Lz = lab L w.heap.size 0 := ⟨_, rfl⟩
  rw [← hLz] at P0 K0
  have HLZ := hide hLz
  have CR := hide (HR _ t4)
  have HP0 := hide P0
  have HK0 := hide K0
  have HLV : Hid ((∀ b, vv.ownBlock = some b → L b = 0 ∧ b < w.heap.size) ∧ (∀ b, ev.ownBlock = some b → L b = 0 ∧ b < w.heap.size) ∧ (((w.alloc (oG vv ev rd wr_0)).alloc (oOp 4 e u v)).alloc oZ).heap.size = w.heap.size + 3) := ⟨fun b q => ⟨lv b q, (hvv.lt b q).2⟩, fun b q => ⟨le b q, (hev.lt b q).2⟩, t5⟩
  obtain ⟨va0, vc0, hv0, -⟩ := brow_shape hvv
  obtain ⟨vn0, hv0'⟩ : ∃ vn0, vv = .slice va0 vn0 vc0 := ⟨_, hv0⟩
  obtain ⟨ea0, en0, ec0, he0⟩ := grow_shape hev
  clear t1 t2 t3 t4 t5 hL P0 K0 hLz hK hvv hev lv le HR hv0
  subst hv0' he0
  go_enter Tryz.func9, Tryz.ntmps9
  go_upto_region 1 with fail
  change Code.wp _ _ _ _ (((w.alloc (oG (.slice va0 vn0 vc0) (.slice ea0 en0 ec0) rd wr_0)).alloc (oOp 4 e u v)).alloc oZ)
  generalize ((w.alloc (oG (.slice va0 vn0 vc0) (.slice ea0 en0 ec0) rd wr_0)).alloc (oOp 4 e u v)).alloc oZ = wb at *
  obtain ⟨bb, hbb⟩ : ∃ bb, bb = w.heap.size := ⟨_, rfl⟩
  have HBB := hide hbb
  rw [← hbb] at c0 c1 c2 c3 cf p0 p1 p2 p3 HP0
  rw [← hbb]
  clear hbb
  go_wp2_with fail
  refine (unhide CR).mono ?_
  rintro r w2 ⟨va, vn, vc, ea, en, ec, wr1, rfl, HQ⟩
  clear CR c0 c1 c2 c3 cf p0 p1 p2 p3
  obtain ⟨V', es', n1, n2, hb, a1, a2, w1, w2', hG', hC⟩ := unhide HQ
  have hsz : wb.heap.size = bb + 3 := by rw [unhide HBB]; exact (unhide HLV).2.2
  obtain ⟨P3, R3⟩ := play_mid (wr1 := wr1) (rd := rd) (unhide HLZ) (unhide HP0) (unhide HLV).1 (unhide HLV).2.1 hsz n1 n2 hb a1 a2
  have P2 := (unhide HP0).next (Ch.below hb)
  have K3 := ((unhide HK0).below hb).set P2.l0 (.slice va vn vc) (.slice ea en ec) (.int .i64 rd) (.int .i64 wr1)
  obtain ⟨c0, c1, c2, c3, cf⟩ := cellsG P2.box
  obtain ⟨w3, hw3⟩ : ∃ w3, w3 = set4 w2 bb (.slice va vn vc) (.slice ea en ec) (.int .i64 rd) (.int .i64 wr1) := ⟨_, rfl⟩
  rw [← hw3] at P3 R3 K3
  have CC := hide (hC _ (w3.drewN 1) (K3.below (below_drewN (Below.refl _ _) 1)))
  have HP3 := hide P3
  have HR3 := hide R3
  have HG : Hid (GOk V' es' (N + 3) ∧ wr_0 ≤ wr1 ∧ wr1 ≤ wr_0 + 1) := ⟨hG', w1, w2'⟩
  have HC3 : Hid (Ch Lz w3 Lz (w3.drewN 1)) := Ch.below (below_drewN (Below.refl _ _) 1)
  obtain ⟨g0, g1, g2, g3, gf⟩ := cellsG P3.box
  obtain ⟨o0, o1, o2, o3⟩ := cellsOp P3.op
  obtain ⟨pp0, pp1, pp2, pp3⟩ := cellsOp P2.op
  have HW3 := hide hw3
  clear HQ n1 n2 hb a1 a2 w1 w2' hG' hC hsz P2 P3 R3 K3 HP0 HK0 HLV
  go_upto_region 14 with fail
  (try rw [show (((w2.setCell ⟨bb, 0, none⟩ (.slice va vn vc)).setCell ⟨bb, 1, none⟩ (.slice ea en ec)).setCell ⟨bb, 2, none⟩ (.int .i64 rd)).setCell ⟨bb, 3, none⟩ (.int .i64 wr1) = w3 from (unhide HW3).symm])
  clear c0 c1 c2 c3 cf pp0 pp1 pp2 pp3 hw3 HW3
  refine wp_region_noPanic ?_
  refine regionL [] (fun y => y.cell? ⟨bb, 0, none⟩ = some (.slice va vn vc) ∧ y.cell? ⟨bb, 1, none⟩ = some (.slice ea en ec) ∧ y.cell? ⟨bb, 2, none⟩ = some (.int .i64 rd) ∧ y.cell? ⟨bb, 3, none⟩ = some (.int .i64 wr1) ∧ y.cell? ⟨bb + 1, 1, none⟩ = some (.int .i64 e)) (by kernel_rfl) ⟨g0, g1, g2, g3, o1⟩ (fun hHeld => ?_)
  refine takeL (i := 0) (v := ?t2v0) (some 77) rfl rfl (by kernel_rfl) (by kernel_rfl) (by kernel_rfl) (by kernel_rfl) (by kernel_rfl) (fun _ _ _ h => h) (Or.inl ⟨by rfl, ?t2h0⟩) (by assumption) ?t2r0
  case t2h0 => (intro y hSu; (try dsimp only at hSu); go_simp; first | done | with_reducible rfl)
  (try simp only [Act.put, List.setIfInBounds_toArray, List.set_cons_zero, List.set_cons_succ])
  refine takeL (i := 1) (v := ?t2v1) (some 78) rfl rfl (by kernel_rfl) (by kernel_rfl) (by kernel_rfl) (by kernel_rfl) (by kernel_rfl) (fun _ _ _ h => h) (Or.inl ⟨by rfl, ?t2h1⟩) (by assumption) ?t2r1
  case t2h1 => (intro y hSu; (try dsimp only at hSu); go_simp; first | done | with_reducible rfl)
  (try simp only [Act.put, List.setIfInBounds_toArray, List.set_cons_zero, List.set_cons_succ])
  refine takeL (i := 2) (v := ?t2v2) (some 79) rfl rfl (by kernel_rfl) (by kernel_rfl) (by kernel_rfl) (by kernel_rfl) (by kernel_rfl) (fun _ _ _ h => h) (Or.inl ⟨by rfl, ?t2h2⟩) (by assumption) ?t2r2
  case t2h2 => (intro y hSu; (try dsimp only at hSu); go_simp; first | done | with_reducible rfl)
  (try simp only [Act.put, List.setIfInBounds_toArray, List.set_cons_zero, List.set_cons_succ])
  refine takeL (i := 3) (v := ?t2v3) (some 80) rfl rfl (by kernel_rfl) (by kernel_rfl) (by kernel_rfl) (by kernel_rfl) (by kernel_rfl) (fun _ _ _ h => h) (Or.inl ⟨by rfl, ?t2h3⟩) (by assumption) ?t2r3
  case t2h3 => (intro y hSu; (try dsimp only at hSu); go_simp; first | done | with_reducible rfl)
  (try simp only [Act.put, List.setIfInBounds_toArray, List.set_cons_zero, List.set_cons_succ])
  refine takeL (i := 5) (v := ?t2v5) (some 82) rfl rfl (by kernel_rfl) (by kernel_rfl) (by kernel_rfl) (by kernel_rfl) (by kernel_rfl) (fun _ _ _ h => h) (Or.inl ⟨by rfl, ?t2h5⟩) (by assumption) ?t2r5
  case t2h5 => (intro y hSu; (try dsimp only at hSu); go_simp; first | done | with_reducible rfl)
  (try simp only [Act.put, List.setIfInBounds_toArray, List.set_cons_zero, List.set_cons_succ])
  refine readyL (i := 4) (by kernel_rfl) rfl (fun K hK => ?_)
  go_simp
  refine (unhide CC).mono ?_
  rintro r w4 ⟨rfl, HQ⟩
  obtain ⟨lk', ⟨L4, K4, ch4⟩, hB⟩ := unhide HQ
  have HC4 : Hid (Ch Lz w3 L4 w4) := (unhide HC3).trans ch4
  have P4 := (unhide HP3).next (unhide HC4)
  have HK4 : Hid (KSt L4 w4 c p m ma ml me lk' V' es' (N + 3) ∧ Bd 4 e u v V es lk es' lk') := ⟨K4, hB⟩
  obtain ⟨h0, h1, h2, h3, hf⟩ := cellsG P4.box
  obtain ⟨q0, q1, q2, q3⟩ := cellsOp P4.op
  obtain ⟨d0, d1, d2, d3, df⟩ := cellsG (vv := .slice none 0 0) (ev := .slice none 0 0) (rd := 0) (wr := 0) P4.res
  have HE : Hid (w4.cell? ⟨bb, 0, none⟩ = some (.slice va vn vc) ∧ w4.cell? ⟨bb, 1, none⟩ = some (.slice ea en ec) ∧ w4.cell? ⟨bb, 2, none⟩ = some (.int .i64 rd) ∧ w4.cell? ⟨bb, 3, none⟩ = some (.int .i64 wr1) ∧ w4.cell? ⟨bb + 1, 1, none⟩ = some (.int .i64 e)) := ⟨h0, h1, h2, h3, q1⟩
  have hset : ∀ b, b ≠ bb + 2 → (set4 w4 (bb + 2) (.slice va vn vc) (.slice ea en ec) (.int .i64 rd) (.int .i64 wr1)).heap[b]? = w4.heap[b]? := fun b hb => set4_other hb _ _ _ _
  have hS21 : (set4 w4 (bb + 2) (.slice va vn vc) (.slice ea en ec) (.int .i64 rd) (.int .i64 wr1)).cell? ⟨bb, 0, none⟩ = some (.slice va vn vc) ∧ (set4 w4 (bb + 2) (.slice va vn vc) (.slice ea en ec) (.int .i64 rd) (.int .i64 wr1)).cell? ⟨bb, 1, none⟩ = some (.slice ea en ec) ∧ (set4 w4 (bb + 2) (.slice va vn vc) (.slice ea en ec) (.int .i64 rd) (.int .i64 wr1)).cell? ⟨bb, 2, none⟩ = some (.int .i64 rd) ∧ (set4 w4 (bb + 2) (.slice va vn vc) (.slice ea en ec) (.int .i64 rd) (.int .i64 wr1)).cell? ⟨bb, 3, none⟩ = some (.int .i64 wr1) ∧ (set4 w4 (bb + 2) (.slice va vn vc) (.slice ea en ec) (.int .i64 rd) (.int .i64 wr1)).cell? ⟨bb + 1, 1, none⟩ = some (.int .i64 e) := by
    obtain ⟨z0, z1, z2, z3, -⟩ := cellsG ((hset bb (by omega)).trans P4.box)
    obtain ⟨y0, y1, y2, y3⟩ := cellsOp ((hset (bb + 1) (by omega)).trans P4.op)
    exact ⟨z0, z1, z2, z3, y1⟩
  unfold set4 at hS21
  have HRES := hide P4.res
  clear CC HQ P4 K4 ch4 hB HC3 hset h0 h1 h2 h3 hf q0 q1 q2 q3
  (try dsimp only)
  refine hK.out _ _ (fun _ => (unhide HE)) ?_
  clear hK K
  (try simp only [Act.put, List.setIfInBounds_toArray, List.set_cons_zero, List.set_cons_succ])
  have hH4 := (unhide HE)
  refine takeL (i := 6) (v := ?t5v6) (some 83) rfl rfl (by kernel_rfl) (by kernel_rfl) (by kernel_rfl) (by kernel_rfl) (by kernel_rfl) (fun _ _ _ h => h) (Or.inl ⟨by rfl, ?t5h6⟩) (by assumption) ?t5r6
  case t5h6 => (intro y hSu; (try dsimp only at hSu); go_simp; first | done | with_reducible rfl)
  (try simp only [Act.put, List.setIfInBounds_toArray, List.set_cons_zero, List.set_cons_succ])
  refine readyL (i := 7) (by kernel_rfl) rfl (fun K hK => ?_)
  go_simp
  refine hK.out _ _ (fun _ => hS21) ?_
  clear hK K
  (try simp only [Act.put, List.setIfInBounds_toArray, List.set_cons_zero, List.set_cons_succ])
  have hH7 := hS21
  refine takeL (i := 8) (v := ?t8v8) (some 7) rfl rfl (by kernel_rfl) (by kernel_rfl) (by kernel_rfl) (by kernel_rfl) (by kernel_rfl) (fun _ _ _ h => h) (Or.inl ⟨by rfl, ?t8h8⟩) (by assumption) ?t8r8
  case t8h8 => (intro y hSu; (try dsimp only at hSu); go_simp; first | done | with_reducible rfl)
  (try simp only [Act.put, List.setIfInBounds_toArray, List.set_cons_zero, List.set_cons_succ])
  refine doneL (by kernel_rfl) ?_ _
  refine NoPanic.normal ?_
  clear hS21 HE d0 d1 d2 d3 df g0 g1 g2 g3 gf o0 o1 o2 o3
  go_wp2_with fail
  (try simp only [Exit.inBlock, Exit.then])
  change bodyPost _ _ _ _ _ (set4 w4 (bb + 2) _ _ _ _)
  refine bodyPost_ret (resG rfl _ _ (bb + 2) _ _ _ _ rfl (set4G_at (unhide HRES) _ _ _ _)) rfl ?_
  exact play_end (unhide HP3) (unhide HR3) (unhide HK4).1 (unhide HC4) (unhide HG).1 (unhide HG).2.1 (unhide HG).2.2 (unhide HK4).2
end

end Go.Proofs.YtkmhcgmmbkchaaaGreat
