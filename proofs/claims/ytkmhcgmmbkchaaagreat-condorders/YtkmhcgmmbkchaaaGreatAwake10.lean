/- A new Cond; awake. -/
import Derived.Test.YtkmhcgmmbkchaaaGreatPlayB10
import Derived.Test.YtkmhcgmmbkchaaaGreatPlayD10
import Derived.Test.YtkmhcgmmbkchaaaGreatLow9
namespace Go.Proofs.YtkmhcgmmbkchaaaGreat

section
open Go.RowKit Go.Maps T9
theorem heads_ex (nx : Nat → List Nat) (n : Nat) : ∃ h, Heads nx n h := by
  have h1 : ∀ p, ∃ q, T9.Reach nx p q ∧ T9.Reach nx q p ∧ ∀ j, T9.Reach nx p j → T9.Reach nx j p → q ≤ j := fun p => by
    have key : ∀ k, (∃ q, q ≤ k ∧ T9.Reach nx p q ∧ T9.Reach nx q p) → ∃ q, T9.Reach nx p q ∧ T9.Reach nx q p ∧ ∀ j, T9.Reach nx p j → T9.Reach nx j p → q ≤ j := by
      intro k
      induction k with
      | zero =>
        rintro ⟨q, hq, a, b⟩
        obtain rfl : q = 0 := by omega
        exact ⟨0, a, b, fun j _ _ => Nat.zero_le _⟩
      | succ k ih =>
        rintro ⟨q, hq, a, b⟩
        by_cases hx : ∃ q, q ≤ k ∧ T9.Reach nx p q ∧ T9.Reach nx q p
        · exact ih hx
        · refine ⟨q, a, b, fun j c d => ?_⟩
          rcases Nat.lt_or_ge j q with z | z
          · exact absurd ⟨j, by omega, c, d⟩ hx
          · exact z
    exact key p ⟨p, Nat.le_refl _, T9.Reach.refl _ _, T9.Reach.refl _ _⟩
  obtain ⟨h, hh⟩ := Classical.skolem.1 h1
  exact ⟨h, fun p _ => hh p⟩
set_option maxHeartbeats 4000000 in
set_option maxRecDepth 100000 in
theorem playAsk {L : Nat → Nat} {w : World} {c p m ma ml me : Nat} {lk : Int} {V : List Int} {es : List EdV} {N : Nat} {vv ev : Value} {rd wr_0 k e u v : Int} (hK : KSt L w c p m ma ml me lk V es N) (hG : GOk V es N) (hN : N ≤ 1000) (hvv : NRow w vv V) (hev : GRow 0 w ev es) (lv : ∀ b, vv.ownBlock = some b → L b = 0) (le : ∀ b, ev.ownBlock = some b → L b = 0) (hou : okN u) (hov : okN v) (z1 : (k == 1) = false) (z2 : (k == 2) = false) (z3 : (k == 3) = false) (z4 : (k == 4) = false) :
    Calls Tryz.prog 9 #[.pointer (some ⟨c, 0, none⟩), .agg #[vv, ev, .int .i64 rd, .int .i64 wr_0], .agg #[.int .i64 k, .int .i64 e, .int .i64 u, .int .i64 v]] w fun r w' => Hid (PlayAns L w c p m ma ml me lk V es N vv ev rd wr_0 k e u v r w') := by
  obtain ⟨t1, t2, t3, t4, t5⟩ := three_boxesP w (oG vv ev rd wr_0) (oOp k e u v)
  have hL : ∀ b, w.heap.size ≤ b → lab L w.heap.size 0 b = 0 := fun b hb => if_neg (by omega)
  have P0 : PG L w w.heap.size vv ev rd wr_0 k e u v (lab L w.heap.size 0) (((w.alloc (oG vv ev rd wr_0)).alloc (oOp k e u v)).alloc oZ) := ⟨(Ch.named L w 0).trans (Ch.below t4), t1, t2, t3, hL _ (by omega), hL _ (by omega), hL _ (by omega), rfl⟩
  have K0 := (hK.named 0).below t4
  have R0 : RS w.heap.size vv ev vv ev V es (lab L w.heap.size 0) (((w.alloc (oG vv ev rd wr_0)).alloc (oOp k e u v)).alloc oZ) := ⟨nrow_below hvv t4, grow_below hev t4, fun b q => ⟨(if_pos (hvv.lt b q).2).trans (lv b q), .inl (hvv.lt b q).2, .inl q⟩, fun b q => ⟨(if_pos (hev.lt b q).2).trans (le b q), .inl (hev.lt b q).2, .inl q⟩⟩
  obtain ⟨h, H⟩ := heads_ex (nextOf V (arcsE es)) V.length
  obtain ⟨g0, g1, g2, g3, gf⟩ := cellsG t1
  obtain ⟨p0, p1, p2, p3⟩ := cellsOp t2
  obtain ⟨Lz, hLz⟩ : ∃ Lz, Lz = lab L w.heap.size 0 := ⟨_, rfl⟩
  rw [← hLz] at P0 K0 R0
  have lV := hG.lenV
  have lE := hG.lenE
  have CO : Hid (Calls Tryz.prog 30 #[.agg #[vv, ev, .int .i64 rd, .int .i64 wr_0]] ((((w.alloc (oG vv ev rd wr_0)).alloc (oOp k e u v)).alloc oZ).drewN 1) fun r w' => Hid (OfrAns ((((w.alloc (oG vv ev rd wr_0)).alloc (oOp k e u v)).alloc oZ).drewN 1) V h r w')) := ofrS (nrow_below R0.vs (below_drewN (Below.refl _ _) 1)) (grow_below R0.es_ (below_drewN (Below.refl _ _) 1)) hG.rise hG.ends (by omega) (by omega) H
  have HP0 := hide P0
  have HK0 := hide K0
  have HR0 := hide R0
  have HG : Hid (GOk V es N ∧ N ≤ 1000 ∧ Heads (nextOf V (arcsE es)) V.length h ∧ okN u ∧ okN v) := ⟨hG, hN, H, hou, hov⟩
  obtain ⟨va, vc, hv0, -⟩ := brow_shape hvv
  obtain ⟨vn, hv0'⟩ : ∃ vn0, vv = .slice va vn0 vc := ⟨_, hv0⟩
  obtain ⟨ea, en, ec, he0⟩ := grow_shape hev
  clear t1 t2 t3 t4 t5 hL P0 K0 R0 hLz hK hG hN hvv hev lv le hv0 H hou hov lV lE
  subst hv0' he0
  go_enter Tryz.func9, Tryz.ntmps9
  go_upto_region 1 with fail
  change Code.wp _ _ _ _ (((w.alloc (oG (.slice va vn vc) (.slice ea en ec) rd wr_0)).alloc (oOp k e u v)).alloc oZ)
  generalize ((w.alloc (oG (.slice va vn vc) (.slice ea en ec) rd wr_0)).alloc (oOp k e u v)).alloc oZ = wb at *
  obtain ⟨bb, hbb⟩ : ∃ bb, bb = w.heap.size := ⟨_, rfl⟩
  rw [← hbb] at g0 g1 g2 g3 gf p0 p1 p2 p3 HP0 HR0
  rw [← hbb]
  clear hbb
  have HC1 : Hid (Ch Lz wb Lz (wb.drewN 1)) := Ch.below (below_drewN (Below.refl _ _) 1)
  go_upto_region 15 with fail
  refine wp_region_noPanic ?_
  refine regionL [] (fun y => y.cell? ⟨bb, 0, none⟩ = some (.slice va vn vc) ∧ y.cell? ⟨bb, 1, none⟩ = some (.slice ea en ec) ∧ y.cell? ⟨bb, 2, none⟩ = some (.int .i64 rd) ∧ y.cell? ⟨bb, 3, none⟩ = some (.int .i64 wr_0) ∧ y.cell? ⟨bb + 1, 2, none⟩ = some (.int .i64 u) ∧ y.cell? ⟨bb + 1, 3, none⟩ = some (.int .i64 v)) (by kernel_rfl) ⟨g0, g1, g2, g3, p2, p3⟩ (fun hHeld => ?_)
  refine takeL (i := 0) (v := ?t2v0) (some 84) rfl rfl (by kernel_rfl) (by kernel_rfl) (by kernel_rfl) (by kernel_rfl) (by kernel_rfl) (fun _ _ _ h => h) (Or.inl ⟨by rfl, ?t2h0⟩) (by assumption) ?t2r0
  case t2h0 => (intro y hSu; (try dsimp only at hSu); go_simp; first | done | with_reducible rfl)
  (try simp only [Act.put, List.setIfInBounds_toArray, List.set_cons_zero, List.set_cons_succ])
  refine takeL (i := 1) (v := ?t2v1) (some 85) rfl rfl (by kernel_rfl) (by kernel_rfl) (by kernel_rfl) (by kernel_rfl) (by kernel_rfl) (fun _ _ _ h => h) (Or.inl ⟨by rfl, ?t2h1⟩) (by assumption) ?t2r1
  case t2h1 => (intro y hSu; (try dsimp only at hSu); go_simp; first | done | with_reducible rfl)
  (try simp only [Act.put, List.setIfInBounds_toArray, List.set_cons_zero, List.set_cons_succ])
  refine takeL (i := 2) (v := ?t2v2) (some 86) rfl rfl (by kernel_rfl) (by kernel_rfl) (by kernel_rfl) (by kernel_rfl) (by kernel_rfl) (fun _ _ _ h => h) (Or.inl ⟨by rfl, ?t2h2⟩) (by assumption) ?t2r2
  case t2h2 => (intro y hSu; (try dsimp only at hSu); go_simp; first | done | with_reducible rfl)
  (try simp only [Act.put, List.setIfInBounds_toArray, List.set_cons_zero, List.set_cons_succ])
  refine takeL (i := 3) (v := ?t2v3) (some 87) rfl rfl (by kernel_rfl) (by kernel_rfl) (by kernel_rfl) (by kernel_rfl) (by kernel_rfl) (fun _ _ _ h => h) (Or.inl ⟨by rfl, ?t2h3⟩) (by assumption) ?t2r3
  case t2h3 => (intro y hSu; (try dsimp only at hSu); go_simp; first | done | with_reducible rfl)
  (try simp only [Act.put, List.setIfInBounds_toArray, List.set_cons_zero, List.set_cons_succ])
  refine takeL (i := 5) (v := ?t2v5) (some 89) rfl rfl (by kernel_rfl) (by kernel_rfl) (by kernel_rfl) (by kernel_rfl) (by kernel_rfl) (fun _ _ _ h => h) (Or.inl ⟨by rfl, ?t2h5⟩) (by assumption) ?t2r5
  case t2h5 => (intro y hSu; (try dsimp only at hSu); go_simp; first | done | with_reducible rfl)
  (try simp only [Act.put, List.setIfInBounds_toArray, List.set_cons_zero, List.set_cons_succ])
  refine takeL (i := 6) (v := ?t2v6) (some 90) rfl rfl (by kernel_rfl) (by kernel_rfl) (by kernel_rfl) (by kernel_rfl) (by kernel_rfl) (fun _ _ _ h => h) (Or.inl ⟨by rfl, ?t2h6⟩) (by assumption) ?t2r6
  case t2h6 => (intro y hSu; (try dsimp only at hSu); go_simp; first | done | with_reducible rfl)
  (try simp only [Act.put, List.setIfInBounds_toArray, List.set_cons_zero, List.set_cons_succ])
  refine takeL (i := 7) (v := ?t2v7) (some 91) rfl rfl (by kernel_rfl) (by kernel_rfl) (by kernel_rfl) (by kernel_rfl) (by kernel_rfl) (fun _ _ _ h => h) (Or.inl ⟨by rfl, ?t2h7⟩) (by assumption) ?t2r7
  case t2h7 => (intro y hSu; (try dsimp only at hSu); go_simp; first | done | with_reducible rfl)
  (try simp only [Act.put, List.setIfInBounds_toArray, List.set_cons_zero, List.set_cons_succ])
  refine takeL (i := 8) (v := ?t2v8) (some 92) rfl rfl (by kernel_rfl) (by kernel_rfl) (by kernel_rfl) (by kernel_rfl) (by kernel_rfl) (fun _ _ _ h => h) (Or.inl ⟨by rfl, ?t2h8⟩) (by assumption) ?t2r8
  case t2h8 => (intro y hSu; (try dsimp only at hSu); go_simp; first | done | with_reducible rfl)
  (try simp only [Act.put, List.setIfInBounds_toArray, List.set_cons_zero, List.set_cons_succ])
  refine readyL (i := 4) (by kernel_rfl) rfl (fun K hK => ?_)
  go_simp
  refine (unhide CO).mono ?_
  intro r w2 HO
  obtain ⟨x2, n2, c2, rfl, LC, hb2⟩ := unhide HO
  have HC2 : Hid (Ch Lz wb Lz w2) := (unhide HC1).trans (Ch.below hb2)
  have P2 := (unhide HP0).next (unhide HC2)
  obtain ⟨h0, h1, h2, h3, hf⟩ := cellsG P2.box
  obtain ⟨q0, q1, q2, q3⟩ := cellsOp P2.op
  have HE : Hid (w2.cell? ⟨bb, 0, none⟩ = some (.slice va vn vc) ∧ w2.cell? ⟨bb, 1, none⟩ = some (.slice ea en ec) ∧ w2.cell? ⟨bb, 2, none⟩ = some (.int .i64 rd) ∧ w2.cell? ⟨bb, 3, none⟩ = some (.int .i64 wr_0) ∧ w2.cell? ⟨bb + 1, 2, none⟩ = some (.int .i64 u) ∧ w2.cell? ⟨bb + 1, 3, none⟩ = some (.int .i64 v)) := ⟨h0, h1, h2, h3, q2, q3⟩
  have HK2 : Hid (KSt Lz w2 c p m ma ml me lk V es N) := ((unhide HK0).below (below_drewN (Below.refl _ _) 1)).below hb2
  have CA := hide (asksS (vv := .slice va vn vc) (ev := .slice ea en ec) (rd := rd) (wr_0 := wr_0) (unhide HK2) (unhide HG).1 (unhide HG).2.1 (unhide HG).2.2.1 LC (unhide HG).2.2.2.1 (unhide HG).2.2.2.2)
  clear CO HO LC hb2 P2 h0 h1 h2 h3 hf q0 q1 q2 q3
  (try dsimp only)
  refine hK.out _ _ (fun _ => (unhide HE)) ?_
  clear hK K
  (try simp only [Act.put, List.setIfInBounds_toArray, List.set_cons_zero, List.set_cons_succ])
  have hH4 := (unhide HE)
  refine readyL (i := 9) (by kernel_rfl) rfl (fun K hK => ?_)
  go_simp
  refine (unhide CA).mono ?_
  rintro r w4 ⟨rfl, hb4⟩
  have HC4 : Hid (Ch Lz wb Lz w4) := (unhide HC2).trans (Ch.below (unhide hb4))
  have P4 := (unhide HP0).next (unhide HC4)
  have HK4 : Hid (KSt Lz w4 c p m ma ml me lk V es N) := (unhide HK2).below (unhide hb4)
  obtain ⟨h0, h1, h2, h3, hf⟩ := cellsG P4.box
  obtain ⟨q0, q1, q2, q3⟩ := cellsOp P4.op
  obtain ⟨d0, d1, d2, d3, df⟩ := cellsG (vv := .slice none 0 0) (ev := .slice none 0 0) (rd := 0) (wr := 0) P4.res
  have HE4 : Hid (w4.cell? ⟨bb, 0, none⟩ = some (.slice va vn vc) ∧ w4.cell? ⟨bb, 1, none⟩ = some (.slice ea en ec) ∧ w4.cell? ⟨bb, 2, none⟩ = some (.int .i64 rd) ∧ w4.cell? ⟨bb, 3, none⟩ = some (.int .i64 wr_0) ∧ w4.cell? ⟨bb + 1, 2, none⟩ = some (.int .i64 u) ∧ w4.cell? ⟨bb + 1, 3, none⟩ = some (.int .i64 v)) := ⟨h0, h1, h2, h3, q2, q3⟩
  have hset : ∀ b, b ≠ bb + 2 → (set4 w4 (bb + 2) (.slice va vn vc) (.slice ea en ec) (.int .i64 rd) (.int .i64 wr_0)).heap[b]? = w4.heap[b]? := fun b hb => set4_other hb _ _ _ _
  have hS21 : (set4 w4 (bb + 2) (.slice va vn vc) (.slice ea en ec) (.int .i64 rd) (.int .i64 wr_0)).cell? ⟨bb, 0, none⟩ = some (.slice va vn vc) ∧ (set4 w4 (bb + 2) (.slice va vn vc) (.slice ea en ec) (.int .i64 rd) (.int .i64 wr_0)).cell? ⟨bb, 1, none⟩ = some (.slice ea en ec) ∧ (set4 w4 (bb + 2) (.slice va vn vc) (.slice ea en ec) (.int .i64 rd) (.int .i64 wr_0)).cell? ⟨bb, 2, none⟩ = some (.int .i64 rd) ∧ (set4 w4 (bb + 2) (.slice va vn vc) (.slice ea en ec) (.int .i64 rd) (.int .i64 wr_0)).cell? ⟨bb, 3, none⟩ = some (.int .i64 wr_0) ∧ (set4 w4 (bb + 2) (.slice va vn vc) (.slice ea en ec) (.int .i64 rd) (.int .i64 wr_0)).cell? ⟨bb + 1, 2, none⟩ = some (.int .i64 u) ∧ (set4 w4 (bb + 2) (.slice va vn vc) (.slice ea en ec) (.int .i64 rd) (.int .i64 wr_0)).cell? ⟨bb + 1, 3, none⟩ = some (.int .i64 v) := by
    obtain ⟨z0, z1, z2, z3, -⟩ := cellsG ((hset bb (by omega)).trans P4.box)
    obtain ⟨y0, y1, y2, y3⟩ := cellsOp ((hset (bb + 1) (by omega)).trans P4.op)
    exact ⟨z0, z1, z2, z3, y2, y3⟩
  unfold set4 at hS21
  have HRES := hide P4.res
  clear CA hb4 P4 hset HK2 HC2 h0 h1 h2 h3 hf q0 q1 q2 q3
  (try dsimp only)
  refine hK.out _ _ (fun _ => (unhide HE4)) ?_
  clear hK K
  (try simp only [Act.put, List.setIfInBounds_toArray, List.set_cons_zero, List.set_cons_succ])
  have hH6 := (unhide HE4)
  refine readyL (i := 10) (by kernel_rfl) rfl (fun K hK => ?_)
  go_simp
  refine hK.out _ _ (fun _ => hS21) ?_
  clear hK K
  (try simp only [Act.put, List.setIfInBounds_toArray, List.set_cons_zero, List.set_cons_succ])
  have hH8 := hS21
  refine takeL (i := 11) (v := ?t9v11) (some 7) rfl rfl (by kernel_rfl) (by kernel_rfl) (by kernel_rfl) (by kernel_rfl) (by kernel_rfl) (fun _ _ _ h => h) (Or.inl ⟨by rfl, ?t9h11⟩) (by assumption) ?t9r11
  case t9h11 => (intro y hSu; (try dsimp only at hSu); go_simp; first | done | with_reducible rfl)
  (try simp only [Act.put, List.setIfInBounds_toArray, List.set_cons_zero, List.set_cons_succ])
  refine doneL (by kernel_rfl) ?_ _
  refine NoPanic.normal ?_
  clear hS21 HE HE4 d0 d1 d2 d3 df g0 g1 g2 g3 gf p0 p1 p2 p3
  go_wp2_with fail
  (try simp only [Exit.inBlock, Exit.then])
  change bodyPost _ _ _ _ _ (set4 w4 (bb + 2) _ _ _ _)
  refine bodyPost_ret (resG rfl _ _ (bb + 2) _ _ _ _ rfl (set4G_at (unhide HRES) _ _ _ _)) rfl ?_
  exact play_end (unhide HP0) (unhide HR0) ((unhide HK4).mono (by omega)) (unhide HC4) ((unhide HG).1.mono (by omega)) (Int.le_refl _) (by omega) (.inl ⟨rfl, rfl⟩)
end

section
open Go.RowKit Go.Maps T9
theorem pair_of {L : Nat → Nat} {c p m ma ml me : Nat} {lk : Int} {V V' : List Int} {es es' : List EdV} {N : Nat} {rd wr wr1 k e u v : Int} {vv ev : Value} {W w2 : World} {C : (Ending → World → Prop) → World → Prop} {x : Value} {r : Ending} (h : AnsX W vv ev V' es' rd wr1 x r w2) (hw1 : wr ≤ wr1) (hw2 : wr1 ≤ wr + 1) (hG : GOk V' es' (N + 3)) (hC : ∀ L2 W2, KSt L2 W2 c p m ma ml me lk V es N → C (fun r w' => r = .returned x ∧ Hid (∃ lk', KGo L2 W2 c p m ma ml me lk' V' es' (N + 3) w' ∧ Bd k e u v V es lk es' lk')) W2) :
    ∃ va vn vc ea en ec wr1, r = .returned (.tuple #[.agg #[.slice va vn vc, .slice ea en ec, .int .i64 rd, .int .i64 wr1], x]) ∧ Hid (Pair L c p m ma ml me lk V es N wr k e u v vv ev W C x (.slice va vn vc) (.slice ea en ec) wr1 w2) := by
  obtain ⟨v1, e1, rfl, y1, y2, y3, y4, y5⟩ := h
  obtain ⟨va, vc, hv, -⟩ := brow_shape y1
  obtain ⟨vn, hv'⟩ : ∃ vn, v1 = .slice va vn vc := ⟨_, hv⟩
  clear hv
  obtain ⟨ea, en, ec, he⟩ := grow_shape y2
  subst hv' he
  exact ⟨va, vn, vc, ea, en, ec, wr1, rfl, V', es', y1, y2, y3, y4, y5, hw1, hw2, hG, hC⟩
theorem eOut_zero {es : List EdV} {v : Int} : (eOut es v).length = 0 ↔ ∀ x ∈ es, x.2.1 ≠ v := by
  rw [List.length_eq_zero_iff]
  unfold eOut
  rw [List.map_eq_nil_iff, List.filter_eq_nil_iff]
  exact ⟨fun h x hx e => h x hx (decide_eq_true e), fun h x hx e => h x hx (of_decide_eq_true e)⟩
theorem eIn_zero {es : List EdV} {v : Int} : (eIn es v).length = 0 ↔ ∀ x ∈ es, x.2.2.1 ≠ v := by
  rw [List.length_eq_zero_iff]
  unfold eIn
  rw [List.map_eq_nil_iff, List.filter_eq_nil_iff]
  exact ⟨fun h x hx e => h x hx (decide_eq_true e), fun h x hx e => h x hx (of_decide_eq_true e)⟩
theorem bound_iff {es : List EdV} {v : Int} : 0 < (eOut es v).length + (eIn es v).length ↔ Bound es v := by
  constructor
  · intro h
    by_cases hb : Bound es v
    · exact hb
    · have h1 := eOut_zero.2 (fun x hx e => hb ⟨x, hx, .inl e⟩)
      have h2 := eIn_zero.2 (fun x hx e => hb ⟨x, hx, .inr e⟩)
      omega
  · rintro ⟨x, hx, h | h⟩
    · have : (eOut es v).length ≠ 0 := fun z => eOut_zero.1 z x hx h
      omega
    · have : (eIn es v).length ≠ 0 := fun z => eIn_zero.1 z x hx h
      omega
theorem perm_rise {l ks : List Int} (h1 : l.Perm ks) (h2 : l.Pairwise (· ≤ ·)) (h3 : ks.Nodup) : l.Pairwise (· < ·) :=
  (List.pairwise_and_iff.2 ⟨h2, h1.nodup_iff.2 h3⟩).imp (fun {a b} hh => by have := hh.1; have := hh.2; omega)
theorem cutV_mem {V : List Int} (hn : V.Nodup) {i : Nat} {v : Int} (hi : V[i]? = some v) (x : Int) : x ∈ V.take i ++ V.drop (i + 1) ↔ x ∈ V ∧ x ≠ v := by
  obtain ⟨hl, e⟩ := List.getElem?_eq_some_iff.1 hi
  have e2 : V = V.take i ++ v :: V.drop (i + 1) := by rw [← e, List.getElem_cons_drop, List.take_append_drop]
  have hn2 := hn
  rw [e2, List.nodup_append] at hn2
  obtain ⟨-, n2, n3⟩ := hn2
  constructor
  · intro hx
    rcases List.mem_append.1 hx with h | h
    · exact ⟨List.mem_of_mem_take h, n3 x h v List.mem_cons_self⟩
    · exact ⟨List.mem_of_mem_drop h, fun q => (List.nodup_cons.1 n2).1 (by rw [← q]; exact h)⟩
  · rintro ⟨hx, q⟩
    rw [e2] at hx
    rcases List.mem_append.1 hx with h | h
    · exact List.mem_append.2 (.inl h)
    · rcases List.mem_cons.1 h with h | h
      · exact absurd h q
      · exact List.mem_append.2 (.inr h)
section
variable {L : Nat → Nat} {w : World} {c p m ma ml me : Nat} {lk : Int} {V : List Int} {es : List EdV} {N : Nat} {vv ev : Value} {rd wr_0 k e u v : Int}
theorem KSt.stay {w' : World} {M : Nat} (h : KSt L w c p m ma ml me lk V es N) (hw : w' = w) (hm : N ≤ M) : KGo L w c p m ma ml me lk V es M w' := by
  subst hw; exact ⟨L, h.mono hm, Ch.refl _ _⟩
theorem playS (hK : KSt L w c p m ma ml me lk V es N) (hG : GOk V es N) (hN : N ≤ 990) (hvv : NRow w vv V) (hev : GRow 0 w ev es) (lv : ∀ b, vv.ownBlock = some b → L b = 0) (le : ∀ b, ev.ownBlock = some b → L b = 0) (hw0 : 0 ≤ wr_0) (hw1 : wr_0 ≤ 1000000) (hoe : okN e) (hou : okN u) (hov : okN v) :
    Calls Tryz.prog 9 #[.pointer (some ⟨c, 0, none⟩), .agg #[vv, ev, .int .i64 rd, .int .i64 wr_0], .agg #[.int .i64 k, .int .i64 e, .int .i64 u, .int .i64 v]] w fun r w' => Hid (PlayAns L w c p m ma ml me lk V es N vv ev rd wr_0 k e u v r w') := by
  have lV := hG.lenV
  have lE := hG.lenE
  have G3 : GOk V es (N + 3) := hG.mono (by omega)
  have nv : ∀ W, Below w.heap.size w W → NRow W vv V := fun W hW => nrow_below hvv hW
  have ne : ∀ W, Below w.heap.size w W → GRow 0 W ev es := fun W hW => grow_below hev hW
  by_cases k1 : k = 1
  · subst k1
    by_cases hv : v ∈ V
    · refine play1 (t := false) hK hvv hev lv le (fun W hW => (refAVIn (nv W hW) (ne W hW) hG.rise (by omega) (by omega) hv).mono fun r w2 hh => ?_)
      exact pair_of (unhide hh) (Int.le_refl _) (by omega) G3 (fun L2 W2 K2 => (kAddVIn K2 hv).mono fun r w' q => ⟨q.1, lk, K2.stay q.2 (by omega), .inl ⟨rfl, rfl⟩⟩)
    · refine play1 (t := true) hK hvv hev lv le (fun W hW => (refAVNew (nv W hW) (ne W hW) hG.rise (by omega) (by omega) hv).mono fun r w2 hh => ?_)
      obtain ⟨V', q1, q2, q3⟩ := unhide hh
      have hmem : ∀ x, x ∈ V' ↔ x ∈ V ∨ x = v := fun x => by rw [q1.mem_iff, List.mem_append, List.mem_singleton]
      have hnd : (V ++ [v]).Nodup := by
        rw [List.nodup_append]
        refine ⟨hG.nodup, by simp, fun a ha b hb => ?_⟩
        rw [List.mem_singleton.1 hb]; exact fun z => hv (by rw [← z]; exact ha)
      have hG' : GOk V' es (N + 3) := ⟨perm_rise q1 q2 hnd, fun x hx => ((hmem x).1 hx).elim (hG.okV x) (fun z => by rw [z]; exact hov), hG.okE, fun a ha => ⟨(hmem _).2 (.inl (hG.ends a ha).1), (hmem _).2 (.inl (hG.ends a ha).2)⟩, hG.uni, by rw [q1.length_eq]; simp; omega, by omega⟩
      exact pair_of q3 (Int.le_refl _) (by omega) hG' (fun L2 W2 K2 => (kAddVNew K2 hG (by omega) hov hv hmem).mono fun r w' q => ⟨q.1, lk, (unhide q.2).mono (by omega), .inl ⟨rfl, rfl⟩⟩)
  by_cases k2 : k = 2
  · subst k2
    by_cases hv : v ∈ V
    · by_cases hb : Bound es v
      · refine play2 (t := false) hK hvv hev lv le (fun W hW => (refDVBound (nv W hW) (ne W hW) hG.rise (by omega) (by omega) hv (bound_iff.2 hb)).mono fun r w2 hh => ?_)
        exact pair_of (unhide hh) (Int.le_refl _) (by omega) G3 (fun L2 W2 K2 => (kDropVBound K2 hG hov hb).mono fun r w' q => ⟨q.1, lk, K2.stay q.2 (by omega), .inl ⟨rfl, rfl⟩⟩)
      · refine play2 (t := true) hK hvv hev lv le (fun W hW => (refDVYes (nv W hW) (ne W hW) hG.rise (by omega) (by omega) hv (Nat.eq_zero_of_not_pos (fun z => hb (bound_iff.1 z)))).mono fun r w2 hh => ?_)
        obtain ⟨i, hi, q3⟩ := unhide hh
        have hmem := cutV_mem hG.nodup hi
        have hsub : (V.take i ++ V.drop (i + 1)).Sublist V := by
          have h1 := List.Sublist.append (List.Sublist.refl (V.take i)) (List.drop_sublist_drop_left V (Nat.le_succ i))
          rw [List.take_append_drop] at h1
          exact h1
        have hG' : GOk (V.take i ++ V.drop (i + 1)) es (N + 3) := ⟨hG.rise.sublist hsub, fun x hx => hG.okV x ((hmem x).1 hx).1, hG.okE, fun a ha => by
          obtain ⟨y, hy, e1, e2⟩ := ae_iff.1 (show AE es a.1 a.2 from ha)
          exact ⟨(hmem _).2 ⟨(hG.ends a ha).1, fun z => hb ⟨y, hy, .inl (e1.trans z)⟩⟩, (hmem _).2 ⟨(hG.ends a ha).2, fun z => hb ⟨y, hy, .inr (e2.trans z)⟩⟩⟩, hG.uni, by have := hsub.length_le; omega, by omega⟩
        exact pair_of q3 (Int.le_refl _) (by omega) hG' (fun L2 W2 K2 => (kDropVYes K2 hG (by omega) hov hv hb hmem).mono fun r w' q => ⟨q.1, lk, (unhide q.2).mono (by omega), .inl ⟨rfl, rfl⟩⟩)
    · refine play2 (t := false) hK hvv hev lv le (fun W hW => (refDVNone (nv W hW) (ne W hW) hG.rise (by omega) (by omega) hv).mono fun r w2 hh => ?_)
      exact pair_of (unhide hh) (Int.le_refl _) (by omega) G3 (fun L2 W2 K2 => (kDropVNo K2 hG hov hv).mono fun r w' q => ⟨q.1, lk, K2.stay (unhide q.2) (by omega), .inl ⟨rfl, rfl⟩⟩)
  by_cases k3 : k = 3
  · subst k3
    cases hA : arcF es e with
    | some a =>
      obtain ⟨x, hx, e1, -⟩ := arcF_some hA
      refine play3 (t := 2) hK hvv hev lv le (fun W hW => (refAATwice (nv W hW) (ne W hW) hG.rise (by omega) (by omega) ⟨x, hx, e1⟩).mono fun r w2 hh => ?_)
      exact pair_of (unhide hh) (Int.le_refl _) (by omega) G3 (fun L2 W2 K2 => (kAddATwice K2 hoe (by rw [hA]; rfl)).mono fun r w' q => ⟨q.1, lk, (unhide q.2).mono (by omega), .inl ⟨rfl, rfl⟩⟩)
    | none =>
      have hno := arcF_none.1 hA
      by_cases hu : u ∈ V
      · by_cases hv : v ∈ V
        · refine play3 (t := 0) hK hvv hev lv le (fun W hW => (refAAYes (nv W hW) (ne W hW) hG.rise (by omega) (by omega) hno hu hv).mono fun r w2 hh => ?_)
          exact pair_of (unhide hh) (Int.le_refl _) (by omega) ((gok_snoc hG hoe hA hu hv).mono (by omega)) (fun L2 W2 K2 => (kAddAYes K2 hG (by omega) hoe hA hu hv).mono fun r w' q => by
            obtain ⟨d, d1, d2, d3⟩ := unhide q.2
            exact ⟨q.1, (d : Int), d1, .inr (.inl ⟨rfl, by simp, hu, hv, d, rfl, d2, d3⟩)⟩)
        · refine play3 (t := 5) hK hvv hev lv le (fun W hW => (refAANoV (nv W hW) (ne W hW) hG.rise (by omega) (by omega) hno hu hv).mono fun r w2 hh => ?_)
          exact pair_of (unhide hh) (Int.le_refl _) (by omega) G3 (fun L2 W2 K2 => (kAddANo K2 hoe hou hov hA (fun z => hv z.2)).mono fun r w' q => ⟨q.1, lk, (unhide q.2).mono (by omega), .inl ⟨rfl, rfl⟩⟩)
      · refine play3 (t := 5) hK hvv hev lv le (fun W hW => (refAANoU (nv W hW) (ne W hW) hG.rise (by omega) (by omega) hno hu).mono fun r w2 hh => ?_)
        exact pair_of (unhide hh) (Int.le_refl _) (by omega) G3 (fun L2 W2 K2 => (kAddANo K2 hoe hou hov hA (fun z => hu z.1)).mono fun r w' q => ⟨q.1, lk, (unhide q.2).mono (by omega), .inl ⟨rfl, rfl⟩⟩)
  by_cases k4 : k = 4
  · subst k4
    cases hA : arcF es e with
    | none =>
      refine play4 (t := 6) hK hvv hev lv le (fun W hW => (refDANo (nv W hW) (ne W hW) hG.rise (by omega) (by omega) (arcF_none.1 hA)).mono fun r w2 hh => ?_)
      exact pair_of (unhide hh) (Int.le_refl _) (by omega) G3 (fun L2 W2 K2 => (kDropANo K2 hoe hA).mono fun r w' q => ⟨q.1, lk, (unhide q.2).mono (by omega), .inl ⟨rfl, rfl⟩⟩)
    | some a =>
      obtain ⟨⟨e', u', v', b⟩, hx, e1, -⟩ := arcF_some hA
      replace e1 : e' = e := e1
      subst e1
      refine play4 (t := 0) hK hvv hev lv le (fun W hW => (refDAYes (nv W hW) (ne W hW) hG.rise (by omega) (by omega) hw0 (by omega) hG.uni hx).mono fun r w2 hh => ?_)
      obtain ⟨i, hi, q3⟩ := unhide hh
      have hil := (List.getElem?_eq_some_iff.1 hi).1
      exact pair_of q3 (by omega) (by omega) ((gok_cut hG hi).mono (by omega)) (fun L2 W2 K2 => (kDropAYes K2 hG (by omega) hi).mono fun r w' q => by
        obtain ⟨d, d1, d2, d3⟩ := unhide q.2
        exact ⟨q.1, (d : Int), d1.mono (by omega), .inr (.inr ⟨rfl, i, u', v', b, hi, by rw [List.length_append, List.length_take, List.length_drop]; omega, d, rfl, d2, d3⟩)⟩)
  exact playAsk hK hG (by omega) hvv hev lv le hou hov (by simpa using k1) (by simpa using k2) (by simpa using k3) (by simpa using k4)
end
end

section
open Go.RowKit Go.Maps T9
theorem mapG_of {X : Type} {ed : X → DataW Unit} {R : Value → Option (DataW Unit × List MemPlace)} {x0 : X} {w : World} {m : Nat} (h : w.heap[m]? = some oM) : MapG ed R x0 w m (fun _ => none) 0 := by
  obtain ⟨D, ⟨es, clock, h1, h2⟩, h3⟩ := mapG_made (ed := ed) (R := R) (x0 := x0) w
  rw [heap_alloc_new] at h1
  injection h1 with h1
  injection h1 with h4 h5
  subst h4 h5
  exact ⟨D, ⟨#[], 0, h, h2⟩, h3⟩
/-- The labels of a new Cond. -/
def labN (c p m ma ml me : Nat) : Nat → Nat := fun b => if b = c then 3 else if b = ma then 4 else if b = ml then 1 else if b = me then 2 else if b = p ∨ b = m then 5 else 0
theorem gok_nil : GOk [] [] 0 := ⟨.nil, fun x hx => (by cases hx), fun x hx => (by cases hx), fun x hx => (by cases hx), .nil, Nat.le_refl _, Nat.le_refl _⟩
theorem kst_new {w w' : World} {c p m ma ml me : Nat} (h : NewK w c p m ma ml me w') : KSt (labN c p m ma ml me) w' c p m ma ml me 0 [] [] 0 ∧ (∀ b, b < w.heap.size → labN c p m ma ml me b = 0) ∧ Below w.heap.size w w' := by
  obtain ⟨m1, m2, m3⟩ := h.maps
  obtain ⟨n1, n2, n3, n4⟩ := h.new
  obtain ⟨r1, r2, r3⟩ := h.rise
  have go : gOut [] = fun _ _ => none := rfl
  have gi : gIn [] = fun _ _ => none := rfl
  have ga : arcF [] = fun _ => none := rfl
  have lc : labN c p m ma ml me c = 3 := if_pos rfl
  have la : labN c p m ma ml me ma = 4 := by unfold labN; rw [if_neg (by omega), if_pos rfl]
  have ll : labN c p m ma ml me ml = 1 := by unfold labN; rw [if_neg (by omega), if_neg (by omega), if_pos rfl]
  have le : labN c p m ma ml me me = 2 := by unfold labN; rw [if_neg (by omega), if_neg (by omega), if_neg (by omega), if_pos rfl]
  have ends : ∀ (a b : Nat), w'.heap[b]? = some oM → labN c p m ma ml me b = a → EndsAt (labN c p m ma ml me) a w' b (fun _ => none) 0 (fun _ _ => none) (fun _ => 0) := fun a b hb hl =>
    ⟨mapG_of hb, fun v b' _ hf => (by cases hf), fun v b' _ hf => (by cases hf), fun v _ _ e _ => rfl, fun v v' b' _ _ hf => (by cases hf), fun v b' _ hf => (by cases hf), hl, fun v b' _ hf => (by cases hf)⟩
  have hs0 : ∀ ks : List Int, (ks.map (fun _ => (0 : Nat))).sum = 0 := fun ks => by
    induction ks with
    | nil => rfl
    | cons k ks ih => simp only [List.map_cons, List.sum_cons, ih]
  have hs : ∀ ks : List Int, ks.Nodup → (ks.map (fun _ => (0 : Nat))).sum ≤ 0 := fun ks _ => Nat.le_of_eq (hs0 ks)
  refine ⟨⟨[], ⟨h.box, h.at_, ⟨0, by rw [ga]; exact mapG_of m1, Nat.le_refl _⟩, ⟨_, 0, _, by rw [go]; exact ends 1 ml m2 ll, Nat.le_refl _, hs⟩, ⟨_, 0, _, by rw [gi]; exact ends 2 me m3 le, Nat.le_refl _, hs⟩, lc, la, fun b hf => ?_, Nat.le_refl _⟩, fun x y => ?_⟩, fun b hb => ?_, h.below⟩
  · unfold labN
    have hb : b = p ∨ b = m := by
      rcases hf with q | q | ⟨z, hz, -⟩
      · exact .inl q
      · exact .inr q
      · cases hz
    rw [if_neg (by omega), if_neg (by omega), if_neg (by omega), if_neg (by omega), if_pos hb]
  · exact ⟨fun ⟨z, hz, _⟩ => (by cases hz), fun ⟨hx, _⟩ => (by cases hx)⟩
  · unfold labN
    rw [if_neg (by omega), if_neg (by omega), if_neg (by omega), if_neg (by omega), if_neg (by omega)]
/-- A Cond in memory of its own. -/
def KA (w : World) (c p m ma ml me : Nat) (lk : Int) (V : List Int) (es : List EdV) (N : Nat) (W : World) : Prop := ∃ L, KSt L W c p m ma ml me lk V es N ∧ (∀ b, b < w.heap.size → L b = 0) ∧ Below w.heap.size w W
theorem KA.go {w W W' : World} {c p m ma ml me : Nat} {lk' : Int} {V' : List Int} {es' : List EdV} {N' : Nat} {L : Nat → Nat} (h2 : ∀ b, b < w.heap.size → L b = 0) (h3 : Below w.heap.size w W) (h : KGo L W c p m ma ml me lk' V' es' N' W') : KA w c p m ma ml me lk' V' es' N' W' := by
  obtain ⟨L', k, ch⟩ := h
  have hs := h3.size
  exact ⟨L', k, fun b hb => (ch.lab_ b (by omega)).trans (h2 b hb), h3.trans ⟨ch.tur.os, ch.tur.tape, ch.tur.output, ch.tur.size, fun b hb => ch.tur.block b (by omega) (fun z => z (h2 b hb))⟩⟩
theorem kst_cell {L : Nat → Nat} {w : World} {c p m ma ml me : Nat} {lk : Int} {V : List Int} {es : List EdV} {N : Nat} (h : KSt L w c p m ma ml me lk V es N) : w.heap[c]? = some (oC p ma ml me lk) := by
  obtain ⟨S, h1, -⟩ := h
  exact h1.box
set_option maxHeartbeats 1000000 in
set_option maxRecDepth 100000 in
theorem infoKC : ∃ i, Tryz.prog.info? 62 = some i ∧ i.size ≠ 0 := by
  have h : (Tryz.prog.info? 62).map (·.size) = some 5 := by kernel_rfl
  rw [Option.map_eq_some_iff] at h
  obtain ⟨i, h1, h2⟩ := h
  exact ⟨i, h1, by omega⟩
theorem okL (k : Int) (h : (Lit.int .i64 k).wf = true) : okN k := h
set_option maxHeartbeats 4000000 in
set_option maxRecDepth 100000 in
theorem awakeS (w : World) : Calls Tryz.prog 8 #[] w fun e w' => e = .returned (.bool true) ∧ Hid (Below w.heap.size w w') := by
  have o1 : okN 1 := okL 1 rfl
  have o2 : okN 2 := okL 2 rfl
  have G0 := gok_nil
  have G1 : GOk [1] [] 1 := ⟨by simp, fun x hx => by rw [List.mem_singleton.1 hx]; exact o1, fun x hx => (by cases hx), fun x hx => (by cases hx), .nil, Nat.le_refl _, Nat.zero_le _⟩
  have ok2 : ∀ x ∈ ([1, 2] : List Int), okN x := fun x hx => by
    rcases List.mem_cons.1 hx with q | q
    · rw [q]; exact o1
    · rw [List.mem_singleton.1 q]; exact o2
  have G2 : GOk [1, 2] [] 2 := ⟨by simp, ok2, fun x hx => (by cases hx), fun x hx => (by cases hx), .nil, Nat.le_refl _, Nat.zero_le _⟩
  have G3 : GOk [1, 2] [(10, 1, 2, 0)] 5 := (gok_snoc G2 (okL 10 rfl) rfl (by simp) (by simp)).mono (by omega)
  have G4 : GOk [1, 2] [(10, 1, 2, 0), (11, 2, 1, 0)] 8 := (gok_snoc G3 (okL 11 rfl) rfl (by simp) (by simp)).mono (by omega)
  have HG := hide (And.intro o1 (And.intro o2 (And.intro G1 (And.intro G2 (And.intro G3 G4)))))
  clear o1 o2 ok2 G0 G1 G2 G3 G4
  go_enter Tryz.func8, Tryz.ntmps8
  go_wp2_with fail
  refine (kNewS w).mono ?_
  rintro e w1 ⟨c, p, m, ma, ml, me, rfl, HN⟩
  obtain ⟨k1, k2, k3⟩ := kst_new (unhide HN)
  have C1 := hide (kAddVNew (v := 1) (V' := [1]) k1 gok_nil (by omega) (unhide HG).1 (by simp) (by simp))
  have HA : Hid ((∀ b, b < w.heap.size → labN c p m ma ml me b = 0) ∧ Below w.heap.size w w1) := ⟨k2, k3⟩
  clear HN k1 k2 k3
  go_wp2_with fail
  refine (unhide C1).mono ?_
  rintro e w2 ⟨rfl, HQ⟩
  obtain ⟨L2, K2, j1, j2⟩ := KA.go (unhide HA).1 (unhide HA).2 (unhide HQ)
  have C2 := hide (kAddVNew (v := 2) (V' := [1, 2]) K2 (unhide HG).2.2.1 (by omega) (unhide HG).2.1 (by simp) (by intro x; simp))
  replace HA : Hid ((∀ b, b < w.heap.size → L2 b = 0) ∧ Below w.heap.size w w2) := ⟨j1, j2⟩
  clear C1 HQ K2 j1 j2
  go_wp2_with fail
  refine (unhide C2).mono ?_
  rintro e w3 ⟨rfl, HQ⟩
  obtain ⟨L3, K3, j1, j2⟩ := KA.go (unhide HA).1 (unhide HA).2 (unhide HQ)
  have C3 := hide (kAddVIn (v := 2) K3 (by simp))
  have C4 := hide (kAddAYes (e := 10) (u := 1) (v := 2) K3 (unhide HG).2.2.2.1 (by omega) (okL 10 rfl) rfl (by simp) (by simp))
  replace HA : Hid ((∀ b, b < w.heap.size → L3 b = 0) ∧ Below w.heap.size w w3) := ⟨j1, j2⟩
  clear C2 HQ K3 j1 j2
  go_wp2_with fail
  refine (unhide C3).mono ?_
  rintro e w' ⟨rfl, rfl⟩
  clear C3
  go_wp2_with fail
  refine (unhide C4).mono ?_
  rintro e w4 ⟨rfl, HQ⟩
  obtain ⟨d, HQ2, -, -⟩ := unhide HQ
  obtain ⟨L4, K4, j1, j2⟩ := KA.go (unhide HA).1 (unhide HA).2 HQ2
  have C5 := hide (kAddAYes (e := 11) (u := 2) (v := 1) K4 (unhide HG).2.2.2.2.1 (by omega) (okL 11 rfl) rfl (by simp) (by simp))
  replace HA : Hid ((∀ b, b < w.heap.size → L4 b = 0) ∧ Below w.heap.size w w4) := ⟨j1, j2⟩
  clear C4 HQ HQ2 K4 j1 j2
  go_wp2_with fail
  refine (unhide C5).mono ?_
  rintro e w5 ⟨rfl, HQ⟩
  obtain ⟨d5, HQ2, -, -⟩ := unhide HQ
  obtain ⟨L5, K5, j1, j2⟩ := KA.go (unhide HA).1 (unhide HA).2 HQ2
  have C8 := hide (kDropANo (e := 12) K5 (okL 12 rfl) rfl)
  obtain ⟨S, r1, r2⟩ := id K5
  have a1 : AE [(10, 1, 2, 0), (11, 2, 1, 0)] 1 2 := ae_iff.2 ⟨(10, 1, 2, 0), by simp, rfl, rfl⟩
  have a2 : AE [(10, 1, 2, 0), (11, 2, 1, 0)] 2 1 := ae_iff.2 ⟨(11, 2, 1, 0), by simp, rfl, rfl⟩
  have s12 : SP S 1 2 := (r2 1 2).2 ⟨by simp, by simp, RI.arc a1, RI.arc a2⟩
  have HS : Hid (SP S 1 2 ∧ SP S 2 1 ∧ ∀ y, SP S 2 y → 1 ≤ y) := ⟨s12, s12.symm, fun y hy => by
    have := ((r2 2 y).1 hy).2.1
    rcases List.mem_cons.1 this with q | q
    · omega
    · have := List.mem_singleton.1 q; omega⟩
  have C6 := hide (kHeadS r1.box r1.at_ (unhide HG).2.1)
  have C7 := hide (kSameS r1.box r1.at_ (unhide HG).1 (unhide HG).2.1)
  replace HA : Hid ((∀ b, b < w.heap.size → L5 b = 0) ∧ Below w.heap.size w w5) := ⟨j1, j2⟩
  clear C5 HQ HQ2 K5 j1 j2 r1 r2 a1 a2 s12
  go_wp2_with fail
  refine (unhide C6).mono ?_
  rintro e w' ⟨k, t, rfl, HQ⟩
  obtain ⟨hq, rfl⟩ := unhide HQ
  clear HQ C6
  rcases hq with ⟨-, -, q⟩ | ⟨rfl, q1, q2⟩
  · obtain ⟨z, hz, b1, b2⟩ := (unhide HS).2.1
    exact absurd ⟨z, hz, b1, b1⟩ q
  obtain rfl : k = 1 := by
    have h1 := q2 1 (unhide HS).2.1
    have h2 := (unhide HS).2.2 k q1
    omega
  clear q1 q2
  go_wp2_with fail
  refine (unhide C7).mono ?_
  rintro e w' ⟨t, rfl, HQ⟩
  obtain ⟨hq, rfl⟩ := unhide HQ
  obtain rfl : t = true := hq.2 (unhide HS).1
  clear HQ C7 hq HS
  go_wp2_with fail
  refine (unhide C8).mono ?_
  rintro e w6 ⟨rfl, HQ⟩
  obtain ⟨L6, K6, j1, j2⟩ := KA.go (unhide HA).1 (unhide HA).2 (unhide HQ)
  have HR := hide j2
  clear C8 HQ K6 j1 j2 HA
  go_wp2_with fail
  go_ret
  exact ⟨rfl, unhide HR⟩
end

end Go.Proofs.YtkmhcgmmbkchaaaGreat
