/- Play: Reweigh. -/
import Derived.Test.YtagibmgbjhemkaaGreatPlayN7
namespace Go.Proofs.YtagibmgbjhemkaaGreat
open Go.RowKit Go.Maps

set_option maxHeartbeats 4000000 in
set_option maxRecDepth 100000 in
theorem play6 [Inhabited EntI] {n : Nat} {w : World} {X : Sto} {g : Gr} {vv ev : Value} {vs : List Int} {es : List EdgeV} (h : Game n X g vv ev vs es w) (hn : n + 1 ≤ 1000) (A B E b : Int) (_hA : okN A) (_hB : okN B) (hb0 : 0 ≤ b) :
    Calls Tryz.prog 30 #[.pointer (some ⟨X.s, 0, none⟩), .agg #[vv, ev, .int .i64 g.rd, .int .i64 g.wr], .agg #[.int .i64 6, .int .i64 A, .int .i64 B, .int .i64 E, .int .u32 b]] w fun e w' => Hid (PlayAns (n + 1) w X e w') := by
  obtain ⟨hP0, hG0⟩ := PM.start h (oOp 6 A B E b)
  obtain ⟨va, vc, hvv, -⟩ := brow_shape h.vrow
  obtain ⟨vn, hvv'⟩ : ∃ vn, vv = .slice va vn vc := ⟨_, hvv⟩
  obtain ⟨ea, en, ec, hev⟩ := grow_shape h.erow
  clear hvv
  subst hvv' hev
  obtain ⟨m, c, g', C1⟩ := cRew hP0 hG0 hn hb0
  have HP0 := hide hP0
  obtain ⟨s, hs⟩ : ∃ s, s = X.s := ⟨_, rfl⟩
  obtain ⟨rd, hrd⟩ : ∃ rd, rd = g.rd := ⟨_, rfl⟩
  obtain ⟨wr_0, hwr⟩ : ∃ wr_0, wr_0 = g.wr := ⟨_, rfl⟩
  obtain ⟨bb, hbb⟩ : ∃ bb, bb = w.heap.size := ⟨_, rfl⟩
  obtain ⟨c0, c1, c2, c3, -⟩ := cellsG hP0.b0
  obtain ⟨o0, o1, o2, o3, o4⟩ := cellsOp hP0.b1
  rw [← hs, ← hrd, ← hwr]
  rw [← hbb, ← hrd, ← hwr] at c0 c1 c2 c3 o0 o1 o2 o3 o4
  have HBB := hide hbb
  have HSS := hide hs
  have HRW := hide (And.intro hrd hwr)
  rw [← hs, ← hrd, ← hwr, ← hbb] at C1
  have HC1 := hide C1
  clear C1
  clear hP0 hG0 h hs hrd hwr hbb hb0 hn
  go_enter Tryz.func30, Tryz.ntmps30
  go_upto_region 1 with fail
  change Code.wp _ _ _ _ (((w.alloc (oG (.slice va vn vc) (.slice ea en ec) rd wr_0)).alloc (oOp 6 A B E b)).alloc oZ)
  rw [show w.heap.size + 2 = bb + 2 by rw [unhide HBB], show w.heap.size + 1 = bb + 1 by rw [unhide HBB], ← unhide HBB]
  generalize ((w.alloc (oG (.slice va vn vc) (.slice ea en ec) rd wr_0)).alloc (oOp 6 A B E b)).alloc oZ = wb at *
  go_wp2_with fail
  refine (unhide HC1).mono ?_
  rintro e w1 ⟨rfl, ⟨c0', c1', c2', c3'⟩, ⟨o0', o1', o2', o3', o4'⟩, h1⟩
  clear c0 c1 c2 c3 o0 o1 o2 o3 o4 HC1
  go_wp2_with fail
  refine (unhide h1).mono ?_
  rintro e w2 ⟨a1, m1, q1, a2, m2, q2, rfl, ⟨d0, d1, d2, d3, df⟩, HES⟩
  clear c0' c1' c2' c3' o0' o1' o2' o3' o4' h1
  go_upto_region 37 with fail
  change Code.wp _ _ _ _ (set4 w2 bb (.slice a1 m1 q1) (.slice a2 m2 q2) (.int .i64 g'.rd) (.int .i64 g'.wr))
  generalize set4 w2 bb (.slice a1 m1 q1) (.slice a2 m2 q2) (.int .i64 g'.rd) (.int .i64 g'.wr) = w3 at *
  clear d0 d1 d2 d3 df
  have HED := hide ((unhide HES).below (Below.refl w3.heap.size w3).drew)
  obtain ⟨rd', hrd'⟩ : ∃ rd', rd' = g'.rd := ⟨_, rfl⟩
  obtain ⟨wr', hwr'⟩ : ∃ wr', wr' = g'.wr := ⟨_, rfl⟩
  have hc0 := (unhide HED).cells
  rw [← hrd', ← hwr'] at hc0
  have CR := hide (unhide HED).reads
  have CW := hide (unhide HED).writes
  rw [← unhide HSS, ← hrd'] at CR
  rw [← unhide HSS, ← hwr'] at CW
  have hres := (unhide HES).res
  obtain ⟨d0, d1, d2, d3, df⟩ := cellsG (vv := .slice none 0 0) (ev := .slice none 0 0) (rd := 0) (wr := 0) hres
  have hc3 := (unhide HES).cells
  rw [← hrd', ← hwr'] at hc3
  have HE1 := hide (drewAt (set4G_at hres (.slice a1 m1 q1) (.slice a2 m2 q2) (.int .i64 rd') (.int .i64 wr')))
  have hS21 : ((set4 w3 (bb + 2) (.slice a1 m1 q1) (.slice a2 m2 q2) (.int .i64 rd') (.int .i64 wr')).drew.cell? ⟨bb, 0, none⟩ = some (.slice a1 m1 q1) ∧ (set4 w3 (bb + 2) (.slice a1 m1 q1) (.slice a2 m2 q2) (.int .i64 rd') (.int .i64 wr')).drew.cell? ⟨bb, 1, none⟩ = some (.slice a2 m2 q2) ∧ (set4 w3 (bb + 2) (.slice a1 m1 q1) (.slice a2 m2 q2) (.int .i64 rd') (.int .i64 wr')).drew.cell? ⟨bb, 2, none⟩ = some (.int .i64 rd') ∧ (set4 w3 (bb + 2) (.slice a1 m1 q1) (.slice a2 m2 q2) (.int .i64 rd') (.int .i64 wr')).drew.cell? ⟨bb, 3, none⟩ = some (.int .i64 wr')) := box_set4 hc3 (show bb ≠ bb + 2 by omega) (.slice a1 m1 q1) (.slice a2 m2 q2) (.int .i64 rd') (.int .i64 wr')
  have HFIN : Hid (PlayAns (n + 1) w X (.returned (.tuple #[.agg #[.slice a1 m1 q1, .slice a2 m2 q2, .int .i64 rd', .int .i64 wr'], .bool true])) (set4 w3 (bb + 2) (.slice a1 m1 q1) (.slice a2 m2 q2) (.int .i64 rd') (.int .i64 wr')).drew) := by
    obtain ⟨X', vs', es', f1, f2, f3⟩ := (unhide HES).fin (.slice a1 m1 q1) (.slice a2 m2 q2) (.int .i64 rd') (.int .i64 wr')
    have hbd := (Below.refl (set4 w3 (bb + 2) (.slice a1 m1 q1) (.slice a2 m2 q2) (.int .i64 rd') (.int .i64 wr')).heap.size (set4 w3 (bb + 2) (.slice a1 m1 q1) (.slice a2 m2 q2) (.int .i64 rd') (.int .i64 wr'))).drew
    refine ⟨_, _, _, _, _, _, g', by rw [hrd', hwr'], X', vs', es', f1.below hbd, f2, f3.trans (Foots.below _ hbd)⟩
  unfold set4 at hS21
  clear hrd' hwr' HES HED hres hc3
  refine wp_region_noPanic ?_
  refine regionL [] (fun y => (y.cell? ⟨bb, 0, none⟩ = some (.slice a1 m1 q1) ∧ y.cell? ⟨bb, 1, none⟩ = some (.slice a2 m2 q2) ∧ y.cell? ⟨bb, 2, none⟩ = some (.int .i64 rd') ∧ y.cell? ⟨bb, 3, none⟩ = some (.int .i64 wr'))) (by kernel_rfl) hc0 (fun hHeld => ?_)
  refine takeL (i := 0) (v := ?t2v0) (some 172) rfl rfl (by kernel_rfl) (by kernel_rfl) (by kernel_rfl) (by kernel_rfl) (by kernel_rfl) (fun _ _ _ h => h) (Or.inl ⟨by rfl, ?t2h0⟩) (by assumption) ?t2r0
  case t2h0 => (intro y hSu; (try dsimp only at hSu); go_simp; first | done | with_reducible rfl)
  (try simp only [Act.put, List.setIfInBounds_toArray, List.set_cons_zero, List.set_cons_succ])
  refine takeL (i := 1) (v := ?t2v1) (some 173) rfl rfl (by kernel_rfl) (by kernel_rfl) (by kernel_rfl) (by kernel_rfl) (by kernel_rfl) (fun _ _ _ h => h) (Or.inl ⟨by rfl, ?t2h1⟩) (by assumption) ?t2r1
  case t2h1 => (intro y hSu; (try dsimp only at hSu); go_simp; first | done | with_reducible rfl)
  (try simp only [Act.put, List.setIfInBounds_toArray, List.set_cons_zero, List.set_cons_succ])
  refine takeL (i := 2) (v := ?t2v2) (some 174) rfl rfl (by kernel_rfl) (by kernel_rfl) (by kernel_rfl) (by kernel_rfl) (by kernel_rfl) (fun _ _ _ h => h) (Or.inl ⟨by rfl, ?t2h2⟩) (by assumption) ?t2r2
  case t2h2 => (intro y hSu; (try dsimp only at hSu); go_simp; first | done | with_reducible rfl)
  (try simp only [Act.put, List.setIfInBounds_toArray, List.set_cons_zero, List.set_cons_succ])
  refine takeL (i := 3) (v := ?t2v3) (some 175) rfl rfl (by kernel_rfl) (by kernel_rfl) (by kernel_rfl) (by kernel_rfl) (by kernel_rfl) (fun _ _ _ h => h) (Or.inl ⟨by rfl, ?t2h3⟩) (by assumption) ?t2r3
  case t2h3 => (intro y hSu; (try dsimp only at hSu); go_simp; first | done | with_reducible rfl)
  (try simp only [Act.put, List.setIfInBounds_toArray, List.set_cons_zero, List.set_cons_succ])
  refine takeL (i := 4) (v := ?t2v4) (some 176) rfl rfl (by kernel_rfl) (by kernel_rfl) (by kernel_rfl) (by kernel_rfl) (by kernel_rfl) (fun _ _ _ h => h) (Or.inl ⟨by rfl, ?t2h4⟩) (by assumption) ?t2r4
  case t2h4 => (intro y hSu; (try dsimp only at hSu); go_simp; first | done | with_reducible rfl)
  (try simp only [Act.put, List.setIfInBounds_toArray, List.set_cons_zero, List.set_cons_succ])
  refine takeL (i := 5) (v := ?t2v5) (some 177) rfl rfl (by kernel_rfl) (by kernel_rfl) (by kernel_rfl) (by kernel_rfl) (by kernel_rfl) (fun _ _ _ h => h) (Or.inl ⟨by rfl, ?t2h5⟩) (by assumption) ?t2r5
  case t2h5 => (intro y hSu; (try dsimp only at hSu); go_simp; first | done | with_reducible rfl)
  (try simp only [Act.put, List.setIfInBounds_toArray, List.set_cons_zero, List.set_cons_succ])
  refine takeL (i := 6) (v := ?t2v6) (some 178) rfl rfl (by kernel_rfl) (by kernel_rfl) (by kernel_rfl) (by kernel_rfl) (by kernel_rfl) (fun _ _ _ h => h) (Or.inl ⟨by rfl, ?t2h6⟩) (by assumption) ?t2r6
  case t2h6 => (intro y hSu; (try dsimp only at hSu); go_simp; first | done | with_reducible rfl)
  (try simp only [Act.put, List.setIfInBounds_toArray, List.set_cons_zero, List.set_cons_succ])
  refine takeL (i := 7) (v := ?t2v7) (some 179) rfl rfl (by kernel_rfl) (by kernel_rfl) (by kernel_rfl) (by kernel_rfl) (by kernel_rfl) (fun _ _ _ h => h) (Or.inl ⟨by rfl, ?t2h7⟩) (by assumption) ?t2r7
  case t2h7 => (intro y hSu; (try dsimp only at hSu); go_simp; first | done | with_reducible rfl)
  (try simp only [Act.put, List.setIfInBounds_toArray, List.set_cons_zero, List.set_cons_succ])
  refine takeL (i := 8) (v := ?t2v8) (some 180) rfl rfl (by kernel_rfl) (by kernel_rfl) (by kernel_rfl) (by kernel_rfl) (by kernel_rfl) (fun _ _ _ h => h) (Or.inl ⟨by rfl, ?t2h8⟩) (by assumption) ?t2r8
  case t2h8 => (intro y hSu; (try dsimp only at hSu); go_simp; first | done | with_reducible rfl)
  (try simp only [Act.put, List.setIfInBounds_toArray, List.set_cons_zero, List.set_cons_succ])
  refine takeL (i := 10) (v := ?t2v10) (some 182) rfl rfl (by kernel_rfl) (by kernel_rfl) (by kernel_rfl) (by kernel_rfl) (by kernel_rfl) (fun _ _ _ h => h) (Or.inl ⟨by rfl, ?t2h10⟩) (by assumption) ?t2r10
  case t2h10 => (intro y hSu; (try dsimp only at hSu); go_simp; first | done | with_reducible rfl)
  (try simp only [Act.put, List.setIfInBounds_toArray, List.set_cons_zero, List.set_cons_succ])
  refine takeL (i := 11) (v := ?t2v11) (some 183) rfl rfl (by kernel_rfl) (by kernel_rfl) (by kernel_rfl) (by kernel_rfl) (by kernel_rfl) (fun _ _ _ h => h) (Or.inl ⟨by rfl, ?t2h11⟩) (by assumption) ?t2r11
  case t2h11 => (intro y hSu; (try dsimp only at hSu); go_simp; first | done | with_reducible rfl)
  (try simp only [Act.put, List.setIfInBounds_toArray, List.set_cons_zero, List.set_cons_succ])
  refine readyL (i := 9) (by kernel_rfl) rfl (fun K hK => ?_)
  go_simp
  refine (unhide CR).mono ?_
  rintro e w4 ⟨rfl, rfl⟩
  (try dsimp only)
  refine hK.out _ _ (fun _ => hc0) ?_
  clear hK K
  (try simp only [Act.put, List.setIfInBounds_toArray, List.set_cons_zero, List.set_cons_succ])
  have hH4 := hc0
  refine takeL (i := 12) (v := ?t5v12) (some 184) rfl rfl (by kernel_rfl) (by kernel_rfl) (by kernel_rfl) (by kernel_rfl) (by kernel_rfl) (fun _ _ _ h => h) (Or.inl ⟨by rfl, ?t5h12⟩) (by assumption) ?t5r12
  case t5h12 => (intro y hSu; (try dsimp only at hSu); go_simp; first | done | with_reducible rfl)
  (try simp only [Act.put, List.setIfInBounds_toArray, List.set_cons_zero, List.set_cons_succ])
  refine takeL (i := 13) (v := ?t5v13) (some 185) rfl rfl (by kernel_rfl) (by kernel_rfl) (by kernel_rfl) (by kernel_rfl) (by kernel_rfl) (fun _ _ _ h => h) (Or.inl ⟨by rfl, ?t5h13⟩) (by assumption) ?t5r13
  case t5h13 => (intro y hSu; (try dsimp only at hSu); go_simp; first | done | with_reducible rfl)
  (try simp only [Act.put, List.setIfInBounds_toArray, List.set_cons_zero, List.set_cons_succ])
  refine takeL (i := 14) (v := ?t5v14) (some 186) rfl rfl (by kernel_rfl) (by kernel_rfl) (by kernel_rfl) (by kernel_rfl) (by kernel_rfl) (fun _ _ _ h => h) (Or.inl ⟨by rfl, ?t5h14⟩) (by assumption) ?t5r14
  case t5h14 => (intro y hSu; (try dsimp only at hSu); go_simp; first | done | with_reducible rfl)
  (try simp only [Act.put, List.setIfInBounds_toArray, List.set_cons_zero, List.set_cons_succ])
  refine takeL (i := 15) (v := ?t5v15) (some 187) rfl rfl (by kernel_rfl) (by kernel_rfl) (by kernel_rfl) (by kernel_rfl) (by kernel_rfl) (fun _ _ _ h => h) (Or.inl ⟨by rfl, ?t5h15⟩) (by assumption) ?t5r15
  case t5h15 => (intro y hSu; (try dsimp only at hSu); go_simp; first | done | with_reducible rfl)
  (try simp only [Act.put, List.setIfInBounds_toArray, List.set_cons_zero, List.set_cons_succ])
  refine takeL (i := 17) (v := ?t5v17) (some 189) rfl rfl (by kernel_rfl) (by kernel_rfl) (by kernel_rfl) (by kernel_rfl) (by kernel_rfl) (fun _ _ _ h => h) (Or.inl ⟨by rfl, ?t5h17⟩) (by assumption) ?t5r17
  case t5h17 => (intro y hSu; (try dsimp only at hSu); go_simp; first | done | with_reducible rfl)
  (try simp only [Act.put, List.setIfInBounds_toArray, List.set_cons_zero, List.set_cons_succ])
  refine takeL (i := 18) (v := ?t5v18) (some 190) rfl rfl (by kernel_rfl) (by kernel_rfl) (by kernel_rfl) (by kernel_rfl) (by kernel_rfl) (fun _ _ _ h => h) (Or.inl ⟨by rfl, ?t5h18⟩) (by assumption) ?t5r18
  case t5h18 => (intro y hSu; (try dsimp only at hSu); go_simp; first | done | with_reducible rfl)
  (try simp only [Act.put, List.setIfInBounds_toArray, List.set_cons_zero, List.set_cons_succ])
  refine readyL (i := 16) (by kernel_rfl) rfl (fun K hK => ?_)
  go_simp
  refine (unhide CW).mono ?_
  rintro e w5 ⟨rfl, rfl⟩
  (try dsimp only)
  refine hK.out _ _ (fun _ => hc0) ?_
  clear hK K
  (try simp only [Act.put, List.setIfInBounds_toArray, List.set_cons_zero, List.set_cons_succ])
  have hH7 := hc0
  refine takeL (i := 19) (v := ?t8v19) (some 191) rfl rfl (by kernel_rfl) (by kernel_rfl) (by kernel_rfl) (by kernel_rfl) (by kernel_rfl) (fun _ _ _ h => h) (Or.inl ⟨by rfl, ?t8h19⟩) (by assumption) ?t8r19
  case t8h19 => (intro y hSu; (try dsimp only at hSu); go_simp; first | done | with_reducible rfl)
  (try simp only [Act.put, List.setIfInBounds_toArray, List.set_cons_zero, List.set_cons_succ])
  refine takeL (i := 20) (v := ?t8v20) (some 192) rfl rfl (by kernel_rfl) (by kernel_rfl) (by kernel_rfl) (by kernel_rfl) (by kernel_rfl) (fun _ _ _ h => h) (Or.inl ⟨by rfl, ?t8h20⟩) (by assumption) ?t8r20
  case t8h20 => (intro y hSu; (try dsimp only at hSu); go_simp; first | done | with_reducible rfl)
  (try simp only [Act.put, List.setIfInBounds_toArray, List.set_cons_zero, List.set_cons_succ])
  refine readyL (i := 21) (by kernel_rfl) rfl (fun K hK => ?_)
  go_simp
  refine hK.out _ _ (fun _ => hS21) ?_
  clear hK K
  (try simp only [Act.put, List.setIfInBounds_toArray, List.set_cons_zero, List.set_cons_succ])
  have hH10 := hS21
  refine takeL (i := 22) (v := ?t11v22) (some 7) rfl rfl (by kernel_rfl) (by kernel_rfl) (by kernel_rfl) (by kernel_rfl) (by kernel_rfl) (fun _ _ _ h => h) (Or.inl ⟨by rfl, ?t11h22⟩) (by assumption) ?t11r22
  case t11h22 => (intro y hSu; (try dsimp only at hSu); go_simp; first | done | with_reducible rfl)
  (try simp only [Act.put, List.setIfInBounds_toArray, List.set_cons_zero, List.set_cons_succ])
  refine doneL (by kernel_rfl) ?_ _
  refine NoPanic.normal ?_
  go_wp2_with fail
  (try simp only [Exit.inBlock, Exit.then])
  change bodyPost _ _ _ _ _ (set4 w3 (bb + 2) (.slice a1 m1 q1) (.slice a2 m2 q2) (.int .i64 rd') (.int .i64 wr')).drew
  have e1 := unhide HE1
  generalize (set4 w3 (bb + 2) (.slice a1 m1 q1) (.slice a2 m2 q2) (.int .i64 rd') (.int .i64 wr')).drew = w9 at *
  clear HE1 hS21 hc0 d0 d1 d2 d3 df
  refine bodyPost_ret (resG rfl _ _ (bb + 2) _ _ _ _ rfl e1) rfl ?_
  exact unhide HFIN
end Go.Proofs.YtagibmgbjhemkaaGreat
