/- Play: PutEdge. -/
import Derived.Test.YtagibmgbjhemkaaGreatPlay70
namespace Go.Proofs.YtagibmgbjhemkaaGreat

section
open Go.RowKit Go.Maps
set_option maxHeartbeats 4000000 in
set_option maxRecDepth 100000 in
theorem play1 [Inhabited EntI] {n : Nat} {w : World} {X : Sto} {g : Gr} {vv ev : Value} {vs : List Int} {es : List EdgeV} (h : Game n X g vv ev vs es w) (hn : n + 1 ≤ 1000) (A B E b : Int) (_hA : okN A) (_hB : okN B) (_hb0 : 0 ≤ b) :
    Calls Tryz.prog 30 #[.pointer (some ⟨X.s, 0, none⟩), .agg #[vv, ev, .int .i64 g.rd, .int .i64 g.wr], .agg #[.int .i64 1, .int .i64 A, .int .i64 B, .int .i64 E, .int .u32 b]] w fun e w' => Hid (PlayAns (n + 1) w X e w') := by
  obtain ⟨hP0, hG0⟩ := PM.start h (oOp 1 A B E b); obtain ⟨va, vc, hvv, -⟩ := brow_shape h.vrow; obtain ⟨vn, hvv'⟩ : ∃ vn, vv = .slice va vn vc := ⟨_, hvv⟩; obtain ⟨ea, en, ec, hev⟩ := grow_shape h.erow; clear hvv; subst hvv' hev; obtain ⟨c, g', C1⟩ := cAddV hP0 hG0 hn; have HP0 := hide hP0; obtain ⟨s, hs⟩ : ∃ s, s = X.s := ⟨_, rfl⟩; obtain ⟨rd, hrd⟩ : ∃ rd, rd = g.rd := ⟨_, rfl⟩; obtain ⟨wr_0, hwr⟩ : ∃ wr_0, wr_0 = g.wr := ⟨_, rfl⟩; obtain ⟨bb, hbb⟩ : ∃ bb, bb = w.heap.size := ⟨_, rfl⟩; obtain ⟨c0, c1, c2, c3, -⟩ := cellsG hP0.b0; obtain ⟨o0, o1, o2, o3, o4⟩ := cellsOp hP0.b1; rw [← hs, ← hrd, ← hwr]; rw [← hbb, ← hrd, ← hwr] at c0 c1 c2 c3 o0 o1 o2 o3 o4; have HBB := hide hbb; have HSS := hide hs; have HRW := hide (And.intro hrd hwr); rw [← hs, ← hrd, ← hwr, ← hbb] at C1; have HC1 := hide C1; clear C1; clear hP0 hG0 h hs hrd hwr hbb hn
  go_enter Tryz.func30, Tryz.ntmps30
  go_upto_region 1 with fail
  change Code.wp _ _ _ _ (((w.alloc (oG (.slice va vn vc) (.slice ea en ec) rd wr_0)).alloc (oOp 1 A B E b)).alloc oZ); rw [show w.heap.size + 2 = bb + 2 by rw [unhide HBB], show w.heap.size + 1 = bb + 1 by rw [unhide HBB], ← unhide HBB]
  generalize ((w.alloc (oG (.slice va vn vc) (.slice ea en ec) rd wr_0)).alloc (oOp 1 A B E b)).alloc oZ = wb at *
  go_wp2_with fail
  refine (unhide HC1).mono ?_
  rintro e w1 ⟨rfl, ⟨c0', c1', c2', c3'⟩, ⟨o0', o1', o2', o3', o4'⟩, h1⟩
  clear c0 c1 c2 c3 o0 o1 o2 o3 o4 HC1
  go_wp2_with fail
  refine (unhide h1).mono ?_
  rintro e w2 ⟨a1, m1, q1, a2, m2, q2, rfl, ⟨d0, d1, d2, d3, df⟩, HES⟩
  clear c0' c1' c2' c3' o0' o1' o2' o3' o4' h1
  go_upto_region 37 with fail
  change Code.wp _ _ _ _ (set4 w2 bb (.slice a1 m1 q1) (.slice a2 m2 q2) (.int .i64 g'.rd) (.int .i64 g'.wr)); generalize set4 w2 bb (.slice a1 m1 q1) (.slice a2 m2 q2) (.int .i64 g'.rd) (.int .i64 g'.wr) = w3 at *; clear d0 d1 d2 d3 df; have HED := hide ((unhide HES).below (Below.refl w3.heap.size w3).drew); obtain ⟨rd', hrd'⟩ : ∃ rd', rd' = g'.rd := ⟨_, rfl⟩; obtain ⟨wr', hwr'⟩ : ∃ wr', wr' = g'.wr := ⟨_, rfl⟩; have hc0 := (unhide HED).cells; rw [← hrd', ← hwr'] at hc0; have CR := hide (unhide HED).reads; have CW := hide (unhide HED).writes; rw [← unhide HSS, ← hrd'] at CR; rw [← unhide HSS, ← hwr'] at CW; have hres := (unhide HES).res; obtain ⟨d0, d1, d2, d3, df⟩ := cellsG (vv := .slice none 0 0) (ev := .slice none 0 0) (rd := 0) (wr := 0) hres; have hc3 := (unhide HES).cells; rw [← hrd', ← hwr'] at hc3; have HE1 := hide (drewAt (set4G_at hres (.slice a1 m1 q1) (.slice a2 m2 q2) (.int .i64 rd') (.int .i64 wr'))); have hS21 : ((set4 w3 (bb + 2) (.slice a1 m1 q1) (.slice a2 m2 q2) (.int .i64 rd') (.int .i64 wr')).drew.cell? ⟨bb, 0, none⟩ = some (.slice a1 m1 q1) ∧ (set4 w3 (bb + 2) (.slice a1 m1 q1) (.slice a2 m2 q2) (.int .i64 rd') (.int .i64 wr')).drew.cell? ⟨bb, 1, none⟩ = some (.slice a2 m2 q2) ∧ (set4 w3 (bb + 2) (.slice a1 m1 q1) (.slice a2 m2 q2) (.int .i64 rd') (.int .i64 wr')).drew.cell? ⟨bb, 2, none⟩ = some (.int .i64 rd') ∧ (set4 w3 (bb + 2) (.slice a1 m1 q1) (.slice a2 m2 q2) (.int .i64 rd') (.int .i64 wr')).drew.cell? ⟨bb, 3, none⟩ = some (.int .i64 wr')) := box_set4 hc3 (show bb ≠ bb + 2 by omega) (.slice a1 m1 q1) (.slice a2 m2 q2) (.int .i64 rd') (.int .i64 wr')
  have HFIN : Hid (PlayAns (n + 1) w X (.returned (.tuple #[.agg #[.slice a1 m1 q1, .slice a2 m2 q2, .int .i64 rd', .int .i64 wr'], .bool true])) (set4 w3 (bb + 2) (.slice a1 m1 q1) (.slice a2 m2 q2) (.int .i64 rd') (.int .i64 wr')).drew) := by
    obtain ⟨X', vs', es', f1, f2, f3⟩ := (unhide HES).fin (.slice a1 m1 q1) (.slice a2 m2 q2) (.int .i64 rd') (.int .i64 wr'); have hbd := (Below.refl (set4 w3 (bb + 2) (.slice a1 m1 q1) (.slice a2 m2 q2) (.int .i64 rd') (.int .i64 wr')).heap.size (set4 w3 (bb + 2) (.slice a1 m1 q1) (.slice a2 m2 q2) (.int .i64 rd') (.int .i64 wr'))).drew; refine ⟨_, _, _, _, _, _, g', by rw [hrd', hwr'], X', vs', es', f1.below hbd, f2, f3.trans (Foots.below _ hbd)⟩
  unfold set4 at hS21; clear hrd' hwr' HES HED hres hc3; refine wp_region_noPanic ?_; refine regionL [] (fun y => (y.cell? ⟨bb, 0, none⟩ = some (.slice a1 m1 q1) ∧ y.cell? ⟨bb, 1, none⟩ = some (.slice a2 m2 q2) ∧ y.cell? ⟨bb, 2, none⟩ = some (.int .i64 rd') ∧ y.cell? ⟨bb, 3, none⟩ = some (.int .i64 wr'))) (by kernel_rfl) hc0 (fun hHeld => ?_)
  refine takeN 0 172 rfl ?_
  (try simp only [sl])
  refine takeN 1 173 rfl ?_
  (try simp only [sl])
  refine takeN 2 174 rfl ?_
  (try simp only [sl])
  refine takeN 3 175 rfl ?_
  (try simp only [sl])
  refine takeN 4 176 rfl ?_
  (try simp only [sl])
  refine takeN 5 177 rfl ?_
  (try simp only [sl])
  refine takeN 6 178 rfl ?_
  (try simp only [sl])
  refine takeN 7 179 rfl ?_
  (try simp only [sl])
  refine takeN 8 180 rfl ?_
  (try simp only [sl])
  refine takeN 10 182 rfl ?_
  (try simp only [sl])
  refine takeN 11 183 rfl ?_
  (try simp only [sl])
  refine readyL (i := 9) (by kernel_rfl) rfl (fun K hK => ?_)
  go_simp
  refine (unhide CR).mono ?_
  rintro e w4 ⟨rfl, rfl⟩
  (try dsimp only)
  refine hK.out _ _ (fun _ => hc0) ?_
  clear hK K
  (try simp only [sl])
  have hH4 := hc0; refine takeN 12 184 rfl ?_
  (try simp only [sl])
  refine takeN 13 185 rfl ?_
  (try simp only [sl])
  refine takeN 14 186 rfl ?_
  (try simp only [sl])
  refine takeN 15 187 rfl ?_
  (try simp only [sl])
  refine takeN 17 189 rfl ?_
  (try simp only [sl])
  refine takeN 18 190 rfl ?_
  (try simp only [sl])
  refine readyL (i := 16) (by kernel_rfl) rfl (fun K hK => ?_)
  go_simp
  refine (unhide CW).mono ?_
  rintro e w5 ⟨rfl, rfl⟩
  (try dsimp only)
  refine hK.out _ _ (fun _ => hc0) ?_
  clear hK K
  (try simp only [sl])
  have hH7 := hc0; refine takeN 19 191 rfl ?_
  (try simp only [sl])
  refine takeN 20 192 rfl ?_
  (try simp only [sl])
  refine readyL (i := 21) (by kernel_rfl) rfl (fun K hK => ?_)
  go_simp
  refine hK.out _ _ (fun _ => hS21) ?_
  clear hK K
  (try simp only [sl])
  have hH10 := hS21; refine takeN 22 7 rfl ?_
  (try simp only [sl])
  refine doneL (by kernel_rfl) ?_ _
  refine NoPanic.normal ?_
  go_wp2_with fail
  (try simp only [Exit.inBlock, Exit.then])
  change bodyPost _ _ _ _ _ (set4 w3 (bb + 2) (.slice a1 m1 q1) (.slice a2 m2 q2) (.int .i64 rd') (.int .i64 wr')).drew; have e1 := unhide HE1; generalize (set4 w3 (bb + 2) (.slice a1 m1 q1) (.slice a2 m2 q2) (.int .i64 rd') (.int .i64 wr')).drew = w9 at *; clear HE1 hS21 hc0 d0 d1 d2 d3 df; refine bodyPost_ret (resG rfl _ _ (bb + 2) _ _ _ _ rfl e1) rfl ?_; exact unhide HFIN
end

section
open Go.RowKit Go.Maps
set_option maxHeartbeats 4000000 in
set_option maxRecDepth 100000 in
theorem play2 [Inhabited EntI] {n : Nat} {w : World} {X : Sto} {g : Gr} {vv ev : Value} {vs : List Int} {es : List EdgeV} (h : Game n X g vv ev vs es w) (hn : n + 1 ≤ 1000) (A B E b : Int) (hA : okN A) (_hB : okN B) (_hb0 : 0 ≤ b) :
    Calls Tryz.prog 30 #[.pointer (some ⟨X.s, 0, none⟩), .agg #[vv, ev, .int .i64 g.rd, .int .i64 g.wr], .agg #[.int .i64 2, .int .i64 A, .int .i64 B, .int .i64 E, .int .u32 b]] w fun e w' => Hid (PlayAns (n + 1) w X e w') := by
  obtain ⟨hP0, hG0⟩ := PM.start h (oOp 2 A B E b); obtain ⟨va, vc, hvv, -⟩ := brow_shape h.vrow; obtain ⟨vn, hvv'⟩ : ∃ vn, vv = .slice va vn vc := ⟨_, hvv⟩; obtain ⟨ea, en, ec, hev⟩ := grow_shape h.erow; clear hvv; subst hvv' hev; obtain ⟨c, g', C1⟩ := cDropV hP0 hG0 hn hA; have HP0 := hide hP0; obtain ⟨s, hs⟩ : ∃ s, s = X.s := ⟨_, rfl⟩; obtain ⟨rd, hrd⟩ : ∃ rd, rd = g.rd := ⟨_, rfl⟩; obtain ⟨wr_0, hwr⟩ : ∃ wr_0, wr_0 = g.wr := ⟨_, rfl⟩; obtain ⟨bb, hbb⟩ : ∃ bb, bb = w.heap.size := ⟨_, rfl⟩; obtain ⟨c0, c1, c2, c3, -⟩ := cellsG hP0.b0; obtain ⟨o0, o1, o2, o3, o4⟩ := cellsOp hP0.b1; rw [← hs, ← hrd, ← hwr]; rw [← hbb, ← hrd, ← hwr] at c0 c1 c2 c3 o0 o1 o2 o3 o4; have HBB := hide hbb; have HSS := hide hs; have HRW := hide (And.intro hrd hwr); rw [← hs, ← hrd, ← hwr, ← hbb] at C1; have HC1 := hide C1; clear C1; clear hP0 hG0 h hs hrd hwr hbb hA hn
  go_enter Tryz.func30, Tryz.ntmps30
  go_upto_region 1 with fail
  change Code.wp _ _ _ _ (((w.alloc (oG (.slice va vn vc) (.slice ea en ec) rd wr_0)).alloc (oOp 2 A B E b)).alloc oZ); rw [show w.heap.size + 2 = bb + 2 by rw [unhide HBB], show w.heap.size + 1 = bb + 1 by rw [unhide HBB], ← unhide HBB]
  generalize ((w.alloc (oG (.slice va vn vc) (.slice ea en ec) rd wr_0)).alloc (oOp 2 A B E b)).alloc oZ = wb at *
  go_wp2_with fail
  refine (unhide HC1).mono ?_
  rintro e w1 ⟨a0, m0, q0, rfl, ⟨c0', c1', c2', c3'⟩, ⟨o0', o1', o2', o3', o4'⟩, h1⟩
  clear c0 c1 c2 c3 o0 o1 o2 o3 o4 HC1
  go_wp2_with fail
  refine (unhide h1).mono ?_
  rintro e w2 ⟨a3, m3, q3, a1, m1, q1, a2, m2, q2, rfl, ⟨d0, d1, d2, d3, df⟩, H12⟩
  clear c0' c1' c2' c3' o0' o1' o2' o3' o4' h1; have HSM := hide (unhide H12).2; clear H12
  go_upto_region 12 with fail
  change Code.wp _ _ _ _ (set4 w2 bb (.slice a1 m1 q1) (.slice a2 m2 q2) (.int .i64 g'.rd) (.int .i64 g'.wr)); generalize set4 w2 bb (.slice a1 m1 q1) (.slice a2 m2 q2) (.int .i64 g'.rd) (.int .i64 g'.wr) = w3' at *; clear d0 d1 d2 d3 df
  go_wp2_with fail
  refine (unhide HSM).mono ?_
  rintro e w3 ⟨rfl, HES⟩
  clear HSM
  go_upto_region 37 with fail
  have HED := hide ((unhide HES).below (Below.refl w3.heap.size w3).drew); obtain ⟨rd', hrd'⟩ : ∃ rd', rd' = g'.rd := ⟨_, rfl⟩; obtain ⟨wr', hwr'⟩ : ∃ wr', wr' = g'.wr := ⟨_, rfl⟩; have hc0 := (unhide HED).cells; rw [← hrd', ← hwr'] at hc0; have CR := hide (unhide HED).reads; have CW := hide (unhide HED).writes; rw [← unhide HSS, ← hrd'] at CR; rw [← unhide HSS, ← hwr'] at CW; have hres := (unhide HES).res; obtain ⟨d0, d1, d2, d3, df⟩ := cellsG (vv := .slice none 0 0) (ev := .slice none 0 0) (rd := 0) (wr := 0) hres; have hc3 := (unhide HES).cells; rw [← hrd', ← hwr'] at hc3; have HE1 := hide (drewAt (set4G_at hres (.slice a1 m1 q1) (.slice a2 m2 q2) (.int .i64 rd') (.int .i64 wr'))); have hS21 : ((set4 w3 (bb + 2) (.slice a1 m1 q1) (.slice a2 m2 q2) (.int .i64 rd') (.int .i64 wr')).drew.cell? ⟨bb, 0, none⟩ = some (.slice a1 m1 q1) ∧ (set4 w3 (bb + 2) (.slice a1 m1 q1) (.slice a2 m2 q2) (.int .i64 rd') (.int .i64 wr')).drew.cell? ⟨bb, 1, none⟩ = some (.slice a2 m2 q2) ∧ (set4 w3 (bb + 2) (.slice a1 m1 q1) (.slice a2 m2 q2) (.int .i64 rd') (.int .i64 wr')).drew.cell? ⟨bb, 2, none⟩ = some (.int .i64 rd') ∧ (set4 w3 (bb + 2) (.slice a1 m1 q1) (.slice a2 m2 q2) (.int .i64 rd') (.int .i64 wr')).drew.cell? ⟨bb, 3, none⟩ = some (.int .i64 wr')) := box_set4 hc3 (show bb ≠ bb + 2 by omega) (.slice a1 m1 q1) (.slice a2 m2 q2) (.int .i64 rd') (.int .i64 wr')
  have HFIN : Hid (PlayAns (n + 1) w X (.returned (.tuple #[.agg #[.slice a1 m1 q1, .slice a2 m2 q2, .int .i64 rd', .int .i64 wr'], .bool true])) (set4 w3 (bb + 2) (.slice a1 m1 q1) (.slice a2 m2 q2) (.int .i64 rd') (.int .i64 wr')).drew) := by
    obtain ⟨X', vs', es', f1, f2, f3⟩ := (unhide HES).fin (.slice a1 m1 q1) (.slice a2 m2 q2) (.int .i64 rd') (.int .i64 wr'); have hbd := (Below.refl (set4 w3 (bb + 2) (.slice a1 m1 q1) (.slice a2 m2 q2) (.int .i64 rd') (.int .i64 wr')).heap.size (set4 w3 (bb + 2) (.slice a1 m1 q1) (.slice a2 m2 q2) (.int .i64 rd') (.int .i64 wr'))).drew; refine ⟨_, _, _, _, _, _, g', by rw [hrd', hwr'], X', vs', es', f1.below hbd, f2, f3.trans (Foots.below _ hbd)⟩
  unfold set4 at hS21; clear hrd' hwr' HES HED hres hc3; refine wp_region_noPanic ?_; refine regionL [] (fun y => (y.cell? ⟨bb, 0, none⟩ = some (.slice a1 m1 q1) ∧ y.cell? ⟨bb, 1, none⟩ = some (.slice a2 m2 q2) ∧ y.cell? ⟨bb, 2, none⟩ = some (.int .i64 rd') ∧ y.cell? ⟨bb, 3, none⟩ = some (.int .i64 wr'))) (by kernel_rfl) hc0 (fun hHeld => ?_)
  refine takeN 0 172 rfl ?_
  (try simp only [sl])
  refine takeN 1 173 rfl ?_
  (try simp only [sl])
  refine takeN 2 174 rfl ?_
  (try simp only [sl])
  refine takeN 3 175 rfl ?_
  (try simp only [sl])
  refine takeN 4 176 rfl ?_
  (try simp only [sl])
  refine takeN 5 177 rfl ?_
  (try simp only [sl])
  refine takeN 6 178 rfl ?_
  (try simp only [sl])
  refine takeN 7 179 rfl ?_
  (try simp only [sl])
  refine takeN 8 180 rfl ?_
  (try simp only [sl])
  refine takeN 10 182 rfl ?_
  (try simp only [sl])
  refine takeN 11 183 rfl ?_
  (try simp only [sl])
  refine readyL (i := 9) (by kernel_rfl) rfl (fun K hK => ?_)
  go_simp
  refine (unhide CR).mono ?_
  rintro e w4 ⟨rfl, rfl⟩
  (try dsimp only)
  refine hK.out _ _ (fun _ => hc0) ?_
  clear hK K
  (try simp only [sl])
  have hH4 := hc0; refine takeN 12 184 rfl ?_
  (try simp only [sl])
  refine takeN 13 185 rfl ?_
  (try simp only [sl])
  refine takeN 14 186 rfl ?_
  (try simp only [sl])
  refine takeN 15 187 rfl ?_
  (try simp only [sl])
  refine takeN 17 189 rfl ?_
  (try simp only [sl])
  refine takeN 18 190 rfl ?_
  (try simp only [sl])
  refine readyL (i := 16) (by kernel_rfl) rfl (fun K hK => ?_)
  go_simp
  refine (unhide CW).mono ?_
  rintro e w5 ⟨rfl, rfl⟩
  (try dsimp only)
  refine hK.out _ _ (fun _ => hc0) ?_
  clear hK K
  (try simp only [sl])
  have hH7 := hc0; refine takeN 19 191 rfl ?_
  (try simp only [sl])
  refine takeN 20 192 rfl ?_
  (try simp only [sl])
  refine readyL (i := 21) (by kernel_rfl) rfl (fun K hK => ?_)
  go_simp
  refine hK.out _ _ (fun _ => hS21) ?_
  clear hK K
  (try simp only [sl])
  have hH10 := hS21; refine takeN 22 7 rfl ?_
  (try simp only [sl])
  refine doneL (by kernel_rfl) ?_ _
  refine NoPanic.normal ?_
  go_wp2_with fail
  (try simp only [Exit.inBlock, Exit.then])
  change bodyPost _ _ _ _ _ (set4 w3 (bb + 2) (.slice a1 m1 q1) (.slice a2 m2 q2) (.int .i64 rd') (.int .i64 wr')).drew; have e1 := unhide HE1; generalize (set4 w3 (bb + 2) (.slice a1 m1 q1) (.slice a2 m2 q2) (.int .i64 rd') (.int .i64 wr')).drew = w9 at *; clear HE1 hS21 hc0 d0 d1 d2 d3 df; refine bodyPost_ret (resG rfl _ _ (bb + 2) _ _ _ _ rfl e1) rfl ?_; exact unhide HFIN
end

section
open Go.RowKit Go.Maps
set_option maxHeartbeats 4000000 in
set_option maxRecDepth 100000 in
theorem play3 [Inhabited EntI] {n : Nat} {w : World} {X : Sto} {g : Gr} {vv ev : Value} {vs : List Int} {es : List EdgeV} (h : Game n X g vv ev vs es w) (hn : n + 1 ≤ 1000) (A B E b : Int) (hA : okN A) (hB : okN B) (hb0 : 0 ≤ b) :
    Calls Tryz.prog 30 #[.pointer (some ⟨X.s, 0, none⟩), .agg #[vv, ev, .int .i64 g.rd, .int .i64 g.wr], .agg #[.int .i64 3, .int .i64 A, .int .i64 B, .int .i64 E, .int .u32 b]] w fun e w' => Hid (PlayAns (n + 1) w X e w') := by
  obtain ⟨hP0, hG0⟩ := PM.start h (oOp 3 A B E b); obtain ⟨va, vc, hvv, -⟩ := brow_shape h.vrow; obtain ⟨vn, hvv'⟩ : ∃ vn, vv = .slice va vn vc := ⟨_, hvv⟩; obtain ⟨ea, en, ec, hev⟩ := grow_shape h.erow; clear hvv; subst hvv' hev; obtain ⟨m, c, g', C1⟩ := cAddE hP0 hG0 hn hA hB hb0; have HP0 := hide hP0; obtain ⟨s, hs⟩ : ∃ s, s = X.s := ⟨_, rfl⟩; obtain ⟨rd, hrd⟩ : ∃ rd, rd = g.rd := ⟨_, rfl⟩; obtain ⟨wr_0, hwr⟩ : ∃ wr_0, wr_0 = g.wr := ⟨_, rfl⟩; obtain ⟨bb, hbb⟩ : ∃ bb, bb = w.heap.size := ⟨_, rfl⟩; obtain ⟨c0, c1, c2, c3, -⟩ := cellsG hP0.b0; obtain ⟨o0, o1, o2, o3, o4⟩ := cellsOp hP0.b1; rw [← hs, ← hrd, ← hwr]; rw [← hbb, ← hrd, ← hwr] at c0 c1 c2 c3 o0 o1 o2 o3 o4; have HBB := hide hbb; have HSS := hide hs; have HRW := hide (And.intro hrd hwr); rw [← hs, ← hrd, ← hwr, ← hbb] at C1; have HC1 := hide C1; clear C1; clear hP0 hG0 h hs hrd hwr hbb hA hB hb0 hn
  go_enter Tryz.func30, Tryz.ntmps30
  go_upto_region 1 with fail
  change Code.wp _ _ _ _ (((w.alloc (oG (.slice va vn vc) (.slice ea en ec) rd wr_0)).alloc (oOp 3 A B E b)).alloc oZ); rw [show w.heap.size + 2 = bb + 2 by rw [unhide HBB], show w.heap.size + 1 = bb + 1 by rw [unhide HBB], ← unhide HBB]
  generalize ((w.alloc (oG (.slice va vn vc) (.slice ea en ec) rd wr_0)).alloc (oOp 3 A B E b)).alloc oZ = wb at *
  go_wp2_with fail
  refine (unhide HC1).mono ?_
  rintro e w1 ⟨rfl, ⟨c0', c1', c2', c3'⟩, ⟨o0', o1', o2', o3', o4'⟩, h1⟩
  clear c0 c1 c2 c3 o0 o1 o2 o3 o4 HC1
  go_wp2_with fail
  refine (unhide h1).mono ?_
  rintro e w2 ⟨a1, m1, q1, a2, m2, q2, rfl, ⟨d0, d1, d2, d3, df⟩, HES⟩
  clear c0' c1' c2' c3' o0' o1' o2' o3' o4' h1
  go_upto_region 37 with fail
  change Code.wp _ _ _ _ (set4 w2 bb (.slice a1 m1 q1) (.slice a2 m2 q2) (.int .i64 g'.rd) (.int .i64 g'.wr)); generalize set4 w2 bb (.slice a1 m1 q1) (.slice a2 m2 q2) (.int .i64 g'.rd) (.int .i64 g'.wr) = w3 at *; clear d0 d1 d2 d3 df; have HED := hide ((unhide HES).below (Below.refl w3.heap.size w3).drew); obtain ⟨rd', hrd'⟩ : ∃ rd', rd' = g'.rd := ⟨_, rfl⟩; obtain ⟨wr', hwr'⟩ : ∃ wr', wr' = g'.wr := ⟨_, rfl⟩; have hc0 := (unhide HED).cells; rw [← hrd', ← hwr'] at hc0; have CR := hide (unhide HED).reads; have CW := hide (unhide HED).writes; rw [← unhide HSS, ← hrd'] at CR; rw [← unhide HSS, ← hwr'] at CW; have hres := (unhide HES).res; obtain ⟨d0, d1, d2, d3, df⟩ := cellsG (vv := .slice none 0 0) (ev := .slice none 0 0) (rd := 0) (wr := 0) hres; have hc3 := (unhide HES).cells; rw [← hrd', ← hwr'] at hc3; have HE1 := hide (drewAt (set4G_at hres (.slice a1 m1 q1) (.slice a2 m2 q2) (.int .i64 rd') (.int .i64 wr'))); have hS21 : ((set4 w3 (bb + 2) (.slice a1 m1 q1) (.slice a2 m2 q2) (.int .i64 rd') (.int .i64 wr')).drew.cell? ⟨bb, 0, none⟩ = some (.slice a1 m1 q1) ∧ (set4 w3 (bb + 2) (.slice a1 m1 q1) (.slice a2 m2 q2) (.int .i64 rd') (.int .i64 wr')).drew.cell? ⟨bb, 1, none⟩ = some (.slice a2 m2 q2) ∧ (set4 w3 (bb + 2) (.slice a1 m1 q1) (.slice a2 m2 q2) (.int .i64 rd') (.int .i64 wr')).drew.cell? ⟨bb, 2, none⟩ = some (.int .i64 rd') ∧ (set4 w3 (bb + 2) (.slice a1 m1 q1) (.slice a2 m2 q2) (.int .i64 rd') (.int .i64 wr')).drew.cell? ⟨bb, 3, none⟩ = some (.int .i64 wr')) := box_set4 hc3 (show bb ≠ bb + 2 by omega) (.slice a1 m1 q1) (.slice a2 m2 q2) (.int .i64 rd') (.int .i64 wr')
  have HFIN : Hid (PlayAns (n + 1) w X (.returned (.tuple #[.agg #[.slice a1 m1 q1, .slice a2 m2 q2, .int .i64 rd', .int .i64 wr'], .bool true])) (set4 w3 (bb + 2) (.slice a1 m1 q1) (.slice a2 m2 q2) (.int .i64 rd') (.int .i64 wr')).drew) := by
    obtain ⟨X', vs', es', f1, f2, f3⟩ := (unhide HES).fin (.slice a1 m1 q1) (.slice a2 m2 q2) (.int .i64 rd') (.int .i64 wr'); have hbd := (Below.refl (set4 w3 (bb + 2) (.slice a1 m1 q1) (.slice a2 m2 q2) (.int .i64 rd') (.int .i64 wr')).heap.size (set4 w3 (bb + 2) (.slice a1 m1 q1) (.slice a2 m2 q2) (.int .i64 rd') (.int .i64 wr'))).drew; refine ⟨_, _, _, _, _, _, g', by rw [hrd', hwr'], X', vs', es', f1.below hbd, f2, f3.trans (Foots.below _ hbd)⟩
  unfold set4 at hS21; clear hrd' hwr' HES HED hres hc3; refine wp_region_noPanic ?_; refine regionL [] (fun y => (y.cell? ⟨bb, 0, none⟩ = some (.slice a1 m1 q1) ∧ y.cell? ⟨bb, 1, none⟩ = some (.slice a2 m2 q2) ∧ y.cell? ⟨bb, 2, none⟩ = some (.int .i64 rd') ∧ y.cell? ⟨bb, 3, none⟩ = some (.int .i64 wr'))) (by kernel_rfl) hc0 (fun hHeld => ?_)
  refine takeN 0 172 rfl ?_
  (try simp only [sl])
  refine takeN 1 173 rfl ?_
  (try simp only [sl])
  refine takeN 2 174 rfl ?_
  (try simp only [sl])
  refine takeN 3 175 rfl ?_
  (try simp only [sl])
  refine takeN 4 176 rfl ?_
  (try simp only [sl])
  refine takeN 5 177 rfl ?_
  (try simp only [sl])
  refine takeN 6 178 rfl ?_
  (try simp only [sl])
  refine takeN 7 179 rfl ?_
  (try simp only [sl])
  refine takeN 8 180 rfl ?_
  (try simp only [sl])
  refine takeN 10 182 rfl ?_
  (try simp only [sl])
  refine takeN 11 183 rfl ?_
  (try simp only [sl])
  refine readyL (i := 9) (by kernel_rfl) rfl (fun K hK => ?_)
  go_simp
  refine (unhide CR).mono ?_
  rintro e w4 ⟨rfl, rfl⟩
  (try dsimp only)
  refine hK.out _ _ (fun _ => hc0) ?_
  clear hK K
  (try simp only [sl])
  have hH4 := hc0; refine takeN 12 184 rfl ?_
  (try simp only [sl])
  refine takeN 13 185 rfl ?_
  (try simp only [sl])
  refine takeN 14 186 rfl ?_
  (try simp only [sl])
  refine takeN 15 187 rfl ?_
  (try simp only [sl])
  refine takeN 17 189 rfl ?_
  (try simp only [sl])
  refine takeN 18 190 rfl ?_
  (try simp only [sl])
  refine readyL (i := 16) (by kernel_rfl) rfl (fun K hK => ?_)
  go_simp
  refine (unhide CW).mono ?_
  rintro e w5 ⟨rfl, rfl⟩
  (try dsimp only)
  refine hK.out _ _ (fun _ => hc0) ?_
  clear hK K
  (try simp only [sl])
  have hH7 := hc0; refine takeN 19 191 rfl ?_
  (try simp only [sl])
  refine takeN 20 192 rfl ?_
  (try simp only [sl])
  refine readyL (i := 21) (by kernel_rfl) rfl (fun K hK => ?_)
  go_simp
  refine hK.out _ _ (fun _ => hS21) ?_
  clear hK K
  (try simp only [sl])
  have hH10 := hS21; refine takeN 22 7 rfl ?_
  (try simp only [sl])
  refine doneL (by kernel_rfl) ?_ _
  refine NoPanic.normal ?_
  go_wp2_with fail
  (try simp only [Exit.inBlock, Exit.then])
  change bodyPost _ _ _ _ _ (set4 w3 (bb + 2) (.slice a1 m1 q1) (.slice a2 m2 q2) (.int .i64 rd') (.int .i64 wr')).drew; have e1 := unhide HE1; generalize (set4 w3 (bb + 2) (.slice a1 m1 q1) (.slice a2 m2 q2) (.int .i64 rd') (.int .i64 wr')).drew = w9 at *; clear HE1 hS21 hc0 d0 d1 d2 d3 df; refine bodyPost_ret (resG rfl _ _ (bb + 2) _ _ _ _ rfl e1) rfl ?_; exact unhide HFIN
end

section
open Go.RowKit Go.Maps
set_option maxHeartbeats 4000000 in
set_option maxRecDepth 100000 in
theorem play4 [Inhabited EntI] {n : Nat} {w : World} {X : Sto} {g : Gr} {vv ev : Value} {vs : List Int} {es : List EdgeV} (h : Game n X g vv ev vs es w) (hn : n + 1 ≤ 1000) (A B E b : Int) (hA : okN A) (hB : okN B) (hb0 : 0 ≤ b) :
    Calls Tryz.prog 30 #[.pointer (some ⟨X.s, 0, none⟩), .agg #[vv, ev, .int .i64 g.rd, .int .i64 g.wr], .agg #[.int .i64 4, .int .i64 A, .int .i64 B, .int .i64 E, .int .u32 b]] w fun e w' => Hid (PlayAns (n + 1) w X e w') := by
  obtain ⟨hP0, hG0⟩ := PM.start h (oOp 4 A B E b); obtain ⟨va, vc, hvv, -⟩ := brow_shape h.vrow; obtain ⟨vn, hvv'⟩ : ∃ vn, vv = .slice va vn vc := ⟨_, hvv⟩; obtain ⟨ea, en, ec, hev⟩ := grow_shape h.erow; clear hvv; subst hvv' hev; obtain ⟨c, g', C1⟩ := cPutE hP0 hG0 hn hA hB hb0; have HP0 := hide hP0; obtain ⟨s, hs⟩ : ∃ s, s = X.s := ⟨_, rfl⟩; obtain ⟨rd, hrd⟩ : ∃ rd, rd = g.rd := ⟨_, rfl⟩; obtain ⟨wr_0, hwr⟩ : ∃ wr_0, wr_0 = g.wr := ⟨_, rfl⟩; obtain ⟨bb, hbb⟩ : ∃ bb, bb = w.heap.size := ⟨_, rfl⟩; obtain ⟨c0, c1, c2, c3, -⟩ := cellsG hP0.b0; obtain ⟨o0, o1, o2, o3, o4⟩ := cellsOp hP0.b1; rw [← hs, ← hrd, ← hwr]; rw [← hbb, ← hrd, ← hwr] at c0 c1 c2 c3 o0 o1 o2 o3 o4; have HBB := hide hbb; have HSS := hide hs; have HRW := hide (And.intro hrd hwr); rw [← hs, ← hrd, ← hwr, ← hbb] at C1; have HC1 := hide C1; clear C1; clear hP0 hG0 h hs hrd hwr hbb hA hB hb0 hn
  go_enter Tryz.func30, Tryz.ntmps30
  go_upto_region 1 with fail
  change Code.wp _ _ _ _ (((w.alloc (oG (.slice va vn vc) (.slice ea en ec) rd wr_0)).alloc (oOp 4 A B E b)).alloc oZ); rw [show w.heap.size + 2 = bb + 2 by rw [unhide HBB], show w.heap.size + 1 = bb + 1 by rw [unhide HBB], ← unhide HBB]
  generalize ((w.alloc (oG (.slice va vn vc) (.slice ea en ec) rd wr_0)).alloc (oOp 4 A B E b)).alloc oZ = wb at *
  go_upto_region 20 with fail
  change Code.wp _ _ _ _ (wb.alloc (oX (E, A, B, b))); obtain ⟨x0, x1, x2, x3, -⟩ := cellsX (heap_alloc_new wb (oX (E, A, B, b))); simp only at x0 x1 x2 x3; generalize wb.alloc (oX (E, A, B, b)) = wc at *; generalize wb.heap.size = bx at *; clear c0 c1 c2 c3 o0 o1 o2 o3 o4
  go_wp2_with fail
  refine (unhide HC1).mono ?_
  rintro e w1 ⟨rfl, ⟨c0', c1', c2', c3'⟩, ⟨o0', o1', o2', o3'⟩, h1⟩
  clear x0 x1 x2 x3 HC1
  go_wp2_with fail
  refine (unhide h1).mono ?_
  rintro e w2 ⟨a1, m1, q1, a2, m2, q2, rfl, ⟨d0, d1, d2, d3, df⟩, HES⟩
  clear c0' c1' c2' c3' o0' o1' o2' o3' h1
  go_upto_region 37 with fail
  change Code.wp _ _ _ _ (set4 w2 bb (.slice a1 m1 q1) (.slice a2 m2 q2) (.int .i64 g'.rd) (.int .i64 g'.wr)); generalize set4 w2 bb (.slice a1 m1 q1) (.slice a2 m2 q2) (.int .i64 g'.rd) (.int .i64 g'.wr) = w3 at *; clear d0 d1 d2 d3 df; have HED := hide ((unhide HES).below (Below.refl w3.heap.size w3).drew); obtain ⟨rd', hrd'⟩ : ∃ rd', rd' = g'.rd := ⟨_, rfl⟩; obtain ⟨wr', hwr'⟩ : ∃ wr', wr' = g'.wr := ⟨_, rfl⟩; have hc0 := (unhide HED).cells; rw [← hrd', ← hwr'] at hc0; have CR := hide (unhide HED).reads; have CW := hide (unhide HED).writes; rw [← unhide HSS, ← hrd'] at CR; rw [← unhide HSS, ← hwr'] at CW; have hres := (unhide HES).res; obtain ⟨d0, d1, d2, d3, df⟩ := cellsG (vv := .slice none 0 0) (ev := .slice none 0 0) (rd := 0) (wr := 0) hres; have hc3 := (unhide HES).cells; rw [← hrd', ← hwr'] at hc3; have HE1 := hide (drewAt (set4G_at hres (.slice a1 m1 q1) (.slice a2 m2 q2) (.int .i64 rd') (.int .i64 wr'))); have hS21 : ((set4 w3 (bb + 2) (.slice a1 m1 q1) (.slice a2 m2 q2) (.int .i64 rd') (.int .i64 wr')).drew.cell? ⟨bb, 0, none⟩ = some (.slice a1 m1 q1) ∧ (set4 w3 (bb + 2) (.slice a1 m1 q1) (.slice a2 m2 q2) (.int .i64 rd') (.int .i64 wr')).drew.cell? ⟨bb, 1, none⟩ = some (.slice a2 m2 q2) ∧ (set4 w3 (bb + 2) (.slice a1 m1 q1) (.slice a2 m2 q2) (.int .i64 rd') (.int .i64 wr')).drew.cell? ⟨bb, 2, none⟩ = some (.int .i64 rd') ∧ (set4 w3 (bb + 2) (.slice a1 m1 q1) (.slice a2 m2 q2) (.int .i64 rd') (.int .i64 wr')).drew.cell? ⟨bb, 3, none⟩ = some (.int .i64 wr')) := box_set4 hc3 (show bb ≠ bb + 2 by omega) (.slice a1 m1 q1) (.slice a2 m2 q2) (.int .i64 rd') (.int .i64 wr')
  have HFIN : Hid (PlayAns (n + 1) w X (.returned (.tuple #[.agg #[.slice a1 m1 q1, .slice a2 m2 q2, .int .i64 rd', .int .i64 wr'], .bool true])) (set4 w3 (bb + 2) (.slice a1 m1 q1) (.slice a2 m2 q2) (.int .i64 rd') (.int .i64 wr')).drew) := by
    obtain ⟨X', vs', es', f1, f2, f3⟩ := (unhide HES).fin (.slice a1 m1 q1) (.slice a2 m2 q2) (.int .i64 rd') (.int .i64 wr'); have hbd := (Below.refl (set4 w3 (bb + 2) (.slice a1 m1 q1) (.slice a2 m2 q2) (.int .i64 rd') (.int .i64 wr')).heap.size (set4 w3 (bb + 2) (.slice a1 m1 q1) (.slice a2 m2 q2) (.int .i64 rd') (.int .i64 wr'))).drew; refine ⟨_, _, _, _, _, _, g', by rw [hrd', hwr'], X', vs', es', f1.below hbd, f2, f3.trans (Foots.below _ hbd)⟩
  unfold set4 at hS21; clear hrd' hwr' HES HED hres hc3; refine wp_region_noPanic ?_; refine regionL [] (fun y => (y.cell? ⟨bb, 0, none⟩ = some (.slice a1 m1 q1) ∧ y.cell? ⟨bb, 1, none⟩ = some (.slice a2 m2 q2) ∧ y.cell? ⟨bb, 2, none⟩ = some (.int .i64 rd') ∧ y.cell? ⟨bb, 3, none⟩ = some (.int .i64 wr'))) (by kernel_rfl) hc0 (fun hHeld => ?_)
  refine takeN 0 172 rfl ?_
  (try simp only [sl])
  refine takeN 1 173 rfl ?_
  (try simp only [sl])
  refine takeN 2 174 rfl ?_
  (try simp only [sl])
  refine takeN 3 175 rfl ?_
  (try simp only [sl])
  refine takeN 4 176 rfl ?_
  (try simp only [sl])
  refine takeN 5 177 rfl ?_
  (try simp only [sl])
  refine takeN 6 178 rfl ?_
  (try simp only [sl])
  refine takeN 7 179 rfl ?_
  (try simp only [sl])
  refine takeN 8 180 rfl ?_
  (try simp only [sl])
  refine takeN 10 182 rfl ?_
  (try simp only [sl])
  refine takeN 11 183 rfl ?_
  (try simp only [sl])
  refine readyL (i := 9) (by kernel_rfl) rfl (fun K hK => ?_)
  go_simp
  refine (unhide CR).mono ?_
  rintro e w4 ⟨rfl, rfl⟩
  (try dsimp only)
  refine hK.out _ _ (fun _ => hc0) ?_
  clear hK K
  (try simp only [sl])
  have hH4 := hc0; refine takeN 12 184 rfl ?_
  (try simp only [sl])
  refine takeN 13 185 rfl ?_
  (try simp only [sl])
  refine takeN 14 186 rfl ?_
  (try simp only [sl])
  refine takeN 15 187 rfl ?_
  (try simp only [sl])
  refine takeN 17 189 rfl ?_
  (try simp only [sl])
  refine takeN 18 190 rfl ?_
  (try simp only [sl])
  refine readyL (i := 16) (by kernel_rfl) rfl (fun K hK => ?_)
  go_simp
  refine (unhide CW).mono ?_
  rintro e w5 ⟨rfl, rfl⟩
  (try dsimp only)
  refine hK.out _ _ (fun _ => hc0) ?_
  clear hK K
  (try simp only [sl])
  have hH7 := hc0; refine takeN 19 191 rfl ?_
  (try simp only [sl])
  refine takeN 20 192 rfl ?_
  (try simp only [sl])
  refine readyL (i := 21) (by kernel_rfl) rfl (fun K hK => ?_)
  go_simp
  refine hK.out _ _ (fun _ => hS21) ?_
  clear hK K
  (try simp only [sl])
  have hH10 := hS21; refine takeN 22 7 rfl ?_
  (try simp only [sl])
  refine doneL (by kernel_rfl) ?_ _
  refine NoPanic.normal ?_
  go_wp2_with fail
  (try simp only [Exit.inBlock, Exit.then])
  change bodyPost _ _ _ _ _ (set4 w3 (bb + 2) (.slice a1 m1 q1) (.slice a2 m2 q2) (.int .i64 rd') (.int .i64 wr')).drew; have e1 := unhide HE1; generalize (set4 w3 (bb + 2) (.slice a1 m1 q1) (.slice a2 m2 q2) (.int .i64 rd') (.int .i64 wr')).drew = w9 at *; clear HE1 hS21 hc0 d0 d1 d2 d3 df; refine bodyPost_ret (resG rfl _ _ (bb + 2) _ _ _ _ rfl e1) rfl ?_; exact unhide HFIN
end

end Go.Proofs.YtagibmgbjhemkaaGreat
