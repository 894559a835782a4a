/- Calls that came in, as the walks want them. -/
import Derived.Test.YtagibmgbjhemkaaGreatPlay70
import Derived.Test.YtagibmgbjhemkaaGreatPlay75
import Derived.Test.YtagibmgbjhemkaaGreatAtI
import Derived.ProofKit
import Derived.OpenShut
import Derived.SizedLaws
import Derived.Below
import Derived.ChangeOld
import Derived.Deep.Slices
import Derived.Deep.Strs
namespace Go.Proofs.YtagibmgbjhemkaaGreat

section
open Go.RowKit Go.Maps
set_option maxHeartbeats 4000000 in
set_option maxRecDepth 100000 in
theorem play6 [Inhabited EntI] {n : Nat} {w : World} {X : Sto} {g : Gr} {vv ev : Value} {vs : List Int} {es : List EdgeV} (h : Game n X g vv ev vs es w) (hn : n + 1 ≤ 1000) (A B E b : Int) (_hA : okN A) (_hB : okN B) (hb0 : 0 ≤ b) :
    Calls Tryz.prog 30 #[.pointer (some ⟨X.s, 0, none⟩), .agg #[vv, ev, .int .i64 g.rd, .int .i64 g.wr], .agg #[.int .i64 6, .int .i64 A, .int .i64 B, .int .i64 E, .int .u32 b]] w fun e w' => Hid (PlayAns (n + 1) w X e w') := by
  obtain ⟨hP0, hG0⟩ := PM.start h (oOp 6 A B E b); obtain ⟨va, vc, hvv, -⟩ := brow_shape h.vrow; obtain ⟨vn, hvv'⟩ : ∃ vn, vv = .slice va vn vc := ⟨_, hvv⟩; obtain ⟨ea, en, ec, hev⟩ := grow_shape h.erow; clear hvv; subst hvv' hev; obtain ⟨m, c, g', C1⟩ := cRew hP0 hG0 hn hb0; have HP0 := hide hP0; obtain ⟨s, hs⟩ : ∃ s, s = X.s := ⟨_, rfl⟩; obtain ⟨rd, hrd⟩ : ∃ rd, rd = g.rd := ⟨_, rfl⟩; obtain ⟨wr_0, hwr⟩ : ∃ wr_0, wr_0 = g.wr := ⟨_, rfl⟩; obtain ⟨bb, hbb⟩ : ∃ bb, bb = w.heap.size := ⟨_, rfl⟩; obtain ⟨c0, c1, c2, c3, -⟩ := cellsG hP0.b0; obtain ⟨o0, o1, o2, o3, o4⟩ := cellsOp hP0.b1; rw [← hs, ← hrd, ← hwr]; rw [← hbb, ← hrd, ← hwr] at c0 c1 c2 c3 o0 o1 o2 o3 o4; have HBB := hide hbb; have HSS := hide hs; have HRW := hide (And.intro hrd hwr); rw [← hs, ← hrd, ← hwr, ← hbb] at C1; have HC1 := hide C1; clear C1; clear hP0 hG0 h hs hrd hwr hbb hb0 hn
  go_enter Tryz.func30, Tryz.ntmps30
  go_upto_region 1 with fail
  change Code.wp _ _ _ _ (((w.alloc (oG (.slice va vn vc) (.slice ea en ec) rd wr_0)).alloc (oOp 6 A B E b)).alloc oZ); rw [show w.heap.size + 2 = bb + 2 by rw [unhide HBB], show w.heap.size + 1 = bb + 1 by rw [unhide HBB], ← unhide HBB]
  generalize ((w.alloc (oG (.slice va vn vc) (.slice ea en ec) rd wr_0)).alloc (oOp 6 A B E b)).alloc oZ = wb at *
  go_wp2_with fail
  refine (unhide HC1).mono ?_
  rintro e w1 ⟨rfl, ⟨c0', c1', c2', c3'⟩, ⟨o0', o1', o2', o3', o4'⟩, h1⟩
  clear c0 c1 c2 c3 o0 o1 o2 o3 o4 HC1
  go_wp2_with fail
  refine (unhide h1).mono ?_
  rintro e w2 ⟨a1, m1, q1, a2, m2, q2, rfl, ⟨d0, d1, d2, d3, df⟩, HES⟩
  clear c0' c1' c2' c3' o0' o1' o2' o3' o4' h1
  go_upto_region 37 with fail
  change Code.wp _ _ _ _ (set4 w2 bb (.slice a1 m1 q1) (.slice a2 m2 q2) (.int .i64 g'.rd) (.int .i64 g'.wr)); generalize set4 w2 bb (.slice a1 m1 q1) (.slice a2 m2 q2) (.int .i64 g'.rd) (.int .i64 g'.wr) = w3 at *; clear d0 d1 d2 d3 df; have HED := hide ((unhide HES).below (Below.refl w3.heap.size w3).drew); obtain ⟨rd', hrd'⟩ : ∃ rd', rd' = g'.rd := ⟨_, rfl⟩; obtain ⟨wr', hwr'⟩ : ∃ wr', wr' = g'.wr := ⟨_, rfl⟩; have hc0 := (unhide HED).cells; rw [← hrd', ← hwr'] at hc0; have CR := hide (unhide HED).reads; have CW := hide (unhide HED).writes; rw [← unhide HSS, ← hrd'] at CR; rw [← unhide HSS, ← hwr'] at CW; have hres := (unhide HES).res; obtain ⟨d0, d1, d2, d3, df⟩ := cellsG (vv := .slice none 0 0) (ev := .slice none 0 0) (rd := 0) (wr := 0) hres; have hc3 := (unhide HES).cells; rw [← hrd', ← hwr'] at hc3; have HE1 := hide (drewAt (set4G_at hres (.slice a1 m1 q1) (.slice a2 m2 q2) (.int .i64 rd') (.int .i64 wr'))); have hS21 : ((set4 w3 (bb + 2) (.slice a1 m1 q1) (.slice a2 m2 q2) (.int .i64 rd') (.int .i64 wr')).drew.cell? ⟨bb, 0, none⟩ = some (.slice a1 m1 q1) ∧ (set4 w3 (bb + 2) (.slice a1 m1 q1) (.slice a2 m2 q2) (.int .i64 rd') (.int .i64 wr')).drew.cell? ⟨bb, 1, none⟩ = some (.slice a2 m2 q2) ∧ (set4 w3 (bb + 2) (.slice a1 m1 q1) (.slice a2 m2 q2) (.int .i64 rd') (.int .i64 wr')).drew.cell? ⟨bb, 2, none⟩ = some (.int .i64 rd') ∧ (set4 w3 (bb + 2) (.slice a1 m1 q1) (.slice a2 m2 q2) (.int .i64 rd') (.int .i64 wr')).drew.cell? ⟨bb, 3, none⟩ = some (.int .i64 wr')) := box_set4 hc3 (show bb ≠ bb + 2 by omega) (.slice a1 m1 q1) (.slice a2 m2 q2) (.int .i64 rd') (.int .i64 wr')
  have HFIN : Hid (PlayAns (n + 1) w X (.returned (.tuple #[.agg #[.slice a1 m1 q1, .slice a2 m2 q2, .int .i64 rd', .int .i64 wr'], .bool true])) (set4 w3 (bb + 2) (.slice a1 m1 q1) (.slice a2 m2 q2) (.int .i64 rd') (.int .i64 wr')).drew) := by
    obtain ⟨X', vs', es', f1, f2, f3⟩ := (unhide HES).fin (.slice a1 m1 q1) (.slice a2 m2 q2) (.int .i64 rd') (.int .i64 wr'); have hbd := (Below.refl (set4 w3 (bb + 2) (.slice a1 m1 q1) (.slice a2 m2 q2) (.int .i64 rd') (.int .i64 wr')).heap.size (set4 w3 (bb + 2) (.slice a1 m1 q1) (.slice a2 m2 q2) (.int .i64 rd') (.int .i64 wr'))).drew; refine ⟨_, _, _, _, _, _, g', by rw [hrd', hwr'], X', vs', es', f1.below hbd, f2, f3.trans (Foots.below _ hbd)⟩
  unfold set4 at hS21; clear hrd' hwr' HES HED hres hc3; refine wp_region_noPanic ?_; refine regionL [] (fun y => (y.cell? ⟨bb, 0, none⟩ = some (.slice a1 m1 q1) ∧ y.cell? ⟨bb, 1, none⟩ = some (.slice a2 m2 q2) ∧ y.cell? ⟨bb, 2, none⟩ = some (.int .i64 rd') ∧ y.cell? ⟨bb, 3, none⟩ = some (.int .i64 wr'))) (by kernel_rfl) hc0 (fun hHeld => ?_)
  refine takeN 0 172 rfl ?_
  (try simp only [sl])
  refine takeN 1 173 rfl ?_
  (try simp only [sl])
  refine takeN 2 174 rfl ?_
  (try simp only [sl])
  refine takeN 3 175 rfl ?_
  (try simp only [sl])
  refine takeN 4 176 rfl ?_
  (try simp only [sl])
  refine takeN 5 177 rfl ?_
  (try simp only [sl])
  refine takeN 6 178 rfl ?_
  (try simp only [sl])
  refine takeN 7 179 rfl ?_
  (try simp only [sl])
  refine takeN 8 180 rfl ?_
  (try simp only [sl])
  refine takeN 10 182 rfl ?_
  (try simp only [sl])
  refine takeN 11 183 rfl ?_
  (try simp only [sl])
  refine readyL (i := 9) (by kernel_rfl) rfl (fun K hK => ?_)
  go_simp
  refine (unhide CR).mono ?_
  rintro e w4 ⟨rfl, rfl⟩
  (try dsimp only)
  refine hK.out _ _ (fun _ => hc0) ?_
  clear hK K
  (try simp only [sl])
  have hH4 := hc0; refine takeN 12 184 rfl ?_
  (try simp only [sl])
  refine takeN 13 185 rfl ?_
  (try simp only [sl])
  refine takeN 14 186 rfl ?_
  (try simp only [sl])
  refine takeN 15 187 rfl ?_
  (try simp only [sl])
  refine takeN 17 189 rfl ?_
  (try simp only [sl])
  refine takeN 18 190 rfl ?_
  (try simp only [sl])
  refine readyL (i := 16) (by kernel_rfl) rfl (fun K hK => ?_)
  go_simp
  refine (unhide CW).mono ?_
  rintro e w5 ⟨rfl, rfl⟩
  (try dsimp only)
  refine hK.out _ _ (fun _ => hc0) ?_
  clear hK K
  (try simp only [sl])
  have hH7 := hc0; refine takeN 19 191 rfl ?_
  (try simp only [sl])
  refine takeN 20 192 rfl ?_
  (try simp only [sl])
  refine readyL (i := 21) (by kernel_rfl) rfl (fun K hK => ?_)
  go_simp
  refine hK.out _ _ (fun _ => hS21) ?_
  clear hK K
  (try simp only [sl])
  have hH10 := hS21; refine takeN 22 7 rfl ?_
  (try simp only [sl])
  refine doneL (by kernel_rfl) ?_ _
  refine NoPanic.normal ?_
  go_wp2_with fail
  (try simp only [Exit.inBlock, Exit.then])
  change bodyPost _ _ _ _ _ (set4 w3 (bb + 2) (.slice a1 m1 q1) (.slice a2 m2 q2) (.int .i64 rd') (.int .i64 wr')).drew; have e1 := unhide HE1; generalize (set4 w3 (bb + 2) (.slice a1 m1 q1) (.slice a2 m2 q2) (.int .i64 rd') (.int .i64 wr')).drew = w9 at *; clear HE1 hS21 hc0 d0 d1 d2 d3 df; refine bodyPost_ret (resG rfl _ _ (bb + 2) _ _ _ _ rfl e1) rfl ?_; exact unhide HFIN
end

section
open Go.RowKit Go.Maps
set_option maxHeartbeats 4000000 in
set_option maxRecDepth 100000 in
theorem play7 [Inhabited EntI] {n : Nat} {w : World} {X : Sto} {g : Gr} {vv ev : Value} {vs : List Int} {es : List EdgeV} (h : Game n X g vv ev vs es w) (hn : n + 1 ≤ 1000) (A B E b : Int) (_hA : okN A) (_hB : okN B) (_hb0 : 0 ≤ b) :
    Calls Tryz.prog 30 #[.pointer (some ⟨X.s, 0, none⟩), .agg #[vv, ev, .int .i64 g.rd, .int .i64 g.wr], .agg #[.int .i64 7, .int .i64 A, .int .i64 B, .int .i64 E, .int .u32 b]] w fun e w' => Hid (PlayAns (n + 1) w X e w') := by
  obtain ⟨hP0, hG0⟩ := PM.start h (oOp 7 A B E b); obtain ⟨va, vc, hvv, -⟩ := brow_shape h.vrow; obtain ⟨vn, hvv'⟩ : ∃ vn, vv = .slice va vn vc := ⟨_, hvv⟩; obtain ⟨ea, en, ec, hev⟩ := grow_shape h.erow; clear hvv; subst hvv' hev; obtain ⟨p, hp⟩ : ∃ p, p = (((w.alloc (oG (.slice va vn vc) (.slice ea en ec) g.rd g.wr)).alloc (oOp 7 A B E b)).alloc oZ).heap.size := ⟨_, rfl⟩; obtain ⟨x, c, g', C1⟩ := cEdge h hP0 hG0 hn p hp; have hbc := (below_new (((w.alloc (oG (.slice va vn vc) (.slice ea en ec) g.rd g.wr)).alloc (oOp 7 A B E b)).alloc oZ) o34).trans ((below_new ((((w.alloc (oG (.slice va vn vc) (.slice ea en ec) g.rd g.wr)).alloc (oOp 7 A B E b)).alloc oZ).alloc o34) o34).mono (by simp))
  obtain ⟨-, -, -, o3c, -⟩ := cellsOp (hP0.below hbc).b1; have HP0 := hide hP0; obtain ⟨s, hs⟩ : ∃ s, s = X.s := ⟨_, rfl⟩; obtain ⟨rd, hrd⟩ : ∃ rd, rd = g.rd := ⟨_, rfl⟩; obtain ⟨wr_0, hwr⟩ : ∃ wr_0, wr_0 = g.wr := ⟨_, rfl⟩; obtain ⟨bb, hbb⟩ : ∃ bb, bb = w.heap.size := ⟨_, rfl⟩; obtain ⟨c0, c1, c2, c3, -⟩ := cellsG hP0.b0; obtain ⟨o0, o1, o2, o3, o4⟩ := cellsOp hP0.b1; rw [← hs, ← hrd, ← hwr]; rw [← hbb, ← hrd, ← hwr] at c0 c1 c2 c3 o0 o1 o2 o3 o4; have HBB := hide hbb; have HSS := hide hs; have HRW := hide (And.intro hrd hwr); rw [← hs, ← hrd, ← hwr, ← hbb] at C1; rw [← hrd, ← hwr, ← hbb] at o3c; rw [← hrd, ← hwr] at hp; have HC1 := hide C1; have HO3 := hide o3c; have HPP := hide hp; clear C1 o3c hp hbc; clear hP0 hG0 h hs hrd hwr hbb hn
  go_enter Tryz.func30, Tryz.ntmps30
  go_upto_region 1 with fail
  change Code.wp _ _ _ _ (((w.alloc (oG (.slice va vn vc) (.slice ea en ec) rd wr_0)).alloc (oOp 7 A B E b)).alloc oZ); rw [show w.heap.size + 2 = bb + 2 by rw [unhide HBB], show w.heap.size + 1 = bb + 1 by rw [unhide HBB], ← unhide HBB]
  generalize ((w.alloc (oG (.slice va vn vc) (.slice ea en ec) rd wr_0)).alloc (oOp 7 A B E b)).alloc oZ = wb at *
  go_upto_region 34 with fail
  change Code.wp _ _ _ _ ((wb.alloc o34).alloc o34); rw [show wb.heap.size + 1 = p + 1 by rw [unhide HPP], ← unhide HPP]
  clear HPP c0 c1 c2 c3 o0 o1 o2 o3 o4; have o3c := unhide HO3; clear HO3; generalize (wb.alloc o34).alloc o34 = wc at *
  go_wp2_with fail
  refine (unhide HC1).mono ?_
  rintro e w1 ⟨rfl, ⟨z0, z1, z2, z3, zf⟩, ⟨⟨c0', c1', c2', c3'⟩, ⟨o0', o1', o2', o3', o4'⟩, hbp⟩, h1⟩
  clear o3c HC1
  go_upto_region 35 with fail
  change Code.wp _ _ _ _ (set4 w1 p (.int .i64 x.1) (.int .i64 x.2.1) (.int .i64 x.2.2.1) (.int .u32 x.2.2.2)); generalize (set4 w1 p (.int .i64 x.1) (.int .i64 x.2.1) (.int .i64 x.2.2.1) (.int .u32 x.2.2.2)) = w1' at *; clear z0 z1 z2 z3 zf
  go_wp2_with fail
  refine (unhide h1).mono ?_
  rintro e w2 ⟨a1, m1, q1, a2, m2, q2, rfl, ⟨d0, d1, d2, d3, df⟩, ⟨y0, y1, y2, y3, yf⟩, h2⟩
  clear c0' c1' c2' c3' o0' o1' o2' o3' o4' h1; have n1 : ¬ bb = p + 1 := by omega
  have n2 : ¬ p + 1 = bb := by omega
  go_upto_region 36 with fail
  change Code.wp _ _ _ _ (set4 (set4 w2 bb (.slice a1 m1 q1) (.slice a2 m2 q2) (.int .i64 g'.rd) (.int .i64 g'.wr)) (p + 1) (.int .i64 x.1) (.int .i64 x.2.1) (.int .i64 x.2.2.1) (.int .u32 x.2.2.2)); generalize (set4 (set4 w2 bb (.slice a1 m1 q1) (.slice a2 m2 q2) (.int .i64 g'.rd) (.int .i64 g'.wr)) (p + 1) (.int .i64 x.1) (.int .i64 x.2.1) (.int .i64 x.2.2.1) (.int .u32 x.2.2.2)) = w3 at *; clear d0 d1 d2 d3 df y0 y1 y2 y3 yf n1 n2 hbp; have HES := hide (unhide h2).1; obtain ⟨-, ⟨x0, x1, x2, x3⟩, ⟨y0, y1, y2, y3⟩⟩ := unhide h2; clear h2; have hq : ∀ W : World, (Op.equalIn 10000 64 (.agg #[.int .i64 x.1, .int .i64 x.2.1, .int .i64 x.2.2.1, .int .u32 x.2.2.2]) (.agg #[.int .i64 x.1, .int .i64 x.2.1, .int .i64 x.2.2.1, .int .u32 x.2.2.2])).run Tryz.prog W = .ok true W := fun W => by rw [eqE x x W, decide_eq_true rfl]
  go_upto_region 37 with fail
  clear x0 x1 x2 x3 y0 y1 y2 y3 hq; have HED := hide ((unhide HES).below (Below.refl w3.heap.size w3).drew); obtain ⟨rd', hrd'⟩ : ∃ rd', rd' = g'.rd := ⟨_, rfl⟩; obtain ⟨wr', hwr'⟩ : ∃ wr', wr' = g'.wr := ⟨_, rfl⟩; have hc0 := (unhide HED).cells; rw [← hrd', ← hwr'] at hc0; have CR := hide (unhide HED).reads; have CW := hide (unhide HED).writes; rw [← unhide HSS, ← hrd'] at CR; rw [← unhide HSS, ← hwr'] at CW; have hres := (unhide HES).res; obtain ⟨d0, d1, d2, d3, df⟩ := cellsG (vv := .slice none 0 0) (ev := .slice none 0 0) (rd := 0) (wr := 0) hres; have hc3 := (unhide HES).cells; rw [← hrd', ← hwr'] at hc3; have HE1 := hide (drewAt (set4G_at hres (.slice a1 m1 q1) (.slice a2 m2 q2) (.int .i64 rd') (.int .i64 wr'))); have hS21 : ((set4 w3 (bb + 2) (.slice a1 m1 q1) (.slice a2 m2 q2) (.int .i64 rd') (.int .i64 wr')).drew.cell? ⟨bb, 0, none⟩ = some (.slice a1 m1 q1) ∧ (set4 w3 (bb + 2) (.slice a1 m1 q1) (.slice a2 m2 q2) (.int .i64 rd') (.int .i64 wr')).drew.cell? ⟨bb, 1, none⟩ = some (.slice a2 m2 q2) ∧ (set4 w3 (bb + 2) (.slice a1 m1 q1) (.slice a2 m2 q2) (.int .i64 rd') (.int .i64 wr')).drew.cell? ⟨bb, 2, none⟩ = some (.int .i64 rd') ∧ (set4 w3 (bb + 2) (.slice a1 m1 q1) (.slice a2 m2 q2) (.int .i64 rd') (.int .i64 wr')).drew.cell? ⟨bb, 3, none⟩ = some (.int .i64 wr')) := box_set4 hc3 (show bb ≠ bb + 2 by omega) (.slice a1 m1 q1) (.slice a2 m2 q2) (.int .i64 rd') (.int .i64 wr')
  have HFIN : Hid (PlayAns (n + 1) w X (.returned (.tuple #[.agg #[.slice a1 m1 q1, .slice a2 m2 q2, .int .i64 rd', .int .i64 wr'], .bool true])) (set4 w3 (bb + 2) (.slice a1 m1 q1) (.slice a2 m2 q2) (.int .i64 rd') (.int .i64 wr')).drew) := by
    obtain ⟨X', vs', es', f1, f2, f3⟩ := (unhide HES).fin (.slice a1 m1 q1) (.slice a2 m2 q2) (.int .i64 rd') (.int .i64 wr'); have hbd := (Below.refl (set4 w3 (bb + 2) (.slice a1 m1 q1) (.slice a2 m2 q2) (.int .i64 rd') (.int .i64 wr')).heap.size (set4 w3 (bb + 2) (.slice a1 m1 q1) (.slice a2 m2 q2) (.int .i64 rd') (.int .i64 wr'))).drew; refine ⟨_, _, _, _, _, _, g', by rw [hrd', hwr'], X', vs', es', f1.below hbd, f2, f3.trans (Foots.below _ hbd)⟩
  unfold set4 at hS21; clear hrd' hwr' HES HED hres hc3; refine wp_region_noPanic ?_; refine regionL [] (fun y => (y.cell? ⟨bb, 0, none⟩ = some (.slice a1 m1 q1) ∧ y.cell? ⟨bb, 1, none⟩ = some (.slice a2 m2 q2) ∧ y.cell? ⟨bb, 2, none⟩ = some (.int .i64 rd') ∧ y.cell? ⟨bb, 3, none⟩ = some (.int .i64 wr'))) (by kernel_rfl) hc0 (fun hHeld => ?_)
  refine takeN 0 172 rfl ?_
  (try simp only [sl])
  refine takeN 1 173 rfl ?_
  (try simp only [sl])
  refine takeN 2 174 rfl ?_
  (try simp only [sl])
  refine takeN 3 175 rfl ?_
  (try simp only [sl])
  refine takeN 4 176 rfl ?_
  (try simp only [sl])
  refine takeN 5 177 rfl ?_
  (try simp only [sl])
  refine takeN 6 178 rfl ?_
  (try simp only [sl])
  refine takeN 7 179 rfl ?_
  (try simp only [sl])
  refine takeN 8 180 rfl ?_
  (try simp only [sl])
  refine takeN 10 182 rfl ?_
  (try simp only [sl])
  refine takeN 11 183 rfl ?_
  (try simp only [sl])
  refine readyL (i := 9) (by kernel_rfl) rfl (fun K hK => ?_)
  go_simp
  refine (unhide CR).mono ?_
  rintro e w4 ⟨rfl, rfl⟩
  (try dsimp only)
  refine hK.out _ _ (fun _ => hc0) ?_
  clear hK K
  (try simp only [sl])
  have hH4 := hc0; refine takeN 12 184 rfl ?_
  (try simp only [sl])
  refine takeN 13 185 rfl ?_
  (try simp only [sl])
  refine takeN 14 186 rfl ?_
  (try simp only [sl])
  refine takeN 15 187 rfl ?_
  (try simp only [sl])
  refine takeN 17 189 rfl ?_
  (try simp only [sl])
  refine takeN 18 190 rfl ?_
  (try simp only [sl])
  refine readyL (i := 16) (by kernel_rfl) rfl (fun K hK => ?_)
  go_simp
  refine (unhide CW).mono ?_
  rintro e w5 ⟨rfl, rfl⟩
  (try dsimp only)
  refine hK.out _ _ (fun _ => hc0) ?_
  clear hK K
  (try simp only [sl])
  have hH7 := hc0; refine takeN 19 191 rfl ?_
  (try simp only [sl])
  refine takeN 20 192 rfl ?_
  (try simp only [sl])
  refine readyL (i := 21) (by kernel_rfl) rfl (fun K hK => ?_)
  go_simp
  refine hK.out _ _ (fun _ => hS21) ?_
  clear hK K
  (try simp only [sl])
  have hH10 := hS21; refine takeN 22 7 rfl ?_
  (try simp only [sl])
  refine doneL (by kernel_rfl) ?_ _
  refine NoPanic.normal ?_
  go_wp2_with fail
  (try simp only [Exit.inBlock, Exit.then])
  change bodyPost _ _ _ _ _ (set4 w3 (bb + 2) (.slice a1 m1 q1) (.slice a2 m2 q2) (.int .i64 rd') (.int .i64 wr')).drew; have e1 := unhide HE1; generalize (set4 w3 (bb + 2) (.slice a1 m1 q1) (.slice a2 m2 q2) (.int .i64 rd') (.int .i64 wr')).drew = w9 at *; clear HE1 hS21 hc0 d0 d1 d2 d3 df; refine bodyPost_ret (resG rfl _ _ (bb + 2) _ _ _ _ rfl e1) rfl ?_; exact unhide HFIN
end

section
theorem own : ownKnob Tryz.prog.godebug = none := by kernel_rfl
theorem laidOut : laidOutB Tryz.prog = true := by kernel_rfl
end

section
open Go.ChangeShapes Go.WideShapes Go.ChangeAt Go.RowKit
theorem bytes75 : Tryz.prog.bytesOf 75 = 40 := by kernel_rfl
theorem cellsOf75 : Tryz.prog.cellsOf 75 = 5 := by kernel_rfl
theorem cellsOf3 : Tryz.prog.cellsOf 3 = 1 := by kernel_rfl
theorem cellsOf33 : Tryz.prog.cellsOf 33 = 1 := by kernel_rfl
theorem addr_none {w : World} {x : Addr} {k : Nat} {v : Value} (h : w.cell? (x.add (0 * k)) = some v) : x.spot = none := by
  have := World.cell?_spot h; simpa [Addr.add] using this
theorem add_off (b off j : Nat) : (⟨b, off, none⟩ : Addr).add j = ⟨b, off + j, none⟩ := by
  unfold Addr.add; split <;> simp_all
theorem trod_struct5 {H : Type} {enc : TypeId × Value → H} {P : Program} {w : World} {base : Nat} {spare : Nat → Bool} {held : Bool} {t : TypeId} {f0 f1 f2 f3 f4 : Field} {fuel : Nat} {cs : List Value} {x : DataW H × List MemPlace} (ht : P.underlying t = some (.struct #[f0, f1, f2, f3, f4])) (h : DataW.trod enc P w base spare held fuel t cs = some x) :
    ∃ y0 y1 y2 y3 y4 n, DataW.trod enc P w base spare held n f0.type ((cs.drop f0.offset).take (P.cellsOf f0.type)) = some y0 ∧
      DataW.trod enc P w base spare held n f1.type ((cs.drop f1.offset).take (P.cellsOf f1.type)) = some y1 ∧ DataW.trod enc P w base spare held n f2.type ((cs.drop f2.offset).take (P.cellsOf f2.type)) = some y2 ∧
      DataW.trod enc P w base spare held n f3.type ((cs.drop f3.offset).take (P.cellsOf f3.type)) = some y3 ∧ DataW.trod enc P w base spare held n f4.type ((cs.drop f4.offset).take (P.cellsOf f4.type)) = some y4 := by
  obtain ⟨xs, n, _, rfl, hl, hlen, hf⟩ := DataW.trod_struct ht h
  match xs, hlen with
  | [y0, y1, y2, y3, y4], _ => exact ⟨y0, y1, y2, y3, y4, n, by simpa using hf 0 f0 rfl, by simpa using hf 1 f1 rfl, by simpa using hf 2 f2 rfl, by simpa using hf 3 f3 rfl, by simpa using hf 4 f4 rfl⟩
abbrev OpV := Int × Int × Int × Int × Int
def okOp (o : OpV) : Prop := (Lit.int .i64 o.1).wf = true ∧ (Lit.int .i64 o.2.1).wf = true ∧ (Lit.int .i64 o.2.2.1).wf = true ∧ (Lit.int .i64 o.2.2.2.1).wf = true ∧ (Lit.int .u32 o.2.2.2.2).wf = true
def OpAt (w : World) (b off : Nat) (o : OpV) : Prop := w.cell? ⟨b, off, none⟩ = some (.int .i64 o.1) ∧ w.cell? ⟨b, off + 1, none⟩ = some (.int .i64 o.2.1) ∧ w.cell? ⟨b, off + 2, none⟩ = some (.int .i64 o.2.2.1) ∧ w.cell? ⟨b, off + 3, none⟩ = some (.int .i64 o.2.2.2.1) ∧ w.cell? ⟨b, off + 4, none⟩ = some (.int .u32 o.2.2.2.2)
def IsOps (w : World) (a : Option Addr) (len : Nat) (o : Nat → OpV) : Prop :=
  len = 0 ∨ ∃ b off, a = some ⟨b, off, none⟩ ∧ 0 < len ∧ ∀ i, i < len → OpAt w b (off + i * 5) (o i) ∧ okOp (o i)
theorem open_ops {H : Type} {enc : TypeId × Value → H} {W : World} {spare : Nat → Bool} {held : Bool} {a : Option Addr} {len cap : Nat} {d : DataW H} {p : List MemPlace}
    (h : DataW.Trod enc Tryz.prog W 0 spare held 22 (.slice a len cap) d p) : ∃ o, IsOps W a len o ∧ (d = .nil ∧ len = 0 ∨ ∃ es sp, d = .slice es sp ∧ len ≤ es.length) := by
  obtain ⟨fuel, hf⟩ := h; rcases Deep.open_slice Tryz.underlying22 hf with ⟨hcs, hx⟩ | ⟨x, l, c, m, n, D, Pl, hcs, -, hl, hm, hmm, hx, hel⟩
  · simp [Value.cells] at hcs; obtain ⟨rfl, rfl, rfl⟩ := hcs; simp only [Prod.mk.injEq] at hx; exact ⟨fun _ => (0, 0, 0, 0, 0), .inl rfl, .inl ⟨hx.1, rfl⟩⟩
  · simp [Value.cells] at hcs; obtain ⟨rfl, rfl, rfl⟩ := hcs; simp only [Prod.mk.injEq] at hx; have hlm : len ≤ m := by rw [hmm]; split <;> omega
    rw [cellsOf75] at hel; obtain ⟨o, ho⟩ := Deep.choose_lt (α := OpV) (n := len) (p := fun i o => (W.cell? (x.add (i * 5)) = some (.int .i64 o.1) ∧ W.cell? ((x.add (i * 5)).add 1) = some (.int .i64 o.2.1) ∧
        W.cell? ((x.add (i * 5)).add 2) = some (.int .i64 o.2.2.1) ∧ W.cell? ((x.add (i * 5)).add 3) = some (.int .i64 o.2.2.2.1) ∧ W.cell? ((x.add (i * 5)).add 4) = some (.int .u32 o.2.2.2.2)) ∧ okOp o) (fun i hi => by
      obtain ⟨cs', h1, h2⟩ := hel i (by omega)
      obtain ⟨-, hlen, hc⟩ := World.cells?_some h1
      match cs', hlen with
      | [c0, c1, c2, c3, c4], _ =>
        obtain ⟨y0, y1, y2, y3, y4, q, e0, e1, e2, e3, e4⟩ := trod_struct5 Tryz.underlying75 h2; simp only [cellsOf3, cellsOf33, List.drop, List.take] at e0 e1 e2 e3 e4; obtain ⟨k0, f0, -, w0⟩ := DataW.trod_int Tryz.underlying3 e0; obtain ⟨k1, f1, -, w1⟩ := DataW.trod_int Tryz.underlying3 e1; obtain ⟨k2, f2, -, w2⟩ := DataW.trod_int Tryz.underlying3 e2; obtain ⟨k3, f3, -, w3⟩ := DataW.trod_int Tryz.underlying3 e3; obtain ⟨k4, f4, -, w4⟩ := DataW.trod_int Tryz.underlying33 e4; simp only [List.cons.injEq, and_true] at f0 f1 f2 f3 f4; subst f0 f1 f2 f3 f4; refine ⟨(k0, k1, k2, k3, k4), ⟨?_, ?_, ?_, ?_, ?_⟩, w0, w1, w2, w3, w4⟩
        · have := hc 0 (by omega); simpa [Addr.add] using this
        · have := hc 1 (by omega); simpa using this
        · have := hc 2 (by omega); simpa using this
        · have := hc 3 (by omega); simpa using this
        · have := hc 4 (by omega); simpa using this)
    refine ⟨o, ?_, .inr ⟨_, _, hx.1, by simp⟩⟩
    rcases Nat.eq_zero_or_pos len with h0 | h0
    · exact .inl h0
    · obtain ⟨b, off, spot⟩ := x; obtain rfl : spot = none := addr_none (ho 0 h0).1.1; refine .inr ⟨b, off, rfl, h0, fun i hi => ?_⟩
      have := ho i hi; simp only [add_off] at this; exact this
end

end Go.Proofs.YtagibmgbjhemkaaGreat
