/- The reference's AddEdge where it does it. -/
import Derived.Test.YtagibmgbjhemkaaGreatRefPut
import Derived.Test.YtagibmgbjhemkaaGreatRefAddF
namespace Go.Proofs.YtagibmgbjhemkaaGreat
open Go.RowKit Go.Maps

theorem nrow_ne {w : World} {v : Value} {ks : List Int} {b : Nat} {vv ev : Value} {rd wr : Int} (h : NRow w v ks) (hb : w.heap[b]? = some (oG vv ev rd wr)) : v.ownBlock ≠ some b := fun e => by
  rcases h.2 with ⟨rfl, -⟩ | ⟨g, cap, cur, rfl, -, hg, -⟩
  · cases e
  · have : g = b := by simpa [Value.ownBlock] using e
    subst this
    rw [hg] at hb
    have := Option.some.inj hb
    unfold oG at this
    injection this with h1 h2 h3
    exact absurd h2 (by decide)
theorem grow_ne {B : Nat} {w : World} {v : Value} {ks : List EdgeV} {b : Nat} {vv ev : Value} {rd wr : Int} (h : GRow B w v ks) (hb : w.heap[b]? = some (oG vv ev rd wr)) : v.ownBlock ≠ some b := fun e => by
  rcases h.2 with ⟨rfl, -⟩ | ⟨g, cap, cur, rfl, -, hg, -⟩
  · cases e
  · have : g = b := by simpa [Value.ownBlock] using e
    subst this
    rw [hg] at hb
    have := Option.some.inj hb
    unfold oG at this
    injection this with h1 h2 h3
    exact absurd h2 (by decide)
theorem addE_fin {w w6 : World} {bb b1 : Nat} {vv ev v1 v2 : Value} {rd wr_0 : Int} {vs : List Int} {fs : List EdgeV} (hbe : bb < b1) (k1 : w6.heap[bb]? = some (oG vv ev rd wr_0)) (k2 : w6.heap[b1]? = some oZ) (k3 : Below bb w w6) (r1 : NRow w6 v1 vs) (r2 : GRow 0 w6 v2 fs) (c d : Value) :
    (set4 w6 bb v1 v2 c d).heap[bb]? = some (.cells #[v1, v2, c, d] 28 (0, 0)) ∧ (set4 w6 bb v1 v2 c d).heap[b1]? = some oZ ∧ ∀ x0 x1 x2 x3, NRow (set4 (set4 w6 bb v1 v2 c d) b1 x0 x1 x2 x3) v1 vs ∧ GRow 0 (set4 (set4 w6 bb v1 v2 c d) b1 x0 x1 x2 x3) v2 fs ∧ Below bb w (set4 (set4 w6 bb v1 v2 c d) b1 x0 x1 x2 x3) := by
  have e1 := nrow_ne r1 k1
  have e2 := nrow_ne r1 (b := b1) (vv := .slice none 0 0) (ev := .slice none 0 0) (rd := 0) (wr := 0) k2
  have e3 := grow_ne r2 k1
  have e4 := grow_ne r2 (b := b1) (vv := .slice none 0 0) (ev := .slice none 0 0) (rd := 0) (wr := 0) k2
  refine ⟨set4G_at k1 _ _ _ _, (set4_other (by omega) _ _ _ _).trans k2, fun x0 x1 x2 x3 => ⟨nrow_kept r1 (fun b hb => ?_), grow_kept r2 (fun b hb => ?_), set4_below (set4_below k3 (Nat.le_refl _) _ _ _ _) (by omega) _ _ _ _⟩⟩
  · exact (set4_other (fun e => e2 (by rw [← e]; exact hb)) _ _ _ _).trans (set4_other (fun e => e1 (by rw [← e]; exact hb)) _ _ _ _)
  · exact (set4_other (fun e => e4 (by rw [← e]; exact hb)) _ _ _ _).trans (set4_other (fun e => e3 (by rw [← e]; exact hb)) _ _ _ _)

set_option maxHeartbeats 2000000 in
set_option maxRecDepth 100000 in
theorem refAddE {w : World} {vv ev : Value} {rd wr_0 : Int} {vs : List Int} {es : List EdgeV} (u v n : Int) (h : NRow w vv vs) (hE : GRow 0 w ev es) (hlv : vs.length ≤ 1000000) (hl : es.length ≤ 100000) (hr0 : 0 ≤ wr_0) (hr1 : wr_0 ≤ 1000000000) (hu : u ∈ vs) (hv : v ∈ vs) {b : Int} (hk : kept n = some b) (ht : ∃ i : Nat, i < 1024 ∧ ¬ HasNo es ((i : Int) + 1)) :
    Calls Tryz.prog 68 #[.agg #[vv, ev, .int .i64 rd, .int .i64 wr_0], .int .i64 u, .int .i64 v, .int .u32 n] w fun e w' => Hid (AnsAdd w vv ev vs es u v b rd wr_0 e w') := by
  have HF : Hid (∀ W, Below w.heap.size w W → NRow W vv vs ∧ GRow 0 W ev es) := fun W hW => ⟨nrow_below h hW, grow_below hE hW⟩
  have CH : Hid (∀ W, AFit w vv ev rd wr_0 W → ∀ k, Calls Tryz.prog 19 #[.agg #[vv, ev, .int .i64 rd, .int .i64 wr_0], .int .i64 k] W fun e w' => e = .returned (.bool (decide (k ∈ vs))) ∧ Hid (AFit w vv ev rd wr_0 w')) := fun W hW k => by
    refine (refHas k (nrow_below h hW.2.2.1) hlv).mono ?_
    rintro e w' ⟨rfl, g⟩
    exact ⟨rfl, hW.step g⟩
  have CA : Hid (∀ n W, Calls Tryz.prog 99 #[.int .u32 n] W fun e w' => e = .returned (ansK (kept n)) ∧ w' = W) := fun n W => refAdmit n W
  obtain ⟨va, vc, hvv, -⟩ := brow_shape h
  obtain ⟨vn, hvv'⟩ : ∃ vn, vv = .slice va vn vc := ⟨_, hvv⟩
  obtain ⟨ea, en, ec, hev⟩ := grow_shape hE
  have CT : Hid (∀ W, AFit w vv ev rd wr_0 W → Calls Tryz.prog 58 #[.agg #[vv, ev, .int .i64 rd, .int .i64 wr_0]] W fun e w' => ∃ r, e = .returned (.int .i64 r) ∧ Hid (RFree es r ∧ AFit w vv ev rd wr_0 w')) := fun W hW => by
    refine (refFree (grow_below hE hW.2.2.1) (by omega) ⟨_, _, _, hvv'⟩).mono ?_
    rintro e w' ⟨r, rfl, g⟩
    exact ⟨r, rfl, (unhide g).1, hW.step (unhide g).2⟩
  have CP : Hid (∀ W (j : Nat), AFit w vv ev rd wr_0 W → j < 1024 → ¬ HasNo es ((j : Int) + 1) → Calls Tryz.prog 69 #[.agg #[vv, ev, .int .i64 rd, .int .i64 wr_0], .agg #[.int .i64 ((j : Int) + 1), .int .i64 u, .int .i64 v, .int .u32 n]] W fun e w' => ∃ (a1 a2 : Option Addr) (n1 n2 m1 m2 : Nat), e = .returned (.tuple #[.agg #[.slice a1 n1 m1, .slice a2 n2 m2, .int .i64 rd, .int .i64 (wr_0 + 1)], .int .i64 0]) ∧ Hid (∃ i, Puts es ((j : Int) + 1) i ∧ NRow w' (.slice a1 n1 m1) vs ∧ GRow 0 w' (.slice a2 n2 m2) (es.take i ++ [((j : Int) + 1, u, v, b)] ++ es.drop i) ∧ AFit w vv ev rd wr_0 w' ∧ Apt w vv (.slice a1 n1 m1) ∧ Apt w ev (.slice a2 n2 m2))) := fun W j hW hj hno => by
    refine (refPutE (((j : Int) + 1, u, v, n) : EdgeV) (nrow_below h hW.2.2.1) (grow_below hE hW.2.2.1) hlv hl hr0 hr1 (by show ¬ (j : Int) + 1 < 1; omega) (by show ¬ 1024 < (j : Int) + 1; omega) hu hv hk hno).mono ?_
    rintro e w' hh
    obtain ⟨i, p1, v1, v2, rfl, g1, g2, g3, g4, g5⟩ := unhide hh
    have hws := hW.2.2.1.size
    obtain ⟨a1, m1, e1, -⟩ := brow_shape g1
    obtain ⟨a2, n2, m2, e2⟩ := grow_shape g2
    subst e1 e2
    exact ⟨a1, a2, _, n2, m1, m2, rfl, i, p1, g1, g2, hW.step g3, fun b hb => (g4 b hb).imp id (fun e => by omega), fun b hb => (g5 b hb).imp id (fun e => by omega)⟩
  have HP := hide (afit_new w vv ev rd wr_0)
  clear h hE hvv hl hlv hr0 hr1
  subst hvv' hev
  go_enter Tryz.func68, Tryz.ntmps68
  go_upto_region 1 with fail
  change Code.wp _ _ _ _ ((w.alloc (oG (.slice va vn vc) (.slice ea en ec) rd wr_0)).alloc oZ)
  generalize (w.alloc (oG (.slice va vn vc) (.slice ea en ec) rd wr_0)).alloc oZ = wb at *
  have n1 : ¬ w.heap.size = w.heap.size + 1 := by omega
  have n2 : ¬ w.heap.size + 1 = w.heap.size := by omega
  have HT := hide ht
  clear ht
  have HCwb := unhide HP
  obtain ⟨c0, c1, c2, c3, cf⟩ := cellsG HCwb.1
  obtain ⟨d0, d1, d2, d3, df⟩ := cellsG (vv := .slice none 0 0) (ev := .slice none 0 0) (rd := 0) (wr := 0) HCwb.2.1
  clear HCwb
  go_wp2_with fail
  refine (unhide CH _ (unhide HP) _).mono ?_
  rintro e w2 ⟨rfl, H2⟩
  rw [decide_eq_true hu]
  clear c0 c1 c2 c3 cf d0 d1 d2 d3 df
  have HCw2 := unhide H2
  obtain ⟨c0, c1, c2, c3, cf⟩ := cellsG HCw2.1
  obtain ⟨d0, d1, d2, d3, df⟩ := cellsG (vv := .slice none 0 0) (ev := .slice none 0 0) (rd := 0) (wr := 0) HCw2.2.1
  clear HCw2
  go_wp2_with fail
  refine (unhide CH _ (unhide H2) _).mono ?_
  rintro e w3 ⟨rfl, H3⟩
  rw [decide_eq_true hv]
  clear c0 c1 c2 c3 cf d0 d1 d2 d3 df
  have HCw3 := unhide H3
  obtain ⟨c0, c1, c2, c3, cf⟩ := cellsG HCw3.1
  obtain ⟨d0, d1, d2, d3, df⟩ := cellsG (vv := .slice none 0 0) (ev := .slice none 0 0) (rd := 0) (wr := 0) HCw3.2.1
  clear HCw3
  go_wp2_with fail
  refine (unhide CA _ _).mono ?_
  rintro e w4 ⟨rfl, rfl⟩
  rw [hk]
  unfold ansK
  go_wp2_with fail
  refine (unhide CT _ (unhide H3)).mono ?_
  rintro e w5 ⟨r, rfl, H5'⟩
  obtain ⟨j, hj, rfl, hj1, hj2⟩ : ∃ j : Nat, j < 1024 ∧ r = (j : Int) + 1 ∧ (∀ k : Nat, k < j → HasNo es ((k : Int) + 1)) ∧ ¬ HasNo es ((j : Int) + 1) := by
    rcases (unhide H5').1 with h | ⟨-, h⟩
    · exact h
    · obtain ⟨i, hi, hn⟩ := unhide HT
      exact absurd (h i hi) hn
  have HJ := hide (And.intro hj (And.intro hj1 hj2))
  have hj0 : ¬ (j : Int) + 1 = 0 := by omega
  clear hj1
  have H5 := hide (unhide H5').2
  clear H5'
  clear c0 c1 c2 c3 cf d0 d1 d2 d3 df
  have HCw5 := unhide H5
  obtain ⟨c0, c1, c2, c3, cf⟩ := cellsG HCw5.1
  clear HCw5
  have CP5 := hide (unhide CP _ j (unhide H5) hj hj2)
  clear hj hj2 CP CT CH CA
  go_wp2_with fail
  refine (unhide CP5).mono ?_
  rintro e w6 ⟨a1, a2, m1, m2, q1, q2, rfl, H6⟩
  clear c0 c1 c2 c3 cf CP5
  obtain ⟨i, hP, r1, r2, r3, r4⟩ := unhide H6
  have HAP := hide r4
  have HPU := hide hP
  obtain ⟨b1, hb1⟩ : ∃ b1, b1 = w.heap.size + 1 := ⟨_, rfl⟩
  obtain ⟨bb, hbb⟩ : ∃ bb, bb = w.heap.size := ⟨_, rfl⟩
  have HEND := hide (addE_fin (bb := bb) (b1 := b1) (by omega) (by rw [hbb]; exact r3.1) (by rw [hb1]; exact r3.2.1) (by rw [hbb]; exact r3.2.2.1) r1 r2 (.int .i64 rd) (.int .i64 (wr_0 + 1)))
  rw [← hb1, ← hbb]
  have n3 : ¬ bb = b1 := by omega
  have n4 : ¬ b1 = bb := by omega
  have cc : w6.cell? ⟨bb, 0, none⟩ = some (.slice va vn vc) ∧ w6.cell? ⟨bb, 1, none⟩ = some (.slice ea en ec) ∧ w6.cell? ⟨bb, 2, none⟩ = some (.int .i64 rd) ∧ w6.cell? ⟨bb, 3, none⟩ = some (.int .i64 wr_0) ∧ ∀ o, w6.frozen? ⟨bb, o, none⟩ = false := cellsG (by rw [hbb]; exact r3.1)
  obtain ⟨c0, c1, c2, c3, cf⟩ := cc
  have HBB := hide hbb
  clear r1 r2 r3 r4 hP H6 hbb hb1 n1 n2
  go_upto_region 10 with fail
  change Code.wp _ _ _ _ (set4 w6 bb _ _ _ _)
  obtain ⟨s1, s2, s3⟩ := unhide HEND
  have HT1 := hide s2
  have HS3 := hide s3
  clear c0 c1 c2 c3 cf HEND s3
  generalize set4 w6 bb (.slice a1 m1 q1) (.slice a2 m2 q2) (.int .i64 rd) (.int .i64 (wr_0 + 1)) = w7 at *
  obtain ⟨c0, c1, c2, c3, cf⟩ := cellsG (vv := .slice a1 m1 q1) (ev := .slice a2 m2 q2) (rd := rd) (wr := wr_0 + 1) s1
  obtain ⟨d0, d1, d2, d3, df⟩ := cellsG (vv := .slice none 0 0) (ev := .slice none 0 0) (rd := 0) (wr := 0) s2
  clear s1 s2
  go_wp2_with fail
  (try simp only [Exit.inBlock, Exit.then])
  change bodyPost _ _ _ _ _ (set4 w7 b1 _ _ _ _)
  refine bodyPost_ret (results_cell_tmp_tmp rfl _ _ _ ⟨b1, 0, none⟩ _ rfl (loadG _ _ _ _ _ _ (set4G_at (unhide HT1) _ _ _ _))) rfl ?_
  obtain ⟨z1, z2, z3⟩ := unhide HS3 (.slice a1 m1 q1) (.slice a2 m2 q2) (.int .i64 rd) (.int .i64 (wr_0 + 1))
  exact ⟨j, i, unhide HJ, unhide HPU, _, _, rfl, z1, z2, by rw [← unhide HBB]; exact z3, (unhide HAP).1, (unhide HAP).2⟩
end Go.Proofs.YtagibmgbjhemkaaGreat
