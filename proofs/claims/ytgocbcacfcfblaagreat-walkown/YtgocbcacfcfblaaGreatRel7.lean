/- The store's picture against the reference's graph: plain mathematics. -/
import Derived.Test.YtgocbcacfcfblaaGreatRefPut
import Derived.Test.YtgocbcacfcfblaaGreatStSet
namespace Go.Proofs.YtgocbcacfcfblaaGreat

section
open Go.RowKit Go.Maps
/-- AddEdge's two boxes. -/
def AFit (w : World) (vv ev : Value) (rd wr_0 : Int) (W : World) : Prop :=
  W.heap[w.heap.size]? = some (oG vv ev rd wr_0) ∧ W.heap[w.heap.size + 1]? = some oZ ∧ Below w.heap.size w W ∧ w.heap.size + 2 ≤ W.heap.size
theorem AFit.step {w W W' : World} {vv ev : Value} {rd wr_0 : Int} (h : AFit w vv ev rd wr_0 W) (hb : Below W.heap.size W W') : AFit w vv ev rd wr_0 W' := by
  obtain ⟨h1, h2, h4, h5⟩ := h
  have := hb.size
  exact ⟨(hb.block _ (by omega)).trans h1, (hb.block _ (by omega)).trans h2, h4.trans (hb.mono (by omega)), by omega⟩
theorem afit_new (w : World) (vv ev : Value) (rd wr_0 : Int) : AFit w vv ev rd wr_0 ((w.alloc (oG vv ev rd wr_0)).alloc oZ) := by
  obtain ⟨h1, h2, h3, h4⟩ := two_boxes w (oG vv ev rd wr_0)
  exact ⟨h1, h2, h3, by omega⟩
/-- What a call of the reference answers: a graph, a number, a code. -/
def AnsGI (w : World) (vv0 ev0 : Value) (vs : List Int) (es : List EdgeV) (rd wr n code : Int) (e : Ending) (w' : World) : Prop :=
  ∃ vv ev, e = .returned (.tuple #[.agg #[vv, ev, .int .i64 rd, .int .i64 wr], .int .i64 n, .int .i64 code]) ∧ NRow w' vv vs ∧ GRow 0 w' ev es ∧ Below w.heap.size w w' ∧ Apt w vv0 vv ∧ Apt w ev0 ev
end

section
open Go.RowKit Go.Maps
theorem nrow_ne {w : World} {v : Value} {ks : List Int} {b : Nat} {vv ev : Value} {rd wr : Int} (h : NRow w v ks) (hb : w.heap[b]? = some (oG vv ev rd wr)) : v.ownBlock ≠ some b := fun e => by
  rcases h.2 with ⟨rfl, -⟩ | ⟨g, cap, cur, rfl, -, hg, -⟩
  · cases e
  · have : g = b := by simpa [Value.ownBlock] using e
    subst this
    rw [hg] at hb
    have := Option.some.inj hb
    unfold oG at this
    injection this with h1 h2 h3
    exact absurd h2 (by decide)
theorem grow_ne {B : Nat} {w : World} {v : Value} {ks : List EdgeV} {b : Nat} {vv ev : Value} {rd wr : Int} (h : GRow B w v ks) (hb : w.heap[b]? = some (oG vv ev rd wr)) : v.ownBlock ≠ some b := fun e => by
  rcases h.2 with ⟨rfl, -⟩ | ⟨g, cap, cur, rfl, -, hg, -⟩
  · cases e
  · have : g = b := by simpa [Value.ownBlock] using e
    subst this
    rw [hg] at hb
    have := Option.some.inj hb
    unfold oG at this
    injection this with h1 h2 h3
    exact absurd h2 (by decide)
theorem addE_fin {w w6 : World} {bb b1 : Nat} {vv ev v1 v2 : Value} {rd wr_0 : Int} {vs : List Int} {fs : List EdgeV} (hbe : bb < b1) (k1 : w6.heap[bb]? = some (oG vv ev rd wr_0)) (k2 : w6.heap[b1]? = some oZ) (k3 : Below bb w w6) (r1 : NRow w6 v1 vs) (r2 : GRow 0 w6 v2 fs) (c d : Value) :
    (set4 w6 bb v1 v2 c d).heap[bb]? = some (.cells #[v1, v2, c, d] 27 (0, 0)) ∧ (set4 w6 bb v1 v2 c d).heap[b1]? = some oZ ∧ ∀ x0 x1 x2 x3, NRow (set4 (set4 w6 bb v1 v2 c d) b1 x0 x1 x2 x3) v1 vs ∧ GRow 0 (set4 (set4 w6 bb v1 v2 c d) b1 x0 x1 x2 x3) v2 fs ∧ Below bb w (set4 (set4 w6 bb v1 v2 c d) b1 x0 x1 x2 x3) := by
  have e1 := nrow_ne r1 k1
  have e2 := nrow_ne r1 (b := b1) (vv := .slice none 0 0) (ev := .slice none 0 0) (rd := 0) (wr := 0) k2
  have e3 := grow_ne r2 k1
  have e4 := grow_ne r2 (b := b1) (vv := .slice none 0 0) (ev := .slice none 0 0) (rd := 0) (wr := 0) k2
  refine ⟨set4G_at k1 _ _ _ _, (set4_other (by omega) _ _ _ _).trans k2, fun x0 x1 x2 x3 => ⟨nrow_kept r1 (fun b hb => ?_), grow_kept r2 (fun b hb => ?_), set4_below (set4_below k3 (Nat.le_refl _) _ _ _ _) (by omega) _ _ _ _⟩⟩
  · exact (set4_other (fun e => e2 (by rw [← e]; exact hb)) _ _ _ _).trans (set4_other (fun e => e1 (by rw [← e]; exact hb)) _ _ _ _)
  · exact (set4_other (fun e => e4 (by rw [← e]; exact hb)) _ _ _ _).trans (set4_other (fun e => e3 (by rw [← e]; exact hb)) _ _ _ _)

set_option maxHeartbeats 2000000 in
set_option maxRecDepth 100000 in
theorem refAddE {w : World} {vv ev : Value} {rd wr_0 : Int} {vs : List Int} {es : List EdgeV} (u v n : Int) (h : NRow w vv vs) (hE : GRow 0 w ev es) (hlv : vs.length ≤ 1000000) (hl : es.length ≤ 100000) (hr0 : 0 ≤ wr_0) (hr1 : wr_0 ≤ 1000000000) (hu : u ∈ vs) (hv : v ∈ vs) {b : Int} (hk : kept n = some b) (ht : ∃ i : Nat, i < 1024 ∧ ¬ HasNo es ((i : Int) + 1)) :
    Calls Tryz.prog 57 #[.agg #[vv, ev, .int .i64 rd, .int .i64 wr_0], .int .i64 u, .int .i64 v, .int .u32 n] w fun e w' => Hid (AnsAdd w vv ev vs es u v b rd wr_0 e w') := by
  have HF : Hid (∀ W, Below w.heap.size w W → NRow W vv vs ∧ GRow 0 W ev es) := fun W hW => ⟨nrow_below h hW, grow_below hE hW⟩
  have CH : Hid (∀ W, AFit w vv ev rd wr_0 W → ∀ k, Calls Tryz.prog 46 #[.agg #[vv, ev, .int .i64 rd, .int .i64 wr_0], .int .i64 k] W fun e w' => e = .returned (.bool (decide (k ∈ vs))) ∧ Hid (AFit w vv ev rd wr_0 w')) := fun W hW k => by
    refine (refHas k (nrow_below h hW.2.2.1) hlv).mono ?_
    rintro e w' ⟨rfl, g⟩
    exact ⟨rfl, hW.step g⟩
  have CA : Hid (∀ n W, Calls Tryz.prog 82 #[.int .u32 n] W fun e w' => e = .returned (ansK (kept n)) ∧ w' = W) := fun n W => refAdmit n W
  obtain ⟨va, vc, hvv, -⟩ := brow_shape h
  obtain ⟨vn, hvv'⟩ : ∃ vn, vv = .slice va vn vc := ⟨_, hvv⟩
  obtain ⟨ea, en, ec, hev⟩ := grow_shape hE
  have CT : Hid (∀ W, AFit w vv ev rd wr_0 W → Calls Tryz.prog 44 #[.agg #[vv, ev, .int .i64 rd, .int .i64 wr_0]] W fun e w' => ∃ r, e = .returned (.int .i64 r) ∧ Hid (RFree es r ∧ AFit w vv ev rd wr_0 w')) := fun W hW => by
    refine (refFree (grow_below hE hW.2.2.1) (by omega) ⟨_, _, _, hvv'⟩).mono ?_
    rintro e w' ⟨r, rfl, g⟩
    exact ⟨r, rfl, (unhide g).1, hW.step (unhide g).2⟩
  have CP : Hid (∀ W (j : Nat), AFit w vv ev rd wr_0 W → j < 1024 → ¬ HasNo es ((j : Int) + 1) → Calls Tryz.prog 58 #[.agg #[vv, ev, .int .i64 rd, .int .i64 wr_0], .agg #[.int .i64 ((j : Int) + 1), .int .i64 u, .int .i64 v, .int .u32 n]] W fun e w' => ∃ (a1 a2 : Option Addr) (n1 n2 m1 m2 : Nat), e = .returned (.tuple #[.agg #[.slice a1 n1 m1, .slice a2 n2 m2, .int .i64 rd, .int .i64 (wr_0 + 1)], .int .i64 0]) ∧ Hid (∃ i, Puts es ((j : Int) + 1) i ∧ NRow w' (.slice a1 n1 m1) vs ∧ GRow 0 w' (.slice a2 n2 m2) (es.take i ++ [((j : Int) + 1, u, v, b)] ++ es.drop i) ∧ AFit w vv ev rd wr_0 w' ∧ Apt w vv (.slice a1 n1 m1) ∧ Apt w ev (.slice a2 n2 m2))) := fun W j hW hj hno => by
    refine (refPutE (((j : Int) + 1, u, v, n) : EdgeV) (nrow_below h hW.2.2.1) (grow_below hE hW.2.2.1) hlv hl hr0 hr1 (by show ¬ (j : Int) + 1 < 1; omega) (by show ¬ 1024 < (j : Int) + 1; omega) hu hv hk hno).mono ?_
    rintro e w' hh
    obtain ⟨i, p1, v1, v2, rfl, g1, g2, g3, g4, g5⟩ := unhide hh
    have hws := hW.2.2.1.size
    obtain ⟨a1, m1, e1, -⟩ := brow_shape g1
    obtain ⟨a2, n2, m2, e2⟩ := grow_shape g2
    subst e1 e2
    exact ⟨a1, a2, _, n2, m1, m2, rfl, i, p1, g1, g2, hW.step g3, fun b hb => (g4 b hb).imp id (fun e => by omega), fun b hb => (g5 b hb).imp id (fun e => by omega)⟩
  have HP := hide (afit_new w vv ev rd wr_0)
  clear h hE hvv hl hlv hr0 hr1
  subst hvv' hev
  go_enter Tryz.func57, Tryz.ntmps57
  go_upto_region 1 with fail
  change Code.wp _ _ _ _ ((w.alloc (oG (.slice va vn vc) (.slice ea en ec) rd wr_0)).alloc oZ)
  generalize (w.alloc (oG (.slice va vn vc) (.slice ea en ec) rd wr_0)).alloc oZ = wb at *
  have n1 : ¬ w.heap.size = w.heap.size + 1 := by omega
  have n2 : ¬ w.heap.size + 1 = w.heap.size := by omega
  have HT := hide ht
  clear ht
  have HCwb := unhide HP
  obtain ⟨c0, c1, c2, c3, cf⟩ := cellsG HCwb.1
  obtain ⟨d0, d1, d2, d3, df⟩ := cellsG (vv := .slice none 0 0) (ev := .slice none 0 0) (rd := 0) (wr := 0) HCwb.2.1
  clear HCwb
  go_wp2_with fail
  refine (unhide CH _ (unhide HP) _).mono ?_
  rintro e w2 ⟨rfl, H2⟩
  rw [decide_eq_true hu]
  clear c0 c1 c2 c3 cf d0 d1 d2 d3 df
  have HCw2 := unhide H2
  obtain ⟨c0, c1, c2, c3, cf⟩ := cellsG HCw2.1
  obtain ⟨d0, d1, d2, d3, df⟩ := cellsG (vv := .slice none 0 0) (ev := .slice none 0 0) (rd := 0) (wr := 0) HCw2.2.1
  clear HCw2
  go_wp2_with fail
  refine (unhide CH _ (unhide H2) _).mono ?_
  rintro e w3 ⟨rfl, H3⟩
  rw [decide_eq_true hv]
  clear c0 c1 c2 c3 cf d0 d1 d2 d3 df
  have HCw3 := unhide H3
  obtain ⟨c0, c1, c2, c3, cf⟩ := cellsG HCw3.1
  obtain ⟨d0, d1, d2, d3, df⟩ := cellsG (vv := .slice none 0 0) (ev := .slice none 0 0) (rd := 0) (wr := 0) HCw3.2.1
  clear HCw3
  go_wp2_with fail
  refine (unhide CA _ _).mono ?_
  rintro e w4 ⟨rfl, rfl⟩
  rw [hk]
  unfold ansK
  go_wp2_with fail
  refine (unhide CT _ (unhide H3)).mono ?_
  rintro e w5 ⟨r, rfl, H5'⟩
  obtain ⟨j, hj, rfl, hj1, hj2⟩ : ∃ j : Nat, j < 1024 ∧ r = (j : Int) + 1 ∧ (∀ k : Nat, k < j → HasNo es ((k : Int) + 1)) ∧ ¬ HasNo es ((j : Int) + 1) := by
    rcases (unhide H5').1 with h | ⟨-, h⟩
    · exact h
    · obtain ⟨i, hi, hn⟩ := unhide HT
      exact absurd (h i hi) hn
  have HJ := hide (And.intro hj (And.intro hj1 hj2))
  have hj0 : ¬ (j : Int) + 1 = 0 := by omega
  clear hj1
  have H5 := hide (unhide H5').2
  clear H5'
  clear c0 c1 c2 c3 cf d0 d1 d2 d3 df
  have HCw5 := unhide H5
  obtain ⟨c0, c1, c2, c3, cf⟩ := cellsG HCw5.1
  clear HCw5
  have CP5 := hide (unhide CP _ j (unhide H5) hj hj2)
  clear hj hj2 CP CT CH CA
  go_wp2_with fail
  refine (unhide CP5).mono ?_
  rintro e w6 ⟨a1, a2, m1, m2, q1, q2, rfl, H6⟩
  clear c0 c1 c2 c3 cf CP5
  obtain ⟨i, hP, r1, r2, r3, r4⟩ := unhide H6
  have HAP := hide r4
  have HPU := hide hP
  obtain ⟨b1, hb1⟩ : ∃ b1, b1 = w.heap.size + 1 := ⟨_, rfl⟩
  obtain ⟨bb, hbb⟩ : ∃ bb, bb = w.heap.size := ⟨_, rfl⟩
  have HEND := hide (addE_fin (bb := bb) (b1 := b1) (by omega) (by rw [hbb]; exact r3.1) (by rw [hb1]; exact r3.2.1) (by rw [hbb]; exact r3.2.2.1) r1 r2 (.int .i64 rd) (.int .i64 (wr_0 + 1)))
  rw [← hb1, ← hbb]
  have n3 : ¬ bb = b1 := by omega
  have n4 : ¬ b1 = bb := by omega
  have cc : w6.cell? ⟨bb, 0, none⟩ = some (.slice va vn vc) ∧ w6.cell? ⟨bb, 1, none⟩ = some (.slice ea en ec) ∧ w6.cell? ⟨bb, 2, none⟩ = some (.int .i64 rd) ∧ w6.cell? ⟨bb, 3, none⟩ = some (.int .i64 wr_0) ∧ ∀ o, w6.frozen? ⟨bb, o, none⟩ = false := cellsG (by rw [hbb]; exact r3.1)
  obtain ⟨c0, c1, c2, c3, cf⟩ := cc
  have HBB := hide hbb
  clear r1 r2 r3 r4 hP H6 hbb hb1 n1 n2
  go_upto_region 10 with fail
  change Code.wp _ _ _ _ (set4 w6 bb _ _ _ _)
  obtain ⟨s1, s2, s3⟩ := unhide HEND
  have HT1 := hide s2
  have HS3 := hide s3
  clear c0 c1 c2 c3 cf HEND s3
  generalize set4 w6 bb (.slice a1 m1 q1) (.slice a2 m2 q2) (.int .i64 rd) (.int .i64 (wr_0 + 1)) = w7 at *
  obtain ⟨c0, c1, c2, c3, cf⟩ := cellsG (vv := .slice a1 m1 q1) (ev := .slice a2 m2 q2) (rd := rd) (wr := wr_0 + 1) s1
  obtain ⟨d0, d1, d2, d3, df⟩ := cellsG (vv := .slice none 0 0) (ev := .slice none 0 0) (rd := 0) (wr := 0) s2
  clear s1 s2
  go_wp2_with fail
  (try simp only [Exit.inBlock, Exit.then])
  change bodyPost _ _ _ _ _ (set4 w7 b1 _ _ _ _)
  refine bodyPost_ret (results_cell_tmp_tmp rfl _ _ _ ⟨b1, 0, none⟩ _ rfl (loadG _ _ _ _ _ _ (set4G_at (unhide HT1) _ _ _ _))) rfl ?_
  obtain ⟨z1, z2, z3⟩ := unhide HS3 (.slice a1 m1 q1) (.slice a2 m2 q2) (.int .i64 rd) (.int .i64 (wr_0 + 1))
  exact ⟨j, i, unhide HJ, unhide HPU, _, _, rfl, z1, z2, by rw [← unhide HBB]; exact z3, (unhide HAP).1, (unhide HAP).2⟩
end

section
open Go.RowKit Go.Maps
/-- What DropVertex answers: a graph, the records that went, a code. -/
def AnsGL (w : World) (vv0 ev0 : Value) (vs : List Int) (es : List EdgeV) (rd wr : Int) (gs : List EdgeV) (code : Int) (e : Ending) (w' : World) : Prop :=
  ∃ vv ev lv, e = .returned (.tuple #[.agg #[vv, ev, .int .i64 rd, .int .i64 wr], lv, .int .i64 code]) ∧ NRow w' vv vs ∧ GRow 0 w' ev es ∧ GRow 0 w' lv gs ∧ Below w.heap.size w w' ∧ Apt w vv0 vv ∧ Apt w ev0 ev ∧ ∀ b, lv.ownBlock = some b → w.heap.size ≤ b
def hits (v : Int) (x : EdgeV) : Bool := decide (x.2.1 = v) || decide (x.2.2.1 = v)
/-- What DropVertex answers where it does it. -/
def AnsDropV (w : World) (vv0 ev0 : Value) (vs : List Int) (es : List EdgeV) (v rd wr : Int) (e : Ending) (w' : World) : Prop := AnsGL w vv0 ev0 (vs.filter (fun k => !decide (k = v))) (es.filter (fun x => !hits v x)) rd (wr + (es.filter (hits v)).length) (es.filter (hits v)) 0 e w'
theorem filt_snoc_yes {α : Type} {p : α → Bool} {x : α} (l : List α) (h : p x = true) : (l ++ [x]).filter p = l.filter p ++ [x] := by simp [h]
theorem filt_snoc_no {α : Type} {p : α → Bool} {x : α} (l : List α) (h : p x = false) : (l ++ [x]).filter p = l.filter p := by simp [h]
theorem grow_at0 {B : Nat} {w : World} {v : Value} {gs : List EdgeV} (h : GRow B w v gs) : GRow 0 w v gs := ⟨h.1, h.2.imp id (fun ⟨g, cap, cur, e, _, r⟩ => ⟨g, cap, cur, e, Nat.zero_le _, r⟩)⟩
theorem brow_at0 {B : Nat} {w : World} {v : Value} {gs : List Int} (h : BRow B w v gs) : NRow w v gs := ⟨h.1, h.2.imp id (fun ⟨g, cap, cur, e, _, r⟩ => ⟨g, cap, cur, e, Nat.zero_le _, r⟩)⟩

/-- A record more in one of two lists side by side. -/
theorem dropV_app {B : Nat} {w : World} {v1 v2 : Value} {l1 l2 : List EdgeV} (a : EdgeV) (h1 : GRow B w v1 l1) (h2 : GRow B w v2 l2) (hap : ∀ b, v1.ownBlock = some b → v2.ownBlock ≠ some b) (hB : B ≤ w.heap.size) (hl : l1.length ≤ 100000) :
    ∃ a' n' c' w', (∀ ty, (Builtin.append_ #[25, 25] ty #[v1, .slice (some ⟨w.heap.size, 0, none⟩) 1 1]).run Tryz.prog (w.alloc (oE a)) = .ok (.slice a' n' c') w') ∧ GRow B w' (.slice a' n' c') (l1 ++ [a]) ∧ GRow B w' v2 l2 ∧ (∀ b, (Value.slice a' n' c').ownBlock = some b → v2.ownBlock ≠ some b) ∧ Below B w w' := by
  obtain ⟨a', n', c', w', hr, g1, g2, g3⟩ := run_appG a h1 hB hl
  have hb := below_new w (oE a)
  refine ⟨a', n', c', w', hr, g1, grow_kept h2 (fun b hb2 => ?_), fun b hb1 hb2 => ?_, ⟨g2.os.trans hb.os, g2.tape.trans hb.tape, g2.output.trans hb.output, Nat.le_trans hb.size g2.size, fun k hk => (g2.block k (Nat.lt_of_lt_of_le hk (Nat.le_trans hB hb.size)) (fun e => ?_)).trans (hb.block k (Nat.lt_of_lt_of_le hk hB))⟩⟩
  · have hlt := (h2.lt b hb2).2
    exact (g2.block b (Nat.lt_of_lt_of_le hlt hb.size) (fun e => hap b e.symm hb2)).trans (hb.block b hlt)
  · rcases g3 b hb1 with e | e
    · exact hap b e hb2
    · have := (h2.lt b hb2).2; omega
  · have := (h1.lt k e.symm).1
    omega
theorem dropV_fin {w w2 w4 : World} {bb b1 : Nat} {vv ev l1 k1 g1 : Value} {rd wr_0 : Int} {us : List Int} {ks gs : List EdgeV} (q2 : w2.heap[bb]? = some (oG vv ev rd wr_0)) (q1 : w2.heap[b1]? = some oZ) (q3 : Below bb w w2) (q4 : b1 < w2.heap.size) (hbe : bb < b1) (r1 : BRow w2.heap.size w4 l1 us) (r2 : GRow w2.heap.size w4 k1 ks) (r3 : GRow w2.heap.size w4 g1 gs) (hB : Below w2.heap.size w2 w4) (z : Int) :
    (w4.cell? ⟨bb, 0, none⟩ = some vv ∧ w4.cell? ⟨bb, 1, none⟩ = some ev ∧ w4.cell? ⟨bb, 3, none⟩ = some (.int .i64 wr_0) ∧ ∀ o, w4.frozen? ⟨bb, o, none⟩ = false) ∧
    ∀ w8, w8 = ((w4.setCell ⟨bb, 0, none⟩ l1).setCell ⟨bb, 1, none⟩ k1).setCell ⟨bb, 3, none⟩ (.int .i64 z) → w8.heap[b1]? = some oZ ∧ w8.heap[bb]? = some (oG l1 k1 rd z) ∧
      ∀ x0 x1 x2 x3, NRow (set4 w8 b1 x0 x1 x2 x3) l1 us ∧ GRow 0 (set4 w8 b1 x0 x1 x2 x3) k1 ks ∧ GRow 0 (set4 w8 b1 x0 x1 x2 x3) g1 gs ∧ Below bb w (set4 w8 b1 x0 x1 x2 x3) ∧ (∀ b, l1.ownBlock = some b → bb ≤ b) ∧ (∀ b, k1.ownBlock = some b → bb ≤ b) ∧ ∀ b, g1.ownBlock = some b → bb ≤ b := by
  have hbx := (hB.block bb (by omega)).trans q2
  obtain ⟨y0, y1, y2, y3, yf⟩ := cellsG hbx
  refine ⟨⟨y0, y1, y3, yf⟩, fun w8 e8 => ?_⟩
  have e0 : (w4.setCell ⟨bb, 0, none⟩ l1).heap[bb]? = some (oG l1 ev rd wr_0) := by rw [heap_setCell_same _ _ _ _ _ _ hbx]; rfl
  have e1 : ((w4.setCell ⟨bb, 0, none⟩ l1).setCell ⟨bb, 1, none⟩ k1).heap[bb]? = some (oG l1 k1 rd wr_0) := by rw [heap_setCell_same _ _ _ _ _ _ e0]; rfl
  have e2 : w8.heap[bb]? = some (oG l1 k1 rd z) := by rw [e8, heap_setCell_same _ _ _ _ _ _ e1]; rfl
  have oth : ∀ b, b ≠ bb → w8.heap[b]? = w4.heap[b]? := fun b hb => by rw [e8]; exact (heap_setCell_other _ _ _ _ hb).trans ((heap_setCell_other _ _ _ _ hb).trans (heap_setCell_other _ _ _ _ hb))
  have hB8 : Below bb w w8 := by
    rw [e8]
    exact (((q3.trans (hB.mono (by omega))).setCell (p := ⟨bb, 0, none⟩) (Nat.le_refl _) _).setCell (p := ⟨bb, 1, none⟩) (Nat.le_refl _) _).setCell (p := ⟨bb, 3, none⟩) (Nat.le_refl _) _
  refine ⟨(oth b1 (by omega)).trans ((hB.block b1 q4).trans q1), e2, fun x0 x1 x2 x3 => ?_⟩
  have kp : ∀ b, w2.heap.size ≤ b → (set4 w8 b1 x0 x1 x2 x3).heap[b]? = w4.heap[b]? := fun b hb => (set4_other (by omega) _ _ _ _).trans (oth b (by omega))
  exact ⟨brow_at0 (brow_kept r1 (fun b hb => kp b (r1.lt b hb).1)), grow_at0 (grow_kept r2 (fun b hb => kp b (r2.lt b hb).1)), grow_at0 (grow_kept r3 (fun b hb => kp b (r3.lt b hb).1)), set4_below hB8 (by omega) x0 x1 x2 x3, fun b hb => by have := (r1.lt b hb).1; omega, fun b hb => by have := (r2.lt b hb).1; omega, fun b hb => by have := (r3.lt b hb).1; omega⟩

set_option maxHeartbeats 2000000 in
set_option maxRecDepth 100000 in
theorem refDropVNo {w : World} {vv ev : Value} {rd wr_0 : Int} {vs : List Int} {es : List EdgeV} (v : Int) (h : NRow w vv vs) (hE : GRow 0 w ev es) (hlv : vs.length ≤ 1000000) (hv : v ∉ vs) :
    Calls Tryz.prog 54 #[.agg #[vv, ev, .int .i64 rd, .int .i64 wr_0], .int .i64 v] w fun e w' => Hid (AnsGL w vv ev vs es rd wr_0 [] 5 e w') := by
  have HF : Hid (∀ W, Below w.heap.size w W → NRow W vv vs ∧ GRow 0 W ev es) := fun W hW => ⟨nrow_below h hW, grow_below hE hW⟩
  have CH : Hid (∀ W, AFit w vv ev rd wr_0 W → ∀ k, Calls Tryz.prog 46 #[.agg #[vv, ev, .int .i64 rd, .int .i64 wr_0], .int .i64 k] W fun e w' => e = .returned (.bool (decide (k ∈ vs))) ∧ Hid (AFit w vv ev rd wr_0 w')) := fun W hW k => by
    refine (refHas k (nrow_below h hW.2.2.1) hlv).mono ?_
    rintro e w' ⟨rfl, g⟩
    exact ⟨rfl, hW.step g⟩
  obtain ⟨va, vc, hvv, -⟩ := brow_shape h
  obtain ⟨vn, hvv'⟩ : ∃ vn, vv = .slice va vn vc := ⟨_, hvv⟩
  obtain ⟨ea, en, ec, hev⟩ := grow_shape hE
  have HP := hide (afit_new w vv ev rd wr_0)
  clear h hE hvv hlv
  subst hvv' hev
  go_enter Tryz.func54, Tryz.ntmps54
  go_upto_region 1 with fail
  change Code.wp _ _ _ _ ((w.alloc (oG (.slice va vn vc) (.slice ea en ec) rd wr_0)).alloc oZ)
  generalize (w.alloc (oG (.slice va vn vc) (.slice ea en ec) rd wr_0)).alloc oZ = wb at *
  have n1 : ¬ w.heap.size = w.heap.size + 1 := by omega
  have n2 : ¬ w.heap.size + 1 = w.heap.size := by omega
  have HCwb := unhide HP
  obtain ⟨c0, c1, c2, c3, cf⟩ := cellsG HCwb.1
  clear HCwb
  go_wp2_with fail
  refine (unhide CH _ (unhide HP) _).mono ?_
  rintro e w2 ⟨rfl, H2⟩
  rw [decide_eq_false hv]
  clear c0 c1 c2 c3 cf
  have HCw2 := unhide H2
  obtain ⟨c0, c1, c2, c3, cf⟩ := cellsG HCw2.1
  obtain ⟨d0, d1, d2, d3, df⟩ := cellsG (vv := .slice none 0 0) (ev := .slice none 0 0) (rd := 0) (wr := 0) HCw2.2.1
  clear HCw2
  go_wp2_with fail
  (try simp only [Exit.inBlock, Exit.then])
  change bodyPost _ _ _ _ _ (set4 w2 (w.heap.size + 1) _ _ _ _)
  refine bodyPost_ret (results_cell_tmp_tmp rfl _ _ _ ⟨w.heap.size + 1, 0, none⟩ _ rfl (loadG _ _ _ _ _ _ (set4G_at (unhide H2).2.1 _ _ _ _))) rfl ?_
  have hB := set4_below (unhide H2).2.2.1 (by omega : w.heap.size ≤ w.heap.size + 1) (.slice va vn vc) (.slice ea en ec) (.int .i64 rd) (.int .i64 wr_0)
  exact ⟨_, _, _, rfl, (unhide HF _ hB).1, (unhide HF _ hB).2, ⟨rfl, .inl ⟨rfl, rfl⟩⟩, hB, Apt.refl _ _, Apt.refl _ _, fun b hb => by cases hb⟩

set_option maxHeartbeats 4000000 in
set_option maxRecDepth 100000 in
theorem refDropV {w : World} {vv ev : Value} {rd wr_0 : Int} {vs : List Int} {es : List EdgeV} (v : Int) (h : NRow w vv vs) (hE : GRow 0 w ev es) (hlv : vs.length ≤ 1000000) (hl : es.length ≤ 100000) (hr0 : 0 ≤ wr_0) (hr1 : wr_0 ≤ 1000000000) (hv : v ∈ vs) :
    Calls Tryz.prog 54 #[.agg #[vv, ev, .int .i64 rd, .int .i64 wr_0], .int .i64 v] w fun e w' => Hid (AnsDropV w vv ev vs es v rd wr_0 e w') := by
  have CH : Hid (∀ W, AFit w vv ev rd wr_0 W → ∀ k, Calls Tryz.prog 46 #[.agg #[vv, ev, .int .i64 rd, .int .i64 wr_0], .int .i64 k] W fun e w' => e = .returned (.bool (decide (k ∈ vs))) ∧ Hid (AFit w vv ev rd wr_0 w')) := fun W hW k => by
    refine (refHas k (nrow_below h hW.2.2.1) hlv).mono ?_
    rintro e w' ⟨rfl, g⟩
    exact ⟨rfl, hW.step g⟩
  obtain ⟨va, vc, hvv, -⟩ := brow_shape h
  obtain ⟨vn, hvv', hvn⟩ : ∃ vn, vv = .slice va vn vc ∧ vn = vs.length := ⟨_, hvv, rfl⟩
  obtain ⟨ea, en, ec, hev⟩ := grow_shape hE
  have hen : en = es.length := by
    obtain ⟨a2, c2, e⟩ := grow_len hE
    rw [hev] at e; injection e
  have HEN := hide hen
  have HVN := hide hvn
  have HLE : Hid (es.length ≤ 100000 ∧ vs.length ≤ 1000000 ∧ 0 ≤ wr_0 ∧ wr_0 ≤ 1000000000) := ⟨hl, hlv, hr0, hr1⟩
  have HROW : Hid (∀ W, Below w.heap.size w W → NRow W (.slice va vn vc) vs ∧ GRow 0 W (.slice ea en ec) es) := fun W hW => by rw [← hev, ← hvv']; exact ⟨nrow_below h hW, grow_below hE hW⟩
  have HP := hide (afit_new w vv ev rd wr_0)
  clear h hE hvv hlv hl hr0 hr1 hen hvn
  subst hvv' hev
  go_enter Tryz.func54, Tryz.ntmps54
  go_upto_region 1 with fail
  change Code.wp _ _ _ _ ((w.alloc (oG (.slice va vn vc) (.slice ea en ec) rd wr_0)).alloc oZ)
  generalize (w.alloc (oG (.slice va vn vc) (.slice ea en ec) rd wr_0)).alloc oZ = wb at *
  have HCwb := unhide HP
  obtain ⟨c0, c1, c2, c3, cf⟩ := cellsG HCwb.1
  clear HCwb
  go_wp2_with fail
  refine (unhide CH _ (unhide HP) _).mono ?_
  rintro e w2 ⟨rfl, H2⟩
  rw [decide_eq_true hv]
  clear c0 c1 c2 c3 cf CH HP hv
  obtain ⟨b1, hb1⟩ : ∃ b1, b1 = w.heap.size + 1 := ⟨_, rfl⟩
  obtain ⟨bb, hbb⟩ : ∃ bb, bb = w.heap.size := ⟨_, rfl⟩
  have HW2 : Hid (w2.heap[bb]? = some (oG (.slice va vn vc) (.slice ea en ec) rd wr_0) ∧ w2.heap[b1]? = some oZ ∧ Below bb w w2 ∧ b1 < w2.heap.size) := by
    obtain ⟨k1, k2, k4, k5⟩ := unhide H2
    exact ⟨by rw [hbb]; exact k1, by rw [hb1]; exact k2, by rw [hbb]; exact k4, by omega⟩
  have hbe : bb < b1 := by omega
  rw [← hb1, ← hbb]
  rw [← hbb] at HROW
  have HBB := hide hbb
  clear H2 hbb hb1
  have HV : Hid (∀ W, Below w2.heap.size w2 W → W.heap[bb]? = some (oG (.slice va vn vc) (.slice ea en ec) rd wr_0) ∧ Below bb w W) := fun W hW => by
    obtain ⟨k1, k2, k4, k5⟩ := unhide HW2
    exact ⟨(hW.block _ (by omega)).trans k1, k4.trans (hW.mono (by omega))⟩
  have HCV : Hid (∀ i W, i < vn → Below w2.heap.size w2 W → ∃ g, va = some ⟨g, 0, none⟩ ∧ W.cell? ⟨g, i, none⟩ = some (.int .i64 (vs.getD i 0))) := fun i W hi hW => by
    have hR := (unhide HROW W (unhide HV W hW).2).1
    obtain ⟨g, hg⟩ := brow_some hR (by have := unhide HVN; omega)
    subst hg
    exact ⟨g, rfl, (nrow_some hR).2.2.2.2 i (by have := unhide HVN; omega)⟩
  have HCE : Hid (∀ i W, i < en → Below w2.heap.size w2 W → ∃ g a, ea = some ⟨g, 0, none⟩ ∧ es[i]? = some a ∧ W.cell? ⟨g, i * 4, none⟩ = some (.int .i64 a.1) ∧ W.cell? ⟨g, i * 4 + 1, none⟩ = some (.int .i64 a.2.1) ∧ W.cell? ⟨g, i * 4 + 2, none⟩ = some (.int .i64 a.2.2.1) ∧ W.cell? ⟨g, i * 4 + 3, none⟩ = some (.int .u32 a.2.2.2)) := fun i W hi hW => by
    have hR := (unhide HROW W (unhide HV W hW).2).2
    have hie : i < es.length := by have := unhide HEN; omega
    obtain ⟨g, c, e, hc⟩ := grow_at hR (by omega)
    injection e with e1 e2 e3
    exact ⟨g, _, e1, List.getElem?_eq_getElem hie, hc i _ (List.getElem?_eq_getElem hie)⟩
  go_wp2_with fail
  go_loopw [7, 8] (fun sa si wr => ∃ (i : Nat) (aa : Option Addr) (an ac : Nat), si = .int .i64 i ∧ sa = .slice aa an ac ∧ i ≤ vn ∧ Hid (BRow w2.heap.size wr (.slice aa an ac) ((vs.take i).filter (fun k => !decide (k = v))) ∧ Below w2.heap.size w2 wr)) (fun _ si _ => vn - (intOf si).toNat)
  case atStart => exact ⟨0, none, 0, 0, rfl, rfl, by omega, ⟨rfl, .inl ⟨rfl, rfl⟩⟩, Below.refl _ _⟩
  case round =>
    obtain ⟨i, aa, an, ac, rfl, rfl, hi, hS⟩ := hrel
    have c0 := (cellsG (unhide HV wr (unhide hS).2).1).1
    by_cases hlt : i < vn
    · obtain ⟨g, rfl, hc⟩ := unhide HCV i wr hlt (unhide hS).2
      have hx : vs[i]? = some (vs.getD i 0) := by have := unhide HVN; rw [List.getElem?_eq_getElem (by omega)]; simp [List.getD, show i < vs.length by omega]
      have hz : (i : Int) < (vn : Int) := by omega
      have hwi : wrap64 ((i : Int) + 1) = ((i + 1 : Nat) : Int) := by have := unhide HLE; have := unhide HVN; unfold wrap64; omega
      have HWI := hide hwi
      clear hwi
      by_cases hxv : vs.getD i 0 = v
      · have HG : Hid (BRow w2.heap.size wr (.slice aa an ac) ((vs.take (i + 1)).filter (fun k => !decide (k = v))) ∧ Below w2.heap.size w2 wr) := by
          refine ⟨?_, (unhide hS).2⟩
          rw [take_succ_of hx, filt_snoc_no (p := fun k => !decide (k = v)) _ (show (!decide (vs.getD i 0 = v)) = false by rw [decide_eq_true hxv]; rfl)]
          exact (unhide hS).1
        obtain ⟨x, hxx⟩ : ∃ x, x = vs.getD i 0 := ⟨_, rfl⟩
        rw [← hxx] at hc hxv
        clear hx hxx
        subst hxv
        go_wp2_with fail
        (try rw [unhide HWI])
        exact ⟨⟨i + 1, aa, an, ac, rfl, rfl, by omega, HG⟩, by simp [intOf]; omega⟩
      · obtain ⟨a', n', c', w', hr, g1, g2⟩ := run_appI (vs.getD i 0) (unhide hS).1 (unhide hS).2.size (by have := unhide HLE; have h1 := List.length_filter_le (fun k => !decide (k = v)) (vs.take i); have := List.length_take_le i vs; have := unhide HVN; omega)
        have HG : Hid (BRow w2.heap.size w' (.slice a' n' c') ((vs.take (i + 1)).filter (fun k => !decide (k = v))) ∧ Below w2.heap.size w2 w') := by
          refine ⟨?_, (unhide hS).2.trans g2⟩
          rw [take_succ_of hx, filt_snoc_yes (p := fun k => !decide (k = v)) _ (show (!decide (vs.getD i 0 = v)) = true by rw [decide_eq_false hxv]; rfl)]
          exact g1
        have HR := hide hr
        generalize vs.getD i 0 = x at *
        clear hr g1 g2 hx
        go_wp2_with (at_builtin; refine Lib.wpList_append_run _ rfl _ _ 23 23 rfl _ _ rfl rfl _ _ (unhide HR _) ?_)
        (try rw [unhide HWI])
        exact ⟨⟨i + 1, a', n', c', rfl, rfl, by omega, HG⟩, by simp [intOf]; omega⟩
    · have hz : ¬ (i : Int) < (vn : Int) := by omega
      have HS : Hid (BRow w2.heap.size wr (.slice aa an ac) (vs.filter (fun k => !decide (k = v))) ∧ Below w2.heap.size w2 wr) := by
        have := unhide hS
        rwa [List.take_of_length_le (by have := unhide HVN; omega)] at this
      clear hS hi hlt HCV
      go_wp2_with fail
      clear hz c0
      rename World => w3
      go_loopw [9, 10, 11] (fun sk sg si wr => ∃ (i : Nat) (ka ga : Option Addr) (kn kc gn gc : Nat), si = .int .i64 i ∧ sk = .slice ka kn kc ∧ sg = .slice ga gn gc ∧ i ≤ en ∧ Hid (GRow w3.heap.size wr (.slice ka kn kc) ((es.take i).filter (fun x => !hits v x)) ∧ GRow w3.heap.size wr (.slice ga gn gc) ((es.take i).filter (hits v)) ∧ (∀ b, (Value.slice ka kn kc).ownBlock = some b → (Value.slice ga gn gc).ownBlock ≠ some b) ∧ Below w3.heap.size w3 wr)) (fun _ _ si _ => en - (intOf si).toNat)
      case atStart => exact ⟨0, none, none, 0, 0, 0, 0, rfl, rfl, rfl, by omega, ⟨rfl, .inl ⟨rfl, rfl⟩⟩, ⟨rfl, .inl ⟨rfl, rfl⟩⟩, (fun b hb => by cases hb), Below.refl _ _⟩
      case round =>
        obtain ⟨i, ka, ga, kn, kc, gn, gc, rfl, rfl, rfl, hi, hS⟩ := hrel
        have hBw : Below w2.heap.size w2 wr := (unhide HS).2.trans ((unhide hS).2.2.2.mono (unhide HS).2.size)
        have HBW := hide hBw
        have c1 := (cellsG (unhide HV wr hBw).1).2.1
        by_cases hlt : i < en
        · obtain ⟨g, a, rfl, hx, y0, y1, y2, y3⟩ := unhide HCE i wr hlt hBw
          have hz : (i : Int) < (en : Int) := by omega
          have hwi : wrap64 ((i : Int) + 1) = ((i + 1 : Nat) : Int) := by have := unhide HLE; have := unhide HEN; unfold wrap64; omega
          have HWI := hide hwi
          clear hwi hBw
          by_cases hh : hits v a = true
          · obtain ⟨a', n', c', w', hr, g1, g2, g3, g4⟩ := dropV_app a (unhide hS).2.1 (unhide hS).1 (fun b h1 h2 => (unhide hS).2.2.1 b h2 h1) (unhide hS).2.2.2.size (by have := (unhide HLE).1; have h1 := List.length_filter_le (hits v) (es.take i); have := List.length_take_le i es; have := unhide HEN; omega)
            have HG : Hid (GRow w3.heap.size w' (.slice ka kn kc) ((es.take (i + 1)).filter (fun x => !hits v x)) ∧ GRow w3.heap.size w' (.slice a' n' c') ((es.take (i + 1)).filter (hits v)) ∧ (∀ b, (Value.slice ka kn kc).ownBlock = some b → (Value.slice a' n' c').ownBlock ≠ some b) ∧ Below w3.heap.size w3 w') := by
              refine ⟨?_, ?_, fun b h1 h2 => g3 b h2 h1, (unhide hS).2.2.2.trans g4⟩
              · rw [take_succ_of hx, filt_snoc_no (p := fun x => !hits v x) _ (show (!hits v a) = false by rw [hh]; rfl)]; exact g2
              · rw [take_succ_of hx, filt_snoc_yes _ hh]; exact g1
            unfold oE at hr
            have HR := hide hr
            have hor : a.2.1 = v ∨ (¬ a.2.1 = v ∧ a.2.2.1 = v) := by
              unfold hits at hh
              simp only [Bool.or_eq_true, decide_eq_true_eq] at hh
              by_cases e : a.2.1 = v
              · exact .inl e
              · exact .inr ⟨e, hh.resolve_left e⟩
            clear hr g1 g2 g3 g4 hx hS hh
            obtain ⟨q1, hq1⟩ : ∃ q1, q1 = a.2.1 := ⟨_, rfl⟩
            obtain ⟨q2, hq2⟩ : ∃ q2, q2 = a.2.2.1 := ⟨_, rfl⟩
            obtain ⟨q0, hq0⟩ : ∃ q0, q0 = a.1 := ⟨_, rfl⟩
            obtain ⟨q3, hq3⟩ : ∃ q3, q3 = a.2.2.2 := ⟨_, rfl⟩
            rw [← hq1] at hor HR y1
            rw [← hq2] at hor HR y2
            rw [← hq0] at HR y0
            rw [← hq3] at HR y3
            clear hq0 hq1 hq2 hq3
            rcases hor with h1 | ⟨h1, h2⟩
            · subst h1
              go_wp2_with (at_builtin; refine Lib.wpList_append_run _ rfl _ _ 25 25 rfl _ _ rfl rfl _ _ (unhide HR _) ?_)
              (try rw [unhide HWI])
              exact ⟨⟨i + 1, ka, a', kn, kc, n', c', rfl, rfl, rfl, by omega, HG⟩, by simp [intOf]; omega⟩
            · subst h2
              go_wp2_with (at_builtin; refine Lib.wpList_append_run _ rfl _ _ 25 25 rfl _ _ rfl rfl _ _ (unhide HR _) ?_)
              (try rw [unhide HWI])
              exact ⟨⟨i + 1, ka, a', kn, kc, n', c', rfl, rfl, rfl, by omega, HG⟩, by simp [intOf]; omega⟩
          · have hh' : hits v a = false := by simpa using hh
            obtain ⟨a', n', c', w', hr, g1, g2, g3, g4⟩ := dropV_app a (unhide hS).1 (unhide hS).2.1 (unhide hS).2.2.1 (unhide hS).2.2.2.size (by have := (unhide HLE).1; have h1 := List.length_filter_le (fun x => !hits v x) (es.take i); have := List.length_take_le i es; have := unhide HEN; omega)
            have HG : Hid (GRow w3.heap.size w' (.slice a' n' c') ((es.take (i + 1)).filter (fun x => !hits v x)) ∧ GRow w3.heap.size w' (.slice ga gn gc) ((es.take (i + 1)).filter (hits v)) ∧ (∀ b, (Value.slice a' n' c').ownBlock = some b → (Value.slice ga gn gc).ownBlock ≠ some b) ∧ Below w3.heap.size w3 w') := by
              refine ⟨?_, ?_, g3, (unhide hS).2.2.2.trans g4⟩
              · rw [take_succ_of hx, filt_snoc_yes (p := fun x => !hits v x) _ (show (!hits v a) = true by rw [hh']; rfl)]; exact g1
              · rw [take_succ_of hx, filt_snoc_no _ hh']; exact g2
            unfold oE at hr
            have HR := hide hr
            have hor : ¬ a.2.1 = v ∧ ¬ a.2.2.1 = v := by
              unfold hits at hh'
              simp only [Bool.or_eq_false_iff, decide_eq_false_iff_not] at hh'
              exact hh'
            clear hr g1 g2 g3 g4 hx hS hh hh'
            obtain ⟨q1, hq1⟩ : ∃ q1, q1 = a.2.1 := ⟨_, rfl⟩
            obtain ⟨q2, hq2⟩ : ∃ q2, q2 = a.2.2.1 := ⟨_, rfl⟩
            obtain ⟨q0, hq0⟩ : ∃ q0, q0 = a.1 := ⟨_, rfl⟩
            obtain ⟨q3, hq3⟩ : ∃ q3, q3 = a.2.2.2 := ⟨_, rfl⟩
            rw [← hq1] at hor HR y1
            rw [← hq2] at hor HR y2
            rw [← hq0] at HR y0
            rw [← hq3] at HR y3
            clear hq0 hq1 hq2 hq3
            obtain ⟨h1, h2⟩ := hor
            have e1 : (q1 == v) = false := by simpa using h1
            have e2 : (q2 == v) = false := by simpa using h2
            go_wp2_with (at_builtin; refine Lib.wpList_append_run _ rfl _ _ 25 25 rfl _ _ rfl rfl _ _ (unhide HR _) ?_)
            (try rw [unhide HWI])
            exact ⟨⟨i + 1, a', ga, n', c', gn, gc, rfl, rfl, rfl, by omega, HG⟩, by simp [intOf]; omega⟩
        · have hz : ¬ (i : Int) < (en : Int) := by omega
          have HS2 : Hid (GRow w3.heap.size wr (.slice ka kn kc) (es.filter (fun x => !hits v x)) ∧ GRow w3.heap.size wr (.slice ga gn gc) (es.filter (hits v)) ∧ Below w3.heap.size w3 wr) := by
            have := unhide hS
            rw [List.take_of_length_le (by have := unhide HEN; omega)] at this
            exact ⟨this.1, this.2.1, this.2.2.2⟩
          have hgn : gn = (es.filter (hits v)).length := by
            obtain ⟨a2, c2, e⟩ := grow_len (unhide HS2).2.1
            injection e
          have HFIN : Hid ((wr.cell? ⟨bb, 0, none⟩ = some (.slice va vn vc) ∧ wr.cell? ⟨bb, 1, none⟩ = some (.slice ea en ec) ∧ wr.cell? ⟨bb, 3, none⟩ = some (.int .i64 wr_0) ∧ ∀ o, wr.frozen? ⟨bb, o, none⟩ = false) ∧
              ∀ w8, w8 = ((wr.setCell ⟨bb, 0, none⟩ (.slice aa an ac)).setCell ⟨bb, 1, none⟩ (.slice ka kn kc)).setCell ⟨bb, 3, none⟩ (.int .i64 (wr_0 + (gn : Int))) → w8.heap[b1]? = some oZ ∧ w8.heap[bb]? = some (oG (.slice aa an ac) (.slice ka kn kc) rd (wr_0 + (gn : Int))) ∧
                ∀ x0 x1 x2 x3, NRow (set4 w8 b1 x0 x1 x2 x3) (.slice aa an ac) (vs.filter (fun k => !decide (k = v))) ∧ GRow 0 (set4 w8 b1 x0 x1 x2 x3) (.slice ka kn kc) (es.filter (fun x => !hits v x)) ∧ GRow 0 (set4 w8 b1 x0 x1 x2 x3) (.slice ga gn gc) (es.filter (hits v)) ∧ Below bb w (set4 w8 b1 x0 x1 x2 x3) ∧ (∀ b, (Value.slice aa an ac).ownBlock = some b → bb ≤ b) ∧ (∀ b, (Value.slice ka kn kc).ownBlock = some b → bb ≤ b) ∧ ∀ b, (Value.slice ga gn gc).ownBlock = some b → bb ≤ b) := by
            obtain ⟨k1, k2, k4, k5⟩ := unhide HW2
            have hs := (unhide HS).2.size
            have up : ∀ {v : Value} {gs : List EdgeV}, GRow w3.heap.size wr v gs → GRow w2.heap.size wr v gs := fun h => ⟨h.1, h.2.imp id (fun ⟨g, cap, cur, e, hb, r⟩ => ⟨g, cap, cur, e, by omega, r⟩)⟩
            exact dropV_fin k1 k2 k4 k5 hbe (brow_kept (unhide HS).1 (fun b hb => (unhide HS2).2.2.block b ((unhide HS).1.lt b hb).2)) (up (unhide HS2).1) (up (unhide HS2).2.1) (unhide HBW) _
          have hgz : IntKind.i64.wrap (wr_0 + (gn : Int)) = wr_0 + (gn : Int) := by
            have := unhide HLE
            have h1 := List.length_filter_le (hits v) es
            rw [IntKind.wrap_i64]; omega
          have HGN := hide hgn
          obtain ⟨⟨k0, k1, k3, kf⟩, hF8⟩ := unhide HFIN
          have HF8 := hide hF8
          clear hS HS2 HS HFIN hF8 hgn hi hlt hBw HBW HV HCE HW2 HROW c1
          go_upto_region 18 with fail
          obtain ⟨q1, q2, q3⟩ := unhide HF8 _ rfl
          have HQ3 := hide q3
          have HT := hide q1
          clear HF8 q3 k0 k1 k3 kf
          generalize ((wr.setCell ⟨bb, 0, none⟩ (.slice aa an ac)).setCell ⟨bb, 1, none⟩ (.slice ka kn kc)).setCell ⟨bb, 3, none⟩ (.int .i64 (wr_0 + (gn : Int))) = w8 at *
          obtain ⟨c0', c1', c2', c3', -⟩ := cellsG q2
          obtain ⟨d0', d1', d2', d3', df'⟩ := cellsG (vv := .slice none 0 0) (ev := .slice none 0 0) (rd := 0) (wr := 0) q1
          have hne : ¬ bb = b1 := by omega
          have hne2 : ¬ b1 = bb := by omega
          clear q1 q2
          go_wp2_with fail
          (try simp only [Exit.inBlock, Exit.then])
          change bodyPost _ _ _ _ _ (set4 w8 b1 _ _ _ _)
          refine bodyPost_ret (results_cell_tmp_tmp rfl _ _ _ ⟨b1, 0, none⟩ _ rfl (loadG _ _ _ _ _ _ (set4G_at (unhide HT) _ _ _ _))) rfl ?_
          obtain ⟨z1, z2, z3, z4, z5, z6, z7⟩ := unhide HQ3 (.slice aa an ac) (.slice ka kn kc) (.int .i64 rd) (.int .i64 (wr_0 + (gn : Int)))
          exact ⟨_, _, _, by rw [← unhide HGN]; rfl, z1, z2, z3, by rw [← unhide HBB]; exact z4, Apt.new z5 (by have := unhide HBB; omega), Apt.new z6 (by have := unhide HBB; omega), fun b hb => by have := z7 b hb; have := unhide HBB; omega⟩
end

section
open Go.RowKit Go.Maps
/-- Records by rising numbers. -/
def Recs (es : List EdgeV) : Prop := es.Pairwise (fun a b => a.1 < b.1)
theorem recs_ext : ∀ {l l' : List EdgeV}, Recs l → Recs l' → (∀ x, x ∈ l ↔ x ∈ l') → l = l'
  | [], [], _, _, _ => rfl
  | [], b :: l', _, _, h => by have := (h b).2 (by simp); cases this
  | a :: l, [], _, _, h => by have := (h a).1 (by simp); cases this
  | a :: l, b :: l', h1, h2, h => by
    obtain ⟨p1, p2⟩ := List.pairwise_cons.1 h1
    obtain ⟨q1, q2⟩ := List.pairwise_cons.1 h2
    have hab : a = b := by
      rcases List.mem_cons.1 ((h a).1 (by simp)) with e | e
      · exact e
      · rcases List.mem_cons.1 ((h b).2 (by simp)) with e' | e'
        · exact e'.symm
        · have := q1 a e; have := p1 b e'; omega
    subst hab
    rw [recs_ext p2 q2 (fun x => ?_)]
    have hx := h x
    simp only [List.mem_cons] at hx
    constructor
    · intro hm
      rcases hx.1 (.inr hm) with e | e
      · subst e; have := p1 x hm; omega
      · exact e
    · intro hm
      rcases hx.2 (.inr hm) with e | e
      · subst e; have := q1 x hm; omega
      · exact e
theorem Recs.one {es : List EdgeV} (h : Recs es) (i j : Nat) (a b : EdgeV) (hi : es[i]? = some a) (hj : es[j]? = some b) (e : a.1 = b.1) : a = b := by
  obtain ⟨hi1, hi2⟩ := List.getElem?_eq_some_iff.1 hi
  obtain ⟨hj1, hj2⟩ := List.getElem?_eq_some_iff.1 hj
  rcases Nat.lt_trichotomy i j with h' | h' | h'
  · have := List.pairwise_iff_getElem.1 h i j hi1 hj1 h'; rw [hi2, hj2] at this; omega
  · subst h'; rw [hi] at hj; exact Option.some.inj hj
  · have := List.pairwise_iff_getElem.1 h j i hj1 hi1 h'; rw [hi2, hj2] at this; omega

structure RelG (g : Gr) (vs : List Int) (es : List EdgeV) : Prop where
  rv : Rising ltN vs
  V : ∀ k, g.V k = true ↔ k ∈ vs
  N : vs.length = g.N
  re : Recs es
  mem : ∀ x, x ∈ es ↔ ∃ i : Nat, g.ps[i]? = some (x, true)
  edge : ∀ (i : Nat) (x : EdgeV), g.ps[i]? = some (x, true) → x.1 = (i : Int) + 1 ∧ g.V x.2.1 = true ∧ g.V x.2.2.1 = true

section
variable {g : Gr} {vs : List Int} {es : List EdgeV}

theorem RelG.start (nb : Nat) : RelG ⟨fun _ => false, 0, [], 0, 0, nb⟩ [] [] := ⟨List.Pairwise.nil, fun k => by simp, rfl, List.Pairwise.nil, fun x => by simp, fun i x h => by simp at h⟩
theorem RelG.has (h : RelG g vs es) (k : Int) : decide (k ∈ vs) = g.V k := by
  cases e : g.V k with
  | true => exact decide_eq_true ((h.V k).1 e)
  | false => exact decide_eq_false (fun hm => by rw [(h.V k).2 hm] at e; cases e)
theorem RelG.no (h : RelG g vs es) (e : Int) : HasNo es e ↔ ∃ (i : Nat) (a : EdgeV), e = (i : Int) + 1 ∧ g.ps[i]? = some (a, true) := by
  constructor
  · rintro ⟨j, a, hj, rfl⟩
    obtain ⟨i, hi⟩ := (h.mem a).1 (List.mem_of_getElem? hj)
    exact ⟨i, a, (h.edge i a hi).1, hi⟩
  · rintro ⟨i, a, rfl, hi⟩
    obtain ⟨j, hj, e⟩ := List.mem_iff_getElem.1 ((h.mem a).2 ⟨i, hi⟩)
    exact ⟨j, a, by rw [List.getElem?_eq_getElem hj, e], (h.edge i a hi).1⟩
theorem RelG.noN (h : RelG g vs es) (i : Nat) : HasNo es ((i : Int) + 1) ↔ ∃ a, g.ps[i]? = some (a, true) := by
  rw [h.no]
  constructor
  · rintro ⟨j, a, e, hj⟩; exact ⟨a, by rw [show i = j by omega]; exact hj⟩
  · rintro ⟨a, ha⟩; exact ⟨i, a, rfl, ha⟩
theorem RelG.nums (h : RelG g vs es) (p : EdgeV → Bool) : (es.filter p).map (·.1) = numsOf p g.ps := by
  refine rising_ext linN ?_ (rising_numsOf _ _) (fun e => ?_)
  · refine List.pairwise_map.2 ((h.re.filter p).imp ?_)
    intro a b hab
    simpa [ltN] using hab
  · rw [mem_numsOf, List.mem_map]
    constructor
    · rintro ⟨x, hx, rfl⟩
      obtain ⟨hm, hp⟩ := List.mem_filter.1 hx
      obtain ⟨i, hi⟩ := (h.mem x).1 hm
      exact ⟨i, x, hi, hp, (h.edge i x hi).1⟩
    · rintro ⟨i, x, hi, hp, rfl⟩
      exact ⟨x, List.mem_filter.2 ⟨(h.mem x).2 ⟨i, hi⟩, hp⟩, (h.edge i x hi).1⟩
theorem RelG.all (h : RelG g vs es) : eAll es = numsOf (fun _ => true) g.ps := by
  rw [← h.nums]
  unfold eAll
  rw [List.filter_eq_self.2 (fun _ _ => rfl)]
theorem RelG.out (h : RelG g vs es) (k : Int) : eOut es k = outs g.ps k := h.nums _
theorem RelG.inn (h : RelG g vs es) (k : Int) : eIn es k = inns g.ps k := h.nums _
theorem RelG.len (h : RelG g vs es) : es.length ≤ g.ps.length := by
  have := congrArg List.length h.all
  unfold eAll at this
  rw [List.length_map] at this
  rw [this]; exact length_numsOf _ _
theorem RelG.outs_no (h : RelG g vs es) {k : Int} (hk : g.V k = false) : outs g.ps k = [] ∧ inns g.ps k = [] := by
  constructor
  · refine List.eq_nil_iff_forall_not_mem.2 (fun e he => ?_)
    obtain ⟨i, x, hi, hp, -⟩ := mem_numsOf.1 he
    have := (h.edge i x hi).2.1
    rw [of_decide_eq_true hp, hk] at this; cases this
  · refine List.eq_nil_iff_forall_not_mem.2 (fun e he => ?_)
    obtain ⟨i, x, hi, hp, -⟩ := mem_numsOf.1 he
    have := (h.edge i x hi).2.2
    rw [of_decide_eq_true hp, hk] at this; cases this

theorem plus_len (vs : List Int) (v : Int) : (plus vs v).length = vs.length + 1 := by
  unfold plus
  have := cnt_le (lt := ltN) vs v
  simp; omega
theorem RelG.addV (h : RelG g vs es) {v : Int} (hv : g.V v = false) : RelG { g with V := fun j => decide (j = v) || g.V j, N := g.N + 1 } (plus vs v) es := by
  have hm : v ∉ vs := fun e => by rw [(h.V v).2 e] at hv; cases hv
  obtain ⟨p1, p2⟩ := put_one h.rv hm
  refine ⟨p1, fun k => ?_, by rw [plus_len, h.N], h.re, h.mem, fun i x hi => ?_⟩
  · unfold plus
    rw [p2]
    simp only [Bool.or_eq_true, decide_eq_true_eq, h.V]
  · obtain ⟨e1, e2, e3⟩ := h.edge i x hi
    exact ⟨e1, by simp [e2], by simp [e3]⟩

theorem RelG.ins (h : RelG g vs es) {i k : Nat} {u v kb : Int} (hu : g.V u = true) (hv : g.V v = true) (hfree : ∀ a, g.ps[i]? ≠ some (a, true)) (hp : Puts es ((i : Int) + 1) k) :
    RelG (g.ins i u v kb) vs (es.take k ++ [((i : Int) + 1, u, v, kb)] ++ es.drop k) := by
  obtain ⟨hk, hp1, hp2⟩ := hp
  have hat : ∀ j y, (g.ins i u v kb).ps[j]? = some (y, true) ↔ (j = i ∧ y = ((i : Int) + 1, u, v, kb)) ∨ g.ps[j]? = some (y, true) := fun j y => at_put hfree
  have hge : ∀ a ∈ es.drop k, (i : Int) + 1 < a.1 := fun a ha => by
    obtain ⟨j, hj, e⟩ := List.mem_iff_getElem.1 ha
    have hjl : k + j < es.length := by rw [List.length_drop] at hj; omega
    have e1 : es[k + j]? = some a := by rw [List.getElem_drop] at e; rw [List.getElem?_eq_getElem hjl, e]
    have hne : a.1 ≠ (i : Int) + 1 := fun e2 => by
      obtain ⟨m, b, e3, hb⟩ := (h.no a.1).1 ⟨k + j, a, e1, rfl⟩
      exact hfree b (by rw [show i = m by omega]; exact hb)
    have h0 := hp2 es[k] (List.getElem?_eq_getElem (by omega))
    rcases Nat.eq_zero_or_pos j with e4 | e4
    · subst e4
      have : es[k] = a := by rw [Nat.add_zero] at e1; rw [List.getElem?_eq_getElem (by omega)] at e1; exact Option.some.inj e1
      rw [this] at h0; omega
    · have := List.pairwise_iff_getElem.1 h.re k (k + j) (by omega) hjl (by omega)
      have e5 : es[k + j] = a := by rw [List.getElem?_eq_getElem hjl] at e1; exact Option.some.inj e1
      rw [e5] at this; omega
  have hlt : ∀ a ∈ es.take k, a.1 < (i : Int) + 1 := fun a ha => by
    obtain ⟨j, hj, e⟩ := List.mem_iff_getElem.1 ha
    have hjk : j < k ∧ j < es.length := by rw [List.length_take] at hj; omega
    rw [List.getElem_take] at e
    exact hp1 j a hjk.1 (by rw [List.getElem?_eq_getElem hjk.2, e])
  have hre : Recs (es.take k ++ es.drop k) := by rw [List.take_append_drop]; exact h.re
  obtain ⟨r1, r2, r3⟩ := List.pairwise_append.1 hre
  refine ⟨h.rv, h.V, h.N, ?_, fun x => ?_, fun j x hj => ?_⟩
  · refine List.pairwise_append.2 ⟨List.pairwise_append.2 ⟨r1, List.pairwise_singleton _ _, fun a ha b hb => ?_⟩, r2, fun a ha b hb => ?_⟩
    · simp at hb; subst hb; exact hlt a ha
    · rcases List.mem_append.1 ha with ha | ha
      · exact r3 a ha b hb
      · simp at ha; subst ha; exact hge b hb
  · have e1 : x ∈ es ↔ x ∈ es.take k ∨ x ∈ es.drop k := by rw [← List.mem_append, List.take_append_drop]
    simp only [List.mem_append, List.mem_singleton]
    constructor
    · rintro ((hx | hx) | hx)
      · obtain ⟨j, hj⟩ := (h.mem x).1 (e1.2 (.inl hx)); exact ⟨j, (hat j x).2 (.inr hj)⟩
      · exact ⟨i, (hat i x).2 (.inl ⟨rfl, hx⟩)⟩
      · obtain ⟨j, hj⟩ := (h.mem x).1 (e1.2 (.inr hx)); exact ⟨j, (hat j x).2 (.inr hj)⟩
    · rintro ⟨j, hj⟩
      rcases (hat j x).1 hj with ⟨-, e⟩ | hj
      · exact .inl (.inr e)
      · rcases e1.1 ((h.mem x).2 ⟨j, hj⟩) with hx | hx
        · exact .inl (.inl hx)
        · exact .inr hx
  · rcases (hat j x).1 hj with ⟨rfl, rfl⟩ | hj
    · exact ⟨rfl, hu, hv⟩
    · exact h.edge j x hj
theorem cut_mem {es : List EdgeV} {k : Nat} {x : EdgeV} (h : Recs es) (hk : es[k]? = some x) : Recs (es.take k ++ es.drop (k + 1)) ∧ ∀ y, y ∈ es.take k ++ es.drop (k + 1) ↔ y ∈ es ∧ y.1 ≠ x.1 := by
  obtain ⟨hl, e⟩ := List.getElem?_eq_some_iff.1 hk
  have hd : es.drop k = x :: es.drop (k + 1) := by rw [List.drop_eq_getElem_cons hl, e]
  have hre : Recs (es.take k ++ es.drop k) := by rw [List.take_append_drop]; exact h
  rw [hd] at hre
  obtain ⟨r1, r2, r3⟩ := List.pairwise_append.1 hre
  obtain ⟨s1, s2⟩ := List.pairwise_cons.1 r2
  refine ⟨List.pairwise_append.2 ⟨r1, s2, fun a ha b hb => r3 a ha b (List.mem_cons_of_mem _ hb)⟩, fun y => ?_⟩
  have e1 : y ∈ es ↔ y ∈ es.take k ∨ y = x ∨ y ∈ es.drop (k + 1) := by
    rw [← List.mem_cons, ← hd, ← List.mem_append, List.take_append_drop]
  rw [List.mem_append, e1]
  constructor
  · rintro (hy | hy)
    · exact ⟨.inl hy, fun e => by have := r3 y hy x (by simp); omega⟩
    · exact ⟨.inr (.inr hy), fun e => by have := s1 y hy; omega⟩
  · rintro ⟨hy | hy | hy, hne⟩
    · exact .inl hy
    · exact absurd (by rw [hy]) hne
    · exact .inr hy
theorem RelG.cut (h : RelG g vs es) {i k : Nat} {x : EdgeV} (hi : g.ps[i]? = some (x, true)) (hk : es[k]? = some x) : RelG (g.cut i) vs (es.take k ++ es.drop (k + 1)) := by
  obtain ⟨c1, c2⟩ := cut_mem h.re hk
  have hat : ∀ j y, (g.cut i).ps[j]? = some (y, true) ↔ j ≠ i ∧ g.ps[j]? = some (y, true) := fun j y => at_cut
  refine ⟨h.rv, h.V, h.N, c1, fun y => ?_, fun j y hj => h.edge j y ((hat j y).1 hj).2⟩
  rw [c2, h.mem]
  have hx := (h.edge i x hi).1
  constructor
  · rintro ⟨⟨j, hj⟩, hne⟩
    have hy := (h.edge j y hj).1
    exact ⟨j, (hat j y).2 ⟨fun e => hne (by rw [hy, hx, e]), hj⟩⟩
  · rintro ⟨j, hj⟩
    obtain ⟨h1, h2⟩ := (hat j y).1 hj
    have hy := (h.edge j y h2).1
    exact ⟨⟨j, h2⟩, fun e => h1 (by omega)⟩

/-- The store with another weight. -/
def Gr.rew (g : Gr) (i : Nat) (x : EdgeV) : Gr := { g with ps := g.ps.set i (x, true), wr := g.wr + 1, nb := g.nb + 65536 }
theorem RelG.rew (h : RelG g vs es) {i k : Nat} {x : EdgeV} (b : Int) (hi : g.ps[i]? = some (x, true)) (hk : es[k]? = some x) : RelG (g.rew i (x.1, x.2.1, x.2.2.1, b)) vs (es.set k (x.1, x.2.1, x.2.2.1, b)) := by
  obtain ⟨hl, e⟩ := List.getElem?_eq_some_iff.1 hk
  obtain ⟨hil, -⟩ := List.getElem?_eq_some_iff.1 hi
  have hx := h.edge i x hi
  have hat : ∀ j y, (g.rew i (x.1, x.2.1, x.2.2.1, b)).ps[j]? = some (y, true) ↔ (j = i ∧ y = (x.1, x.2.1, x.2.2.1, b)) ∨ (j ≠ i ∧ g.ps[j]? = some (y, true)) := fun j y => by
    show (g.ps.set i ((x.1, x.2.1, x.2.2.1, b), true))[j]? = _ ↔ _
    rw [List.getElem?_set]
    by_cases e : i = j
    · subst e
      rw [if_pos rfl, if_pos hil]
      constructor
      · intro h; exact .inl ⟨rfl, by have := Option.some.inj h; exact (congrArg Prod.fst this).symm⟩
      · rintro (⟨-, rfl⟩ | ⟨h, -⟩)
        · rfl
        · exact absurd rfl h
    · rw [if_neg e]
      constructor
      · intro h; exact .inr ⟨fun e' => e e'.symm, h⟩
      · rintro (⟨h, -⟩ | ⟨-, h⟩)
        · exact absurd h.symm e
        · exact h
  refine ⟨h.rv, h.V, h.N, ?_, fun y => ?_, fun j y hj => ?_⟩
  · refine List.pairwise_iff_getElem.2 (fun a c ha hc hac => ?_)
    have ha' : a < es.length := by simpa using ha
    have hc' : c < es.length := by simpa using hc
    have := List.pairwise_iff_getElem.1 h.re a c ha' hc' hac
    rw [List.getElem_set, List.getElem_set]
    split <;> split
    · omega
    · rename_i e1 _; subst e1; rw [e] at this; exact this
    · rename_i _ e1; subst e1; rw [e] at this; exact this
    · exact this
  · constructor
    · intro hy
      obtain ⟨j, hj, e1⟩ := List.mem_iff_getElem.1 hy
      have hj' : j < es.length := by simpa using hj
      rw [List.getElem_set] at e1
      split at e1
      · exact ⟨i, (hat i y).2 (.inl ⟨rfl, e1.symm⟩)⟩
      · rename_i hne
        obtain ⟨m, hm⟩ := (h.mem y).1 (by rw [← e1]; exact List.getElem_mem hj')
        refine ⟨m, (hat m y).2 (.inr ⟨fun em => hne ?_, hm⟩)⟩
        subst em
        rw [hi] at hm
        have hyx : x = y := by have := Option.some.inj hm; exact congrArg Prod.fst this
        have h5 : es[j]? = some x := by rw [List.getElem?_eq_getElem hj', e1, hyx]
        rcases Nat.lt_trichotomy k j with h' | h' | h'
        · have := List.pairwise_iff_getElem.1 h.re k j hl hj' h'; rw [e, e1, hyx] at this; omega
        · exact h'
        · have := List.pairwise_iff_getElem.1 h.re j k hj' hl h'; rw [e, e1, hyx] at this; omega
    · rintro ⟨j, hj⟩
      rcases (hat j y).1 hj with ⟨-, rfl⟩ | ⟨hne, hj2⟩
      · exact List.mem_iff_getElem.2 ⟨k, by simpa using hl, by rw [List.getElem_set]; simp⟩
      · obtain ⟨m, hm, e1⟩ := List.mem_iff_getElem.1 ((h.mem y).2 ⟨j, hj2⟩)
        refine List.mem_iff_getElem.2 ⟨m, by simpa using hm, ?_⟩
        rw [List.getElem_set]
        split
        · rename_i e2
          subst e2
          have : y = x := by rw [← e1, e]
          subst this
          have := (h.edge j y hj2).1
          have := hx.1
          omega
        · exact e1
  · rcases (hat j y).1 hj with ⟨rfl, rfl⟩ | ⟨-, hj⟩
    · exact hx
    · exact h.edge j y hj

theorem RelG.lose (h : RelG g vs es) {v : Int} (hv : g.V v = true) : RelG (g.lose v) (vs.filter (fun k => !decide (k = v))) (es.filter (fun x => !hits v x)) := by
  have hbm : ∀ e, e ∈ boths g.ps v ↔ ∃ (i : Nat) (x : EdgeV), g.ps[i]? = some (x, true) ∧ hits v x = true ∧ e = (i : Int) + 1 := fun e => mem_numsOf
  have hat : ∀ (j : Nat) (y : EdgeV), (g.lose v).ps[j]? = some (y, true) ↔ ((j : Int) + 1 ∉ boths g.ps v) ∧ g.ps[j]? = some (y, true) := fun j y => at_clr _ _ j y (fun e he => boths_ge e he)
  have hat2 : ∀ (j : Nat) (y : EdgeV), (g.lose v).ps[j]? = some (y, true) ↔ hits v y = false ∧ g.ps[j]? = some (y, true) := fun j y => by
    rw [hat]
    constructor
    · rintro ⟨h1, h2⟩
      refine ⟨?_, h2⟩
      cases e : hits v y with
      | false => rfl
      | true => exact absurd ((hbm _).2 ⟨j, y, h2, e, rfl⟩) h1
    · rintro ⟨h1, h2⟩
      refine ⟨fun hm => ?_, h2⟩
      obtain ⟨i, x, hi, hx, e⟩ := (hbm _).1 hm
      rw [show i = j by omega, h2] at hi
      have : y = x := congrArg Prod.fst (Option.some.inj hi)
      rw [this, hx] at h1; cases h1
  have hm : v ∈ vs := (h.V v).1 hv
  refine ⟨h.rv.filter _, fun k => ?_, ?_, h.re.filter _, fun x => ?_, fun j y hj => ?_⟩
  · rw [List.mem_filter, ← h.V]
    show (!decide (k = v) && g.V k) = true ↔ _
    simp only [Bool.and_eq_true]
    exact ⟨fun h => ⟨h.2, h.1⟩, fun h => ⟨h.2, h.1⟩⟩
  · show _ = g.N - 1
    rw [← h.N]
    have hn : vs.Nodup := h.rv.nodup linN
    have e1 : vs.filter (fun k => !decide (k = v)) = vs.erase v := by
      rw [hn.erase_eq_filter v]
      refine List.filter_congr (fun k _ => ?_)
      by_cases e : k = v <;> simp [e]
    rw [e1, List.length_erase_of_mem hm]
  · rw [List.mem_filter, h.mem]
    constructor
    · rintro ⟨⟨i, hi⟩, hx⟩
      exact ⟨i, (hat2 i x).2 ⟨by simpa using hx, hi⟩⟩
    · rintro ⟨i, hi⟩
      obtain ⟨h1, h2⟩ := (hat2 i x).1 hi
      exact ⟨⟨i, h2⟩, by simp [h1]⟩
  · obtain ⟨h1, h2⟩ := (hat2 j y).1 hj
    obtain ⟨e1, e2, e3⟩ := h.edge j y h2
    unfold hits at h1
    simp only [Bool.or_eq_false_iff, decide_eq_false_iff_not] at h1
    refine ⟨e1, ?_, ?_⟩
    · show (!decide (y.2.1 = v) && g.V y.2.1) = true
      simp [h1.1, e2]
    · show (!decide (y.2.2.1 = v) && g.V y.2.2.1) = true
      simp [h1.2, e3]
/-- What goes with a vertex. -/
theorem RelG.gone (h : RelG g vs es) (v : Int) : (boths g.ps v).map (recOf g.ps) = es.filter (hits v) := by
  have e1 : boths g.ps v = (es.filter (hits v)).map (·.1) := (h.nums (hits v)).symm
  rw [e1, List.map_map]
  refine (List.map_congr_left (g := id) (fun x hx => ?_)).trans (List.map_id _)
  obtain ⟨i, hi⟩ := (h.mem x).1 (List.mem_filter.1 hx).1
  show recOf g.ps x.1 = x
  rw [(h.edge i x hi).1]
  exact recOf_at hi
theorem RelG.boths_len (h : RelG g vs es) (v : Int) : (boths g.ps v).length = (es.filter (hits v)).length := by rw [← h.gone v, List.length_map]
theorem filt_len (es : List EdgeV) (p : EdgeV → Bool) : (es.filter p).length + (es.filter (fun x => !p x)).length = es.length := by
  induction es with
  | nil => rfl
  | cons a es ih =>
    cases e : p a <;> simp [e] <;> omega
end
end

end Go.Proofs.YtgocbcacfcfblaaGreat
