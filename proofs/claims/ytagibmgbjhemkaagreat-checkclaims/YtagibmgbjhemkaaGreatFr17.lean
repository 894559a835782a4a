/- A claim that came in. -/
import Derived.Test.YtagibmgbjhemkaaGreatRk17
import Derived.Test.YtagibmgbjhemkaaGreatEn16
import Derived.Test.YtagibmgbjhemkaaGreatWkGame
import Derived.Test.YtagibmgbjhemkaaGreatRn16
import Derived.Test.YtagibmgbjhemkaaGreatFrame72
import Derived.Deep.Slices
import Derived.Deep.Strs
namespace Go.Proofs.YtagibmgbjhemkaaGreat
section
section
open Go.RowKit Go.Maps
open W16 (WtV Lies u8v i64v dec decV DecAns decodeR)
theorem hold_zero {hF hT : Bool} {ps : List (EdgeV × Bool)} {F T : Int} {u : Nat} {es : List Int} (h : (holdA hF hT (trip ps F es) F T u).2 = 0) : holdA hF hT (trip ps F es) F T u = (0, 0) := by
  unfold holdA at h ⊢
  by_cases h1 : hF = false ∨ hT = false
  · rw [if_pos h1] at h; cases h
  rw [if_neg h1] at h ⊢
  by_cases h2 : (trip ps F es).2 ≠ none
  · rw [if_pos h2] at h
    rcases tCode_ne h2 with e | e <;> (simp only [tCode, e] at h; cases h)
  rw [if_neg h2] at h ⊢
  by_cases h3 : endOf F (trip ps F es).1 ≠ T
  · rw [if_pos h3] at h; cases h
  rw [if_neg h3] at h ⊢
  by_cases h4 : costOf (trip ps F es).1 ≠ u
  · rw [if_pos h4] at h; cases h
  rw [if_neg h4]
theorem chk_hold {V : Int → Bool} {ps : List (EdgeV × Bool)} {bs : List Nat} {x : WtV} (hd : dec bs = some x) : (chkA V ps bs).2 = holdA (V x.1) (V x.2.1) (trip ps x.1 x.2.2.2) x.1 x.2.1 x.2.2.1 := by
  unfold chkA; rw [hd]
  by_cases h : (holdA (V x.1) (V x.2.1) (trip ps x.1 x.2.2.2) x.1 x.2.1 x.2.2.1).2 = 0
  · simp only [if_pos h]; rw [hold_zero h]
  · simp only [if_neg h]
set_option maxHeartbeats 8000000 in
set_option maxRecDepth 100000 in
theorem refClaimS {w : World} {vv gv v : Value} {rd wr : Int} {vs : List Int} {gs : List EdgeV} {ps : List (EdgeV × Bool)} {bs : List Nat} (f t : Int) (b : Nat) (hvs : NRow w vv vs) (hgs : GRow 0 w gv gs) (hG : GR8 ps gs) (hwt : ∀ x ∈ gs, Wt x) (hvl : vs.length ≤ 1000000) (hv : Lies u8v w v bs) (hb : ∀ x ∈ bs, x < 256) (hl : bs.length ≤ 140737488355328) :
    Calls Tryz.prog 17 #[.agg #[vv, gv, .int .i64 rd, .int .i64 wr], .int .i64 f, .int .i64 t, .int .u32 (b : Nat), v] w fun e w' => e = .returned (.tuple #[.int .i64 ((clmA (fun k => decide (k ∈ vs)) ps bs f t b).1 : Nat), .int .i64 (clmA (fun k => decide (k ∈ vs)) ps bs f t b).2]) ∧ Hid (Below w.heap.size w w') := by
  have q3 := below_new w (oG vv gv rd wr)
  have q4 : (w.alloc (oG vv gv rd wr)).heap.size = w.heap.size + 1 := by simp
  have q1 : (w.alloc (oG vv gv rd wr)).heap[w.heap.size]? = some (oG vv gv rd wr) := heap_alloc_new _ _
  have CD := hide (decodeR (w := w.alloc (oG vv gv rd wr)) (W16.lies_below hv q3) hb hl)
  have HE : Hid (∀ w2 F T u ev, Below (w.alloc (oG vv gv rd wr)).heap.size (w.alloc (oG vv gv rd wr)) w2 → (w2.alloc (oWt F T u ev)).heap[w2.heap.size]? = some (oWt F T u ev) ∧ (w2.alloc (oWt F T u ev)).heap[w.heap.size]? = some (oG vv gv rd wr) ∧ Below w.heap.size w (w2.alloc (oWt F T u ev)) ∧ Calls Tryz.prog 12 #[.agg #[vv, gv, .int .i64 rd, .int .i64 wr], v] (w2.alloc (oWt F T u ev)) fun e w' => Hid (RckAns (w2.alloc (oWt F T u ev)) (chkA (fun k => decide (k ∈ vs)) ps bs) e w')) := fun w2 F T u ev hw2 => by
    have h3 := below_new w2 (oWt F T u ev)
    have hz2 := hw2.size
    have hB : Below w.heap.size w (w2.alloc (oWt F T u ev)) := (q3.trans (hw2.mono (by omega))).trans (h3.mono (by omega))
    exact ⟨heap_alloc_new _ _, (h3.block _ (by omega)).trans ((hw2.block _ (by omega)).trans q1), hB, refCheckS (nrow_below hvs hB) (grow_below hgs hB) hG hwt hvl (W16.lies_below hv hB) hb hl⟩
  obtain ⟨va, vc, hva⟩ := W16.lies_shape hv
  obtain ⟨a1, c1, hv1⟩ := nrow_slice hvs
  obtain ⟨a2, c2, hv2⟩ := grow_slice hgs
  cases hd : dec bs with
  | none =>
    have e1 : clmA (fun k => decide (k ∈ vs)) ps bs f t b = (0, 160) := by unfold clmA; rw [hd]
    rw [e1]
    rw [decV_none hd] at CD
    clear q1 q3 q4 hvs hgs hG hwt hvl hv hb hd e1
    obtain ⟨vn, hvn⟩ : ∃ vn, vn = vs.length := ⟨_, rfl⟩
    obtain ⟨gn, hgn⟩ : ∃ gn, gn = gs.length := ⟨_, rfl⟩
    rw [← hvn] at hv1
    rw [← hgn] at hv2
    subst hva hv1 hv2
    clear hvn hgn
    generalize bs.length = bn at *
    go_enter Tryz.func17, Tryz.ntmps17
    go_upto_region 1 with fail
    change Code.wp _ _ _ _ (w.alloc (oG (.slice a1 vn c1) (.slice a2 gn c2) rd wr))
    generalize w.alloc (oG (.slice a1 vn c1) (.slice a2 gn c2) rd wr) = w1 at *
    go_wp2_with fail
    refine (unhide CD).mono ?_
    intro e w2 H2
    obtain ⟨ev, rfl, g1, g2⟩ := unhide H2
    obtain ⟨ea, ec, hev⟩ := W16.rrow_shape g1
    have hev2 : ev = .slice ea 0 ec := hev
    clear hev
    obtain ⟨j1, j2, j3, j4⟩ := unhide HE w2 0 0 0 ev g2
    have HB := hide j3
    have CC := hide j4
    obtain ⟨y0, y1, y2, y3⟩ := oWt_cells j1
    obtain ⟨c0, c1_, c2_, c3, -⟩ := cellsG j2
    subst hev2
    clear HE H2 g1 g2 CD j1 j2 j3 j4
    go_upto_region 2 with fail
    change Code.wp _ _ _ _ (w2.alloc (oWt 0 0 0 (.slice ea 0 ec)))
    generalize w2.alloc (oWt 0 0 0 (.slice ea 0 ec)) = w3 at *
    generalize w2.heap.size = b7 at *
    generalize hbb : w.heap.size = b0 at *
    go_wp2_with fail
    go_ret2
    exact ⟨rfl, by show Below _ _ _; rw [hbb]; exact unhide HB⟩
  | some x =>
    have hch := chk_hold (V := fun k => decide (k ∈ vs)) (ps := ps) hd
    obtain ⟨F, T, u, es⟩ := x
    obtain ⟨r, hr⟩ : ∃ r, r = holdA (decide (F ∈ vs)) (decide (T ∈ vs)) (trip ps F es) F T u := ⟨_, rfl⟩
    have e1 : clmA (fun k => decide (k ∈ vs)) ps bs f t b = if F = f ∧ T = t ∧ u = b then r else (0, 172) := by rw [hr]; unfold clmA; rw [hd]
    rw [e1]
    rw [decV_some hd] at CD
    simp only at hch
    rw [← hr] at hch
    obtain ⟨c, hc⟩ : ∃ c, c = chkA (fun k => decide (k ∈ vs)) ps bs := ⟨_, rfl⟩
    rw [← hc] at hch HE
    obtain ⟨⟨cF, cT, cu, ces⟩, c'⟩ := c
    obtain rfl : c' = r := hch
    obtain ⟨r1, r2⟩ := c'
    clear q1 q3 q4 hvs hgs hG hwt hvl hv hb hd e1 hr hc
    obtain ⟨vn, hvn⟩ : ∃ vn, vn = vs.length := ⟨_, rfl⟩
    obtain ⟨gn, hgn⟩ : ∃ gn, gn = gs.length := ⟨_, rfl⟩
    rw [← hvn] at hv1
    rw [← hgn] at hv2
    subst hva hv1 hv2
    clear hvn hgn
    generalize bs.length = bn at *
    by_cases z0 : F = f
    · by_cases z1 : T = t
      · by_cases z2 : u = b
        · rw [if_pos ⟨z0, z1, z2⟩]
          subst z0 z1 z2
          go_enter Tryz.func17, Tryz.ntmps17
          go_upto_region 1 with fail
          change Code.wp _ _ _ _ (w.alloc (oG (.slice a1 vn c1) (.slice a2 gn c2) rd wr))
          generalize w.alloc (oG (.slice a1 vn c1) (.slice a2 gn c2) rd wr) = w1 at *
          go_wp2_with fail
          refine (unhide CD).mono ?_
          intro e w2 H2
          obtain ⟨ev, rfl, g1, g2⟩ := unhide H2
          obtain ⟨ea, ec, hev⟩ := W16.rrow_shape g1
          simp only at hev g1 ⊢
          obtain ⟨n, hn⟩ : ∃ n, n = es.length := ⟨_, rfl⟩
          rw [← hn] at hev
          clear hn
          have hev2 := hev
          clear hev
          obtain ⟨j1, j2, j3, j4⟩ := unhide HE w2 F T u ev g2
          have HB := hide j3
          have CC := hide j4
          obtain ⟨y0, y1, y2, y3⟩ := oWt_cells j1
          obtain ⟨c0, c1_, c2_, c3, -⟩ := cellsG j2
          subst hev2
          clear HE H2 g1 g2 CD j1 j2 j3 j4
          go_upto_region 2 with fail
          change Code.wp _ _ _ _ (w2.alloc (oWt F T u (.slice ea n ec)))
          generalize w2.alloc (oWt F T u (.slice ea n ec)) = w3 at *
          generalize w2.heap.size = b7 at *
          generalize hbb : w.heap.size = b0 at *
          go_wp2_with fail
          refine (unhide CC).mono ?_
          intro e w4 H4
          obtain ⟨ev4, rfl, g1, g2⟩ := unhide H4
          obtain ⟨ea4, ec4, hev4⟩ := W16.rrow_shape g1
          simp only at hev4 g1 ⊢
          obtain ⟨n4, hn4⟩ : ∃ n4, n4 = ces.length := ⟨_, rfl⟩
          rw [← hn4] at hev4
          clear hn4
          have HB4 : Hid (Below b0 w (w4.alloc (oWt cF cT cu ev4))) := ((unhide HB).trans (g2.mono (by rw [← hbb]; exact (unhide HB).size))).trans ((below_new _ _).mono (by rw [← hbb]; exact Nat.le_trans (unhide HB).size g2.size))
          subst hev4
          clear CC H4 g1 g2 y0 y1 y2 y3 c0 c1_ c2_ c3 HB
          go_upto_region 7 with fail
          change Code.wp _ _ _ _ (w4.alloc (oWt cF cT cu (.slice ea4 n4 ec4)))
          generalize w4.alloc (oWt cF cT cu (.slice ea4 n4 ec4)) = w5 at *
          go_wp2_with fail
          go_ret2
          exact ⟨rfl, by show Below _ _ _; rw [hbb]; exact unhide HB4⟩
        · rw [if_neg (fun z => z2 z.2.2)]
          have z3 : ((u : Int) == (b : Int)) = false := by simp; omega
          subst z0 z1
          go_enter Tryz.func17, Tryz.ntmps17
          go_upto_region 1 with fail
          change Code.wp _ _ _ _ (w.alloc (oG (.slice a1 vn c1) (.slice a2 gn c2) rd wr))
          generalize w.alloc (oG (.slice a1 vn c1) (.slice a2 gn c2) rd wr) = w1 at *
          go_wp2_with fail
          refine (unhide CD).mono ?_
          intro e w2 H2
          obtain ⟨ev, rfl, g1, g2⟩ := unhide H2
          obtain ⟨ea, ec, hev⟩ := W16.rrow_shape g1
          simp only at hev g1 ⊢
          obtain ⟨n, hn⟩ : ∃ n, n = es.length := ⟨_, rfl⟩
          rw [← hn] at hev
          clear hn
          have hev2 := hev
          clear hev
          obtain ⟨j1, j2, j3, j4⟩ := unhide HE w2 F T u ev g2
          have HB := hide j3
          have CC := hide j4
          obtain ⟨y0, y1, y2, y3⟩ := oWt_cells j1
          obtain ⟨c0, c1_, c2_, c3, -⟩ := cellsG j2
          subst hev2
          clear HE H2 g1 g2 CD j1 j2 j3 j4
          go_upto_region 2 with fail
          change Code.wp _ _ _ _ (w2.alloc (oWt F T u (.slice ea n ec)))
          generalize w2.alloc (oWt F T u (.slice ea n ec)) = w3 at *
          generalize w2.heap.size = b7 at *
          generalize hbb : w.heap.size = b0 at *
          go_wp2_with fail
          go_ret2
          exact ⟨rfl, by show Below _ _ _; rw [hbb]; exact unhide HB⟩
      · rw [if_neg (fun z => z1 z.2.1)]
        have z3 : (T == t) = false := by simpa using z1
        subst z0
        go_enter Tryz.func17, Tryz.ntmps17
        go_upto_region 1 with fail
        change Code.wp _ _ _ _ (w.alloc (oG (.slice a1 vn c1) (.slice a2 gn c2) rd wr))
        generalize w.alloc (oG (.slice a1 vn c1) (.slice a2 gn c2) rd wr) = w1 at *
        go_wp2_with fail
        refine (unhide CD).mono ?_
        intro e w2 H2
        obtain ⟨ev, rfl, g1, g2⟩ := unhide H2
        obtain ⟨ea, ec, hev⟩ := W16.rrow_shape g1
        simp only at hev g1 ⊢
        obtain ⟨n, hn⟩ : ∃ n, n = es.length := ⟨_, rfl⟩
        rw [← hn] at hev
        clear hn
        have hev2 := hev
        clear hev
        obtain ⟨j1, j2, j3, j4⟩ := unhide HE w2 F T u ev g2
        have HB := hide j3
        have CC := hide j4
        obtain ⟨y0, y1, y2, y3⟩ := oWt_cells j1
        obtain ⟨c0, c1_, c2_, c3, -⟩ := cellsG j2
        subst hev2
        clear HE H2 g1 g2 CD j1 j2 j3 j4
        go_upto_region 2 with fail
        change Code.wp _ _ _ _ (w2.alloc (oWt F T u (.slice ea n ec)))
        generalize w2.alloc (oWt F T u (.slice ea n ec)) = w3 at *
        generalize w2.heap.size = b7 at *
        generalize hbb : w.heap.size = b0 at *
        go_wp2_with fail
        go_ret2
        exact ⟨rfl, by show Below _ _ _; rw [hbb]; exact unhide HB⟩
    · rw [if_neg (fun z => z0 z.1)]
      have z3 : (F == f) = false := by simpa using z0
      go_enter Tryz.func17, Tryz.ntmps17
      go_upto_region 1 with fail
      change Code.wp _ _ _ _ (w.alloc (oG (.slice a1 vn c1) (.slice a2 gn c2) rd wr))
      generalize w.alloc (oG (.slice a1 vn c1) (.slice a2 gn c2) rd wr) = w1 at *
      go_wp2_with fail
      refine (unhide CD).mono ?_
      intro e w2 H2
      obtain ⟨ev, rfl, g1, g2⟩ := unhide H2
      obtain ⟨ea, ec, hev⟩ := W16.rrow_shape g1
      simp only at hev g1 ⊢
      obtain ⟨n, hn⟩ : ∃ n, n = es.length := ⟨_, rfl⟩
      rw [← hn] at hev
      clear hn
      have hev2 := hev
      clear hev
      obtain ⟨j1, j2, j3, j4⟩ := unhide HE w2 F T u ev g2
      have HB := hide j3
      have CC := hide j4
      obtain ⟨y0, y1, y2, y3⟩ := oWt_cells j1
      obtain ⟨c0, c1_, c2_, c3, -⟩ := cellsG j2
      subst hev2
      clear HE H2 g1 g2 CD j1 j2 j3 j4
      go_upto_region 2 with fail
      change Code.wp _ _ _ _ (w2.alloc (oWt F T u (.slice ea n ec)))
      generalize w2.alloc (oWt F T u (.slice ea n ec)) = w3 at *
      generalize w2.heap.size = b7 at *
      generalize hbb : w.heap.size = b0 at *
      go_wp2_with fail
      go_ret2
      exact ⟨rfl, by show Below _ _ _; rw [hbb]; exact unhide HB⟩
end

namespace W16
open Go.RowKit Go.Maps
theorem newB {W : World} {v : Value} {ys : List Nat} (h : Lies u8v W v ys) (hl : ys.length ≤ 140737488355328) :
    ∃ a' n' c' w', (∀ ty, (Builtin.append_ #[23, 23] ty #[.slice (some ⟨W.heap.size, 0, none⟩) 0 0, v]).run Tryz.prog (W.alloc (.cells #[] 5)) = .ok (.slice a' n' c') w') ∧ ByRow W.heap.size w' (.slice a' n' c') ys ∧ Below W.heap.size W w' := by
  have hb := below_new W (.cells #[] 5)
  have hr : ByRow W.heap.size (W.alloc (.cells #[] 5)) (.slice (some ⟨W.heap.size, 0, none⟩) 0 0) [] := ⟨rfl, .inr ⟨W.heap.size, 0, #[], rfl, Nat.le_refl _, heap_alloc_new _ _, Nat.le_refl _, by unfold maxLen; omega, rfl, rfl⟩⟩
  obtain ⟨a', n', c', w', r, g1, g2, -⟩ := run_appBs hr hb.size (lies_below h hb) (by simpa using hl)
  rw [List.nil_append] at g1
  exact ⟨a', n', c', w', r, g1, hb.trans (g2.below hb.size (fun k e => by have := own_eq e; omega))⟩
end W16

section
open Go.RowKit Go.Maps
open W16 (WtV Lies u8v i64v dec decV DecAns)
/-- What is always so of the records. -/
structure PF (ps : List (EdgeV × Bool)) (vs : List Int) (gs : List EdgeV) : Prop where
  g8 : GR8 ps gs
  wt : ∀ x ∈ gs, Wt x
  wp : ∀ (i : Nat) (x : EdgeV), ps[i]? = some (x, true) → Wt x
  vl : vs.length ≤ 1000000
structure KXc [Inhabited EntI] (kb : List (Nat × Obj)) (rows : List (Value × List Int)) (w : World) (X : Sto) (ps : List (EdgeV × Bool)) (vv gv : Value) (vs : List Int) (gs : List EdgeV) (W : World) : Prop where
  st : StAt W X
  ps : X.ps = ps
  f : ∀ k, (X.f k).isSome = decide (k ∈ vs)
  lo : ∀ b, X.L b ≠ none → w.heap.size ≤ b
  bel : Below w.heap.size w W
  vs : NRow W vv vs ∧ ∀ b, vv.ownBlock = some b → X.L b = none
  gs : GRow 0 W gv gs ∧ ∀ b, gv.ownBlock = some b → X.L b = none
  kb : ∀ p ∈ kb, W.heap[p.1]? = some p.2 ∧ X.L p.1 = none
  rows : ∀ r ∈ rows, W16.NRow 0 W r.1 r.2 ∧ ∀ b, r.1.ownBlock = some b → X.L b = none
/-- The store s, the graph, boxes and lists. -/
def KC [Inhabited EntI] (kb : List (Nat × Obj)) (rows : List (Value × List Int)) (w : World) (s : Nat) (ps : List (EdgeV × Bool)) (vv gv : Value) (rd wr : Int) (vs : List Int) (gs : List EdgeV) (W : World) : Prop :=
  ∃ X, X.s = s ∧ X.rd = rd ∧ X.wr = wr ∧ KXc kb rows w X ps vv gv vs gs W
section
variable [Inhabited EntI] {kb : List (Nat × Obj)} {rows : List (Value × List Int)} {w W W' : World} {s : Nat} {X : Sto} {ps : List (EdgeV × Bool)} {vv gv : Value} {rd wr : Int} {vs : List Int} {gs : List EdgeV}
theorem KXc.move {r : Int} (h : KXc kb rows w X ps vv gv vs gs W) (hS : Step W X W' { X with rd := r }) : KXc kb rows w { X with rd := r } ps vv gv vs gs W' := by
  have hT : Turned (fun b => X.L b ≠ none) W W' := hS.2.2.1
  have old : ∀ b, b < W.heap.size → X.L b = none → W'.heap[b]? = W.heap[b]? := fun b q1 q2 => hT.block b q1 (fun z => z q2)
  exact ⟨hS.1, h.ps, h.f, h.lo, h.bel.trans (hT.below h.bel.size (fun b hb => h.lo b hb)), ⟨nrow_kept h.vs.1 (fun b e => old b (h.vs.1.lt b e).2 (h.vs.2 b e)), h.vs.2⟩, ⟨grow_kept h.gs.1 (fun b e => old b (h.gs.1.lt b e).2 (h.gs.2 b e)), h.gs.2⟩,
    fun p hp => ⟨(old _ (heap_lt (h.kb p hp).1) (h.kb p hp).2).trans (h.kb p hp).1, (h.kb p hp).2⟩, fun r hr => ⟨W16.rrow_kept (h.rows r hr).1 (fun b e => old b ((h.rows r hr).1.lt b e).2 ((h.rows r hr).2 b e)), (h.rows r hr).2⟩⟩
theorem KXc.below (h : KXc kb rows w X ps vv gv vs gs W) (hb : Below W.heap.size W W') : KXc kb rows w X ps vv gv vs gs W' := h.move (r := X.rd) (Step.below h.st hb)
theorem KC.below (h : KC kb rows w s ps vv gv rd wr vs gs W) (hb : Below W.heap.size W W') : KC kb rows w s ps vv gv rd wr vs gs W' := by
  obtain ⟨X, h1, h2, h3, h4⟩ := h
  exact ⟨X, h1, h2, h3, h4.below hb⟩
theorem KC.out (h : KC kb rows w s ps vv gv rd wr vs gs W) : Below w.heap.size w W := by
  obtain ⟨X, h1, h2, h3, h4⟩ := h
  exact h4.bel
/-- A box more. -/
theorem KC.box (h : KC kb rows w s ps vv gv rd wr vs gs W) (o : Obj) : KC ((W.heap.size, o) :: kb) rows w s ps vv gv rd wr vs gs (W.alloc o) := by
  obtain ⟨X, h1, h2, h3, h4⟩ := h
  have h5 := h4.below (below_new W o)
  exact ⟨X, h1, h2, h3, h5.st, h5.ps, h5.f, h5.lo, h5.bel, h5.vs, h5.gs, fun p hp => by
    rcases List.mem_cons.1 hp with e | e
    · subst e; exact ⟨heap_alloc_new _ _, h4.st.mem.new (Nat.le_refl _)⟩
    · exact h5.kb p e, h5.rows⟩
/-- A list more. -/
theorem KC.row (h : KC kb rows w s ps vv gv rd wr vs gs W) {v : Value} {ks : List Int} {B : Nat} (hB : W.heap.size ≤ B) (hb : Below W.heap.size W W') (hr : W16.NRow B W' v ks) : KC kb ((v, ks) :: rows) w s ps vv gv rd wr vs gs W' := by
  obtain ⟨X, h1, h2, h3, h4⟩ := h
  have h5 := h4.below hb
  exact ⟨X, h1, h2, h3, h5.st, h5.ps, h5.f, h5.lo, h5.bel, h5.vs, h5.gs, h5.kb, fun r hr' => by
    rcases List.mem_cons.1 hr' with e | e
    · subst e; exact ⟨W16.rrow_low hr (Nat.zero_le _), fun b e => h4.st.mem.new (by have := (hr.lt b e).1; omega)⟩
    · exact h5.rows r e⟩
theorem KC.get (h : KC kb rows w s ps vv gv rd wr vs gs W) {b : Nat} {o : Obj} (hb : (b, o) ∈ kb) : W.heap[b]? = some o := by
  obtain ⟨X, h1, h2, h3, h4⟩ := h
  exact (h4.kb _ hb).1
theorem KC.graph (h : KC kb rows w s ps vv gv rd wr vs gs W) : NRow W vv vs ∧ GRow 0 W gv gs := by
  obtain ⟨X, h1, h2, h3, h4⟩ := h
  exact ⟨h4.vs.1, h4.gs.1⟩
theorem kcClaim (hp : PF ps vs gs) (h : KC kb rows w s ps vv gv rd wr vs gs W) (f t : Int) (u : Nat) {v : Value} {bs : List Nat} (hv : Lies u8v W v bs) (hb : ∀ x ∈ bs, x < 256) (hl : bs.length ≤ 140737488355328) (ho : ∀ b, v.ownBlock = some b → b < W.heap.size) (hr0 : 0 ≤ rd) (hr1 : rd ≤ 100000000) :
    Calls Tryz.prog 16 #[.iface 24 (.pointer (some ⟨s, 0, none⟩)), .int .i64 f, .int .i64 t, .int .u32 (u : Nat), v] W fun e w' => e = .returned (.tuple #[.int .i64 ((clmA (fun k => decide (k ∈ vs)) ps bs f t u).1 : Nat), .int .i64 (clmA (fun k => decide (k ∈ vs)) ps bs f t u).2]) ∧ Hid (∃ k : Nat, k ≤ (decV bs).1.2.2.2.length ∧ KC kb rows w s ps vv gv (rd + (k : Nat)) wr vs gs w') := by
  obtain ⟨X, rfl, rfl, rfl, h4⟩ := h
  have eV : (fun k => (X.f k).isSome) = fun k => decide (k ∈ vs) := funext fun k => h4.f k
  have := claimS (X := X) f t u h4.st hv hb hl ho hr0 hr1 (by rw [h4.ps]; exact hp.wp)
  rw [eV, h4.ps] at this
  refine this.mono ?_
  rintro e w' ⟨rfl, hh⟩
  obtain ⟨k, g2, g3⟩ := unhide hh
  exact ⟨rfl, k, g2, { X with rd := X.rd + (k : Int) }, rfl, rfl, rfl, h4.move g3⟩
theorem kcRefClaim (hp : PF ps vs gs) (h : KC kb rows w s ps vv gv rd wr vs gs W) {rd' wr' : Int} (f t : Int) (u : Nat) {v : Value} {bs : List Nat} (hv : Lies u8v w v bs) (hb : ∀ x ∈ bs, x < 256) (hl : bs.length ≤ 140737488355328) :
    Calls Tryz.prog 17 #[.agg #[vv, gv, .int .i64 rd', .int .i64 wr'], .int .i64 f, .int .i64 t, .int .u32 (u : Nat), v] W fun e w' => e = .returned (.tuple #[.int .i64 ((clmA (fun k => decide (k ∈ vs)) ps bs f t u).1 : Nat), .int .i64 (clmA (fun k => decide (k ∈ vs)) ps bs f t u).2]) ∧ Hid (Below W.heap.size W w') :=
  refClaimS f t u h.graph.1 h.graph.2 hp.g8 hp.wt hp.vl (W16.lies_below hv h.out) hb hl
/-- Behind Built. -/
theorem kc_built {m : Nat} {g : Gr} (hG : Game m X g vv gv vs gs W) (hs : X.s = s) (hrd : g.rd = rd) (hwr : g.wr = wr) (hL : ∀ b, X.L b ≠ none → w.heap.size ≤ b) (hB : Below w.heap.size w W) : KC [] [] w s g.ps vv gv rd wr vs gs W ∧ PF g.ps vs gs ∧ 0 ≤ rd ∧ rd ≤ (m : Int) := by
  have hps := hG.sh.ps
  refine ⟨⟨X, hs, by rw [hG.sh.rd, hrd], by rw [hG.sh.wr, hwr], hG.st, hps, fun k => ?_, hL, hB, ⟨hG.vrow, hG.vfr⟩, ⟨hG.erow, hG.efr⟩, fun p hp => (by cases hp), fun r hr => (by cases hr)⟩, ⟨⟨hG.elen, hG.rel.re, fun x hx => hG.rel.lk hx, fun e x hk => ?_⟩, fun x hx => ?_, fun i x hx => hG.wt i x (by rw [hps]; exact hx), ?_⟩, ?_, ?_⟩
  · rw [hG.sh.V, Bool.eq_iff_iff, decide_eq_true_iff]; exact hG.rel.V k
  · obtain ⟨i, rfl, hi⟩ := lk_some hk
    exact ⟨(hG.rel.mem x).2 ⟨i, hi⟩, (hG.rel.edge i x hi).1⟩
  · obtain ⟨i, hi⟩ := (hG.rel.mem x).1 hx
    exact hG.wt i x (by rw [hps]; exact hi)
  · have := hG.rel.N; have := hG.sh.N; have := hG.st.size; omega
  · have := hG.bnd.rd0; omega
  · have := hG.bnd.rd1; omega
end
end
end
section
namespace W16
open Go.RowKit Go.Maps

end W16

section
open Go.RowKit Go.Maps
open W16 (WtV Lies u8v i64v dec decV DecAns)
end

section
open Go.RowKit Go.Maps
open W16 (WtV Lies u8v i64v dec decV DecAns)
theorem isOps_below {w W : World} {a : Option Addr} {len : Nat} {o : Nat → OpV} (h : IsOps w a len o) (hb : Below w.heap.size w W) : IsOps W a len o := by
  rcases h with q | ⟨b, off, e, h0, hh⟩
  · exact .inl q
  · exact .inr ⟨b, off, e, h0, fun i hi => ⟨opAt_below (hh i hi).1 hb, (hh i hi).2⟩⟩
def Bel (a b : World) : Prop := Below a.heap.size a b
theorem bel_then {a b c : World} (h : Bel a b) (k : Below b.heap.size b c) : Below a.heap.size a c := Below.trans h (k.mono h.size)
def oSd (f t : Int) (u : Nat) : Obj := .cells #[.int .i64 f, .int .i64 t, .int .u32 (u : Nat)] 46
theorem oSd_cells {w : World} {b : Nat} {f t : Int} {u : Nat} (h : w.heap[b]? = some (oSd f t u)) : w.cell? ⟨b, 0, none⟩ = some (.int .i64 f) ∧ w.cell? ⟨b, 1, none⟩ = some (.int .i64 t) ∧ w.cell? ⟨b, 2, none⟩ = some (.int .u32 (u : Nat)) :=
  ⟨(cell_of_row _ _ 0 _ _ (0, 0) h).trans rfl, (cell_of_row _ _ 1 _ _ (0, 0) h).trans rfl, (cell_of_row _ _ 2 _ _ (0, 0) h).trans rfl⟩
set_option maxHeartbeats 16000000 in
set_option maxRecDepth 100000 in
theorem claims17 [Inhabited EntI] (a : Option Addr) (len cap : Nat) (o : Nat → OpV) (f t : Int) (u : Nat) (w0 : World) (h0 : IsOps w0 a len o) {v : Value} {bs : List Nat} (hv0 : Lies u8v w0 v bs) (hx : ∀ x ∈ bs, x < 256) (hl : bs.length ≤ 140737488351232) :
    Calls Tryz.prog 4 #[.slice a len cap, .agg #[.int .i64 f, .int .i64 t, .int .u32 (u : Nat)], v] w0 fun e w' => e = .returned (.bool true) ∧ Hid (Below w0.heap.size w0 w') := by
  have hbs := below_new w0 (oSd f t u)
  have h := isOps_below h0 hbs
  have hv := W16.lies_below hv0 hbs
  have hsd : (w0.alloc (oSd f t u)).heap[w0.heap.size]? = some (oSd f t u) := heap_alloc_new _ _
  have HSD : Hid (Bel w0 (w0.alloc (oSd f t u)) ∧ ∀ W, Below (w0.alloc (oSd f t u)).heap.size (w0.alloc (oSd f t u)) W → W.heap[w0.heap.size]? = some (oSd f t u)) := ⟨hbs, fun W hW => (hW.block _ (by simp)).trans hsd⟩
  clear h0 hv0 hbs hsd
  obtain ⟨w, hw⟩ : ∃ w, w = w0.alloc (oSd f t u) := ⟨_, rfl⟩
  rw [← hw] at h hv HSD
  have HWW := hide hw
  clear hw
  have CB := hide (builtS a len cap o w h)
  have CW : Hid (∀ W : World, Calls Tryz.prog 9 #[] W fun e w' => e = .returned (.bool true) ∧ Hid (Below W.heap.size W w')) := fun W => awake17S W
  have HV : Hid (Lies u8v w v bs ∧ (∀ x ∈ bs, x < 256) ∧ bs.length ≤ 140737488351232) := ⟨hv, hx, hl⟩
  obtain ⟨va, vc, hva⟩ := W16.lies_shape hv
  obtain ⟨bn, hbn⟩ : ∃ bn, bn = bs.length := ⟨_, rfl⟩
  rw [← hbn] at hva
  clear h hv hx hl hbn
  subst hva
  go_enter Tryz.func4, Tryz.ntmps4
  go_upto_region 1 with fail
  change Code.wp _ _ _ _ (w0.alloc (oSd f t u))
  rw [← unhide HWW]
  clear HWW
  generalize w0.heap.size = b4 at *
  go_wp2_with fail
  refine (unhide CB).mono ?_
  rintro e w1 hh
  obtain ⟨s, a1, m1, q1, a2, m2, q2, rd, wr0, rfl, n, X, g, vs, gs, hn, hG, hs, hL, hB, hrd, hwr⟩ := unhide hh
  obtain ⟨hK, hP, hr0, hr1⟩ := kc_built hG hs hrd hwr hL hB
  have HP := hide hP
  have HR : Hid (0 ≤ rd ∧ rd ≤ 120) := ⟨hr0, by omega⟩
  have HK := hide (hK.box (oG (.slice a1 m1 q1) (.slice a2 m2 q2) rd wr0))
  generalize g.ps = ps at *
  clear hh hG hs hL hB hrd hwr CB hn hK hP hr0 hr1
  go_upto_region 2 with fail
  change Code.wp _ _ _ _ (w1.alloc (oG (.slice a1 m1 q1) (.slice a2 m2 q2) rd wr0))
  generalize w1.alloc (oG (.slice a1 m1 q1) (.slice a2 m2 q2) rd wr0) = w2 at *
  generalize w1.heap.size = b6 at *
  go_wp2_with fail
  refine (unhide CW _).mono ?_
  rintro e w3 ⟨rfl, hb3⟩
  have HK3 := hide ((unhide HK).below (unhide hb3))
  clear HK hb3 CW
  obtain ⟨C, hC⟩ : ∃ C, C = clmA (fun k => decide (k ∈ vs)) ps bs f t u := ⟨_, rfl⟩
  obtain ⟨v5, c5, n5, w5, hr5, g1, g2⟩ := W16.newB (W := w3.drew) (W16.lies_below (unhide HV).1 ((unhide HK3).below ((Below.refl _ _).drew)).out) (by have := (unhide HV).2.2; omega)
  have CD := hide (kcClaim (unhide HP) (((unhide HK3).below ((Below.refl _ _).drew)).below g2) f t u (W16.byrow_lies g1) (unhide HV).2.1 (by have := (unhide HV).2.2; omega) (fun g e => (g1.lt g e).2) (unhide HR).1 (by have := (unhide HR).2; omega))
  rw [← hC] at CD
  have HC := hide hC
  clear hC
  obtain ⟨pl, cd⟩ := C
  have HBW : Hid (Below w.heap.size w w5 ∧ Below w.heap.size w w3) := by
    have h3 := (unhide HK3).out
    exact ⟨(h3.trans ((Below.refl w3.heap.size w3).drew.mono h3.size)).trans (g2.mono h3.size), h3⟩
  have HR5 := hide hr5
  have HKR : Hid (KC [(b6, oG (.slice a1 m1 q1) (.slice a2 m2 q2) rd wr0)] [] w s ps (.slice a1 m1 q1) (.slice a2 m2 q2) rd wr0 vs gs w3) := unhide HK3
  clear g1 g2 hr5 HK3
  have hS := oSd_cells ((unhide HSD).2 w3 (unhide HBW).2)
  have hS8 := oSd_cells ((unhide HSD).2 (w3.drew.alloc (.cells #[] 5)) (((unhide HBW).2.trans ((Below.refl w3.heap.size w3).drew.mono (unhide HBW).2.size)).alloc (unhide HBW).2.size _))
  have hS5 := oSd_cells ((unhide HSD).2 w5 (unhide HBW).1)
  go_upto_region 4 with fail
  refine wp_region_noPanic ?_
  refine regionL [] (fun y => y.cell? ⟨b4, 0, none⟩ = some (.int .i64 f) ∧ y.cell? ⟨b4, 1, none⟩ = some (.int .i64 t) ∧ y.cell? ⟨b4, 2, none⟩ = some (.int .u32 (u : Nat))) (by kernel_rfl) hS (fun hHeld => ?_)
  refine takeN 0 27 rfl ?_
  (try simp only [sl])
  refine takeN 1 28 rfl ?_
  (try simp only [sl])
  refine takeN 2 29 rfl ?_
  (try simp only [sl])
  refine takeN 3 30 rfl ?_
  (try simp only [sl])
  refine takeN 4 31 rfl ?_
  (try simp only [sl])
  refine takeN 5 32 rfl ?_
  (try simp only [sl])
  refine takeN 6 33 rfl ?_
  (try simp only [sl])
  refine takeN 7 34 rfl ?_
  (try simp only [sl])
  refine takeN 9 36 rfl ?_
  (try simp only [sl])
  refine readyL (i := 8) (by kernel_rfl) rfl (fun K hK => ?_)
  go_simp
  refine hK.out _ _ (fun _ => hS8) ?_
  clear hK K
  (try simp only [sl])
  have hH4 := hS8
  refine readyL (i := 10) (by kernel_rfl) rfl (fun K hK => ?_)
  refine step_append_run rfl (.tmp 35) (.tmp 36) 23 rfl _ _ (by simp [Act.eval]) (by simp [Act.eval]) _ _ (unhide HR5 _) ?_
  refine hK.out _ _ (fun _ => hS5) ?_
  clear hK K
  (try simp only [sl])
  have hH5 := hS5
  refine readyL (i := 11) (by kernel_rfl) rfl (fun K hK => ?_)
  go_simp
  refine (unhide CD).mono ?_
  rintro e w6 ⟨rfl, H6⟩
  obtain ⟨k, -, hK6⟩ := unhide H6
  have hS6 := oSd_cells ((unhide HSD).2 w6 hK6.out)
  (try dsimp only)
  refine hK.out _ _ (fun _ => hS6) ?_
  clear hK K
  (try simp only [sl])
  have hH7 := hS6
  refine takeN 12 26 rfl ?_
  (try simp only [sl])
  refine takeN 13 39 rfl ?_
  (try simp only [sl])
  refine takeN 14 40 rfl ?_
  (try simp only [sl])
  refine takeN 15 10 rfl ?_
  (try simp only [sl])
  refine takeN 16 11 rfl ?_
  (try simp only [sl])
  refine doneL (by kernel_rfl) ?_ _
  refine NoPanic.normal ?_
  have CRf := hide (kcRefClaim (rd' := rd) (wr' := wr0) (unhide HP) hK6 f t u (unhide HV).1 (unhide HV).2.1 (by have := (unhide HV).2.2; omega))
  rw [← unhide HC] at CRf
  obtain ⟨c0, c1, c2, c3, -⟩ := cellsG (hK6.get (b := b6) (o := oG (.slice a1 m1 q1) (.slice a2 m2 q2) rd wr0) (by simp))
  obtain ⟨y0, y1, y2⟩ := hS6
  have HO : Hid (Bel w0 w6) := bel_then (unhide HSD).1 hK6.out
  clear hHeld hS hS8 hS5 CD H6 hK6 HR5 HKR HBW HC HSD HV HP HR
  simp only at CRf
  go_wp2_with fail
  refine (unhide CRf).mono ?_
  rintro e w7 ⟨rfl, hb7⟩
  have HO7 : Hid (Bel w0 w7) := bel_then (unhide HO) (unhide hb7)
  clear CRf hb7 c0 c1 c2 c3 y0 y1 y2 HO
  go_wp2_with fail
  go_ret
  exact ⟨rfl, HO7⟩
end

namespace W16
open Go.ChangeShapes Go.WideShapes Go.ChangeAt Go.RowKit
theorem cellsOf3 : Tryz.prog.cellsOf 3 = 1 := by kernel_rfl
theorem cellsOfU : Tryz.prog.cellsOf 33 = 1 := by kernel_rfl
theorem cellsOfB : Tryz.prog.cellsOf 5 = 1 := by kernel_rfl
theorem bytesB : Tryz.prog.bytesOf 5 = 1 := by kernel_rfl
theorem addr_none {w : World} {x : Addr} {v : Value} (h : w.cell? (x.add 0) = some v) : x.spot = none := by
  have := World.cell?_spot h
  simpa [Addr.add] using this
/-- A slice whose elements are one cell each, opened. -/
theorem open_lies {H : Type} {enc : TypeId × Value → H} {W : World} {spare : Nat → Bool} {held : Bool} {v : Value} {fuel : Nat} {x : DataW H × List MemPlace} {t e : TypeId} {α : Type} [Inhabited α] (f : α → Value) (Q : α → Prop) (ht : Tryz.prog.underlying t = some (.slice e)) (he : Tryz.prog.cellsOf e = 1)
    (hf : ∀ n (u : Value) y, DataW.trod enc Tryz.prog W 0 spare held n e [u] = some y → ∃ x, u = f x ∧ Q x) (h : DataW.trod enc Tryz.prog W 0 spare held fuel t [v] = some x) :
    ∃ (xs : List α) (a : Option Addr) (len cap : Nat), v = .slice a len cap ∧ Lies f W v xs ∧ (∀ x ∈ xs, Q x) ∧ len = xs.length ∧ (x.1 = .nil ∧ xs = [] ∨ ∃ es sp, x.1 = .slice es sp ∧ xs.length ≤ es.length) := by
  rcases Deep.open_slice1 ht he h with ⟨hcs, hx⟩ | ⟨y, l, c, m, n, V, D, Pl, hcs, -, hl, -, hmm, hx, hel⟩
  · simp only [List.cons.injEq, and_true] at hcs
    subst hcs
    exact ⟨[], none, 0, 0, rfl, ⟨none, 0, rfl, Nat.le_refl _, fun _ => rfl, .inl rfl⟩, fun x hx => (by cases hx), rfl, .inl ⟨by rw [hx], rfl⟩⟩
  · simp only [List.cons.injEq, and_true] at hcs
    subst hcs
    have hlm : l ≤ m := by rw [hmm]; split <;> omega
    obtain ⟨z, hz⟩ := Deep.choose_lt (α := α) (n := l) (p := fun i y' => W.cell? (y.add i) = some (f y') ∧ Q y') (fun i hi => by
      obtain ⟨h1, h2⟩ := hel i (by omega)
      obtain ⟨y', hy, hq⟩ := hf _ _ _ h2
      exact ⟨y', by rw [h1, hy], hq⟩)
    refine ⟨(List.range l).map z, some y, l, c, rfl, ⟨some y, c, by simp, by simpa using hl, fun e => (by cases e), ?_⟩, fun x hx => ?_, by simp, .inr ⟨_, _, by rw [hx], by simp⟩⟩
    · rcases Nat.eq_zero_or_pos l with h0 | h0
      · exact .inl (by rw [h0]; rfl)
      · obtain ⟨b, off, spot⟩ := y
        obtain rfl : spot = none := addr_none (hz 0 h0).1
        refine .inr ⟨b, off, rfl, fun i x hx => ?_⟩
        have hi : i < l := by have := (List.getElem?_eq_some_iff.1 hx).1; simpa using this
        have e : z i = x := by simpa [hi] using hx
        have := (hz i hi).1
        rw [add_off13, e] at this
        exact this
    · simp only [List.mem_map, List.mem_range] at hx
      obtain ⟨i, hi, rfl⟩ := hx
      exact (hz i hi).2
theorem open_by {H : Type} {enc : TypeId × Value → H} {W : World} {spare : Nat → Bool} {held : Bool} {v : Value} {d : DataW H} {p : List MemPlace} (hv : ∃ c, v.cells = #[c] ∧ c = v) (h : DataW.Trod enc Tryz.prog W 0 spare held 23 v d p) :
    ∃ (bs : List Nat) (a : Option Addr) (len cap : Nat), v = .slice a len cap ∧ Lies u8v W v bs ∧ (∀ x ∈ bs, x < 256) ∧ len = bs.length ∧ (d = .nil ∧ bs = [] ∨ ∃ es sp, d = .slice es sp ∧ bs.length ≤ es.length) := by
  obtain ⟨fuel, hf⟩ := h
  obtain ⟨c, hc, rfl⟩ := hv
  rw [show c.cells.toList = [c] by rw [hc]] at hf
  exact open_lies u8v (fun x => x < 256) Tryz.underlying23 cellsOfB (fun n u y hy => by
    obtain ⟨k, e, -, wk⟩ := DataW.trod_int Tryz.underlying5 hy
    have hk : 0 ≤ k ∧ k < 256 := by
      have h1 : IntKind.u8.min = 0 := by decide
      have h2 : IntKind.u8.max = 255 := by decide
      simp [Lit.wf] at wk; omega
    exact ⟨k.toNat, by simp only [List.cons.injEq, and_true] at e; rw [e]; simp [u8v]; omega, by omega⟩) hf
theorem by_sized {H : Type} {ts : List TypeId} {ds : List (DataW H)} (hsz : (DataW.weightsEach Tryz.prog ts ds).all (· ≤ reachBytes) = true) {j : Nat} {d : DataW H} (ht : ts[j]? = some 23) (hd : ds[j]? = some d) {bs : List Nat} (h : d = .nil ∧ bs = [] ∨ ∃ xs sp, d = .slice xs sp ∧ bs.length ≤ xs.length) : bs.length ≤ 140737488351232 := by
  rcases h with ⟨-, rfl⟩ | ⟨xs, sp, rfl, h⟩
  · simp
  · have := sized_slice hsz ht hd Tryz.underlying23
    rw [bytesB] at this
    unfold reachBytes at this
    omega
end W16

section
open Go.ChangeShapes Go.WideShapes Go.ChangeAt Go.RowKit
theorem cellsOfSd : Tryz.prog.cellsOf 46 = 3 := by kernel_rfl
theorem trod_struct3 {H : Type} {enc : TypeId × Value → H} {P : Program} {w : World} {base : Nat} {spare : Nat → Bool} {held : Bool} {t : TypeId} {f0 f1 f2 : Field} {fuel : Nat} {cs : List Value} {x : DataW H × List MemPlace} (ht : P.underlying t = some (.struct #[f0, f1, f2])) (h : DataW.trod enc P w base spare held fuel t cs = some x) :
    ∃ y0 y1 y2 n, DataW.trod enc P w base spare held n f0.type ((cs.drop f0.offset).take (P.cellsOf f0.type)) = some y0 ∧
      DataW.trod enc P w base spare held n f1.type ((cs.drop f1.offset).take (P.cellsOf f1.type)) = some y1 ∧ DataW.trod enc P w base spare held n f2.type ((cs.drop f2.offset).take (P.cellsOf f2.type)) = some y2 := by
  obtain ⟨xs, n, _, rfl, hl, hlen, hf⟩ := DataW.trod_struct ht h
  match xs, hlen with
  | [y0, y1, y2], _ => exact ⟨y0, y1, y2, n, by simpa using hf 0 f0 rfl, by simpa using hf 1 f1 rfl, by simpa using hf 2 f2 rfl⟩
set_option maxRecDepth 100000 in
theorem open_said {H : Type} {enc : TypeId × Value → H} {W : World} {spare : Nat → Bool} {held : Bool} {r : Reach} {b0 : Nat} {v : Value} {d : DataW H} {p : List MemPlace} (hv : Value.okWide Tryz.prog W r b0 46 v) (h : DataW.Trod enc Tryz.prog W 0 spare held 46 v d p) :
    ∃ (f t : Int) (u : Nat), v = .agg #[.int .i64 f, .int .i64 t, .int .u32 (u : Nat)] := by
  obtain ⟨cs, rfl, hsz⟩ := okWide_struct Tryz.underlying46 hv
  obtain ⟨fuel, hf⟩ := h
  obtain ⟨l⟩ := cs
  rw [cellsOfSd] at hsz
  match l, hsz with
  | [c0, c1, c2], _ =>
    obtain ⟨y0, y1, y2, q, e0, e1, e2⟩ := trod_struct3 Tryz.underlying46 hf
    simp only [W16.cellsOf3, W16.cellsOfU, Value.cells, List.drop, List.take] at e0 e1 e2
    obtain ⟨k0, f0, -, w0⟩ := DataW.trod_int Tryz.underlying3 e0
    obtain ⟨k1, f1, -, w1⟩ := DataW.trod_int Tryz.underlying3 e1
    obtain ⟨k2, f2, -, w2⟩ := DataW.trod_int Tryz.underlying33 e2
    simp only [List.cons.injEq, and_true] at f0 f1 f2
    subst f0 f1 f2
    have hk : 0 ≤ k2 := by
      have h1 : IntKind.u32.min = 0 := by decide
      simp [Lit.wf] at w2; omega
    obtain ⟨u, rfl⟩ := Int.eq_ofNat_of_zero_le hk
    exact ⟨k0, k1, u, rfl⟩
end
end
end Go.Proofs.YtagibmgbjhemkaaGreat
