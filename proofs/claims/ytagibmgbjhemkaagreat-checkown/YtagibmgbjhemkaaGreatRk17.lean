/- The reference's Check (made by mkref17.py). -/
import Derived.Test.YtagibmgbjhemkaaGreatCm17
import Derived.Test.YtagibmgbjhemkaaGreatRd16
import Derived.Test.YtagibmgbjhemkaaGreatWkRefC
namespace Go.Proofs.YtagibmgbjhemkaaGreat
open Go.RowKit Go.Maps
open W16 (WtV Lies u8v i64v dec decV DecAns decodeR)
/-- What the reference's Check answers. -/
def RckAns (w : World) (r : WtV × Nat × Int) (e : Ending) (w' : World) : Prop :=
  ∃ ev, e = .returned (.tuple #[.agg #[.int .i64 r.1.1, .int .i64 r.1.2.1, .int .u32 (r.1.2.2.1 : Nat), ev], .int .i64 (r.2.1 : Nat), .int .i64 r.2.2]) ∧ W16.NRow w.heap.size w' ev r.1.2.2.2 ∧ Below w.heap.size w w'
theorem grow_slice {w : World} {v : Value} {es : List EdgeV} (h : GRow 0 w v es) : ∃ a c, v = .slice a es.length c := by
  obtain ⟨a, n, c, e⟩ := grow_shape h
  rcases h.2 with ⟨q, h0⟩ | ⟨g, cap, cur, q, -⟩
  · exact ⟨none, 0, by rw [h0]; exact q⟩
  · exact ⟨_, _, q⟩
theorem nrow_slice {w : World} {v : Value} {ks : List Int} (h : NRow w v ks) : ∃ a c, v = .slice a ks.length c := by
  rcases h.2 with ⟨q, h0⟩ | ⟨g, cap, cur, q, -⟩
  · exact ⟨none, 0, by rw [h0]; exact q⟩
  · exact ⟨_, _, q⟩
/-- The two boxes at the beginning: the graph's, the answer's. -/
theorem rck_start (w : World) (vv ev : Value) (rd wr : Int) : ((w.alloc (oG vv ev rd wr)).alloc (oWt 0 0 0 (.slice none 0 0))).heap[w.heap.size]? = some (oG vv ev rd wr) ∧ ((w.alloc (oG vv ev rd wr)).alloc (oWt 0 0 0 (.slice none 0 0))).heap[w.heap.size + 1]? = some (oWt 0 0 0 (.slice none 0 0)) ∧ Below w.heap.size w ((w.alloc (oG vv ev rd wr)).alloc (oWt 0 0 0 (.slice none 0 0))) ∧ ((w.alloc (oG vv ev rd wr)).alloc (oWt 0 0 0 (.slice none 0 0))).heap.size = w.heap.size + 2 := by
  have h1 := below_new w (oG vv ev rd wr)
  have h2 := below_new (w.alloc (oG vv ev rd wr)) (oWt 0 0 0 (.slice none 0 0))
  have s1 : (w.alloc (oG vv ev rd wr)).heap.size = w.heap.size + 1 := by simp
  refine ⟨(h2.block _ (by omega)).trans (heap_alloc_new _ _), ?_, h1.trans (h2.mono (by omega)), by simp⟩
  have := heap_alloc_new (w.alloc (oG vv ev rd wr)) (oWt 0 0 0 (.slice none 0 0))
  rw [s1] at this; exact this
/-- Behind the box of what was told: b0 the graph's box, b4 the answer's, b7 the told's. -/
structure RK (w : World) (b0 b4 b7 : Nat) (vv gv : Value) (rd wr : Int) (vs : List Int) (gs : List EdgeV) (F T : Int) (u : Nat) (ev : Value) (es : List Int) (W : World) : Prop where
  g : W.heap[b0]? = some (oG vv gv rd wr)
  a : W.heap[b4]? = some (oWt 0 0 0 (.slice none 0 0))
  t : W.heap[b7]? = some (oWt F T u ev)
  vs : NRow W vv vs
  gs : GRow 0 W gv gs
  es : W16.NRow w.heap.size W ev es
  bel : Below w.heap.size w W
  b4 : w.heap.size ≤ b4 ∧ ∀ b, ev.ownBlock = some b → b ≠ b4
theorem RK.below {w : World} {b0 b4 b7 : Nat} {vv gv : Value} {rd wr : Int} {vs : List Int} {gs : List EdgeV} {F T : Int} {u : Nat} {ev : Value} {es : List Int} {W W' : World} (h : RK w b0 b4 b7 vv gv rd wr vs gs F T u ev es W) (hb : Below W.heap.size W W') : RK w b0 b4 b7 vv gv rd wr vs gs F T u ev es W' :=
  ⟨(hb.block _ (heap_lt h.g)).trans h.g, (hb.block _ (heap_lt h.a)).trans h.a, (hb.block _ (heap_lt h.t)).trans h.t, nrow_below h.vs hb, grow_below h.gs hb, W16.rrow_below h.es hb, h.bel.trans (hb.mono h.bel.size), h.b4⟩
theorem RK.done {w : World} {b0 b4 b7 : Nat} {vv gv : Value} {rd wr : Int} {vs : List Int} {gs : List EdgeV} {F T : Int} {u : Nat} {ev : Value} {es : List Int} {W : World} (h : RK w b0 b4 b7 vv gv rd wr vs gs F T u ev es W) (x0 x1 x2 x3 : Value) : Below w.heap.size w (Go.Proofs.YtagibmgbjhemkaaGreat.set4 W b4 x0 x1 x2 x3) ∧ W16.NRow w.heap.size (Go.Proofs.YtagibmgbjhemkaaGreat.set4 W b4 x0 x1 x2 x3) ev es :=
  ⟨set4_below h.bel h.b4.1 _ _ _ _, W16.rrow_kept h.es (fun b e => W16.set4_other (h.b4.2 b e) _ _ _ _)⟩
set_option maxHeartbeats 8000000 in
set_option maxRecDepth 100000 in
theorem refCheckS {w : World} {vv gv v : Value} {rd wr : Int} {vs : List Int} {gs : List EdgeV} {ps : List (EdgeV × Bool)} {bs : List Nat} (hvs : NRow w vv vs) (hgs : GRow 0 w gv gs) (hG : GR8 ps gs) (hwt : ∀ x ∈ gs, Wt x) (hvl : vs.length ≤ 1000000) (hv : Lies u8v w v bs) (hb : ∀ x ∈ bs, x < 256) (hl : bs.length ≤ 140737488355328) :
    Calls Tryz.prog 12 #[.agg #[vv, gv, .int .i64 rd, .int .i64 wr], v] w fun e w' => Hid (RckAns w (chkA (fun k => decide (k ∈ vs)) ps bs) e w') := by
  obtain ⟨q1, q2, q3, q4⟩ := rck_start w vv gv rd wr
  have CD := hide (decodeR (w := (w.alloc (oG vv gv rd wr)).alloc (oWt 0 0 0 (.slice none 0 0))) (W16.lies_below hv q3) hb hl)
  cases hd : dec bs with
  | none =>
    have e1 : chkA (fun k => decide (k ∈ vs)) ps bs = ((0, 0, 0, []), 0, 160) := by unfold chkA; rw [hd]
    rw [e1]
    rw [decV_none hd] at CD
    have HE : Hid (∀ w2 ev, Below ((w.alloc (oG vv gv rd wr)).alloc (oWt 0 0 0 (.slice none 0 0))).heap.size ((w.alloc (oG vv gv rd wr)).alloc (oWt 0 0 0 (.slice none 0 0))) w2 → (w2.alloc (oWt 0 0 0 ev)).heap[w.heap.size + 1]? = some (oWt 0 0 0 (.slice none 0 0)) ∧ ∀ x0 x1 x2 x3, Below w.heap.size w (Go.Proofs.YtagibmgbjhemkaaGreat.set4 (w2.alloc (oWt 0 0 0 ev)) (w.heap.size + 1) x0 x1 x2 x3)) := fun w2 ev hw2 => by
      have h3 := below_new w2 (oWt 0 0 0 ev)
      have hz2 := hw2.size
      exact ⟨(h3.block _ (by omega)).trans ((hw2.block _ (by omega)).trans q2), fun x0 x1 x2 x3 => set4_below ((q3.trans (hw2.mono (by omega))).trans (h3.mono (by omega))) (Nat.le_succ _) _ _ _ _⟩
    obtain ⟨va, vc, hva⟩ := W16.lies_shape hv
    obtain ⟨a1, c1, hv1⟩ := nrow_slice hvs
    obtain ⟨a2, c2, hv2⟩ := grow_slice hgs
    clear q1 q2 q3 q4 hvs hgs hG hwt hvl hv hb hd e1
    subst hva hv1 hv2
    generalize bs.length = bn at *
    generalize vs.length = vn at *
    generalize gs.length = gn at *
    go_enter Tryz.func12, Tryz.ntmps12
    go_upto_region 1 with fail
    change Code.wp _ _ _ _ ((w.alloc (oG (.slice a1 vn c1) (.slice a2 gn c2) rd wr)).alloc (oWt 0 0 0 (.slice none 0 0)))
    generalize (w.alloc (oG (.slice a1 vn c1) (.slice a2 gn c2) rd wr)).alloc (oWt 0 0 0 (.slice none 0 0)) = w1 at *
    go_wp2_with fail
    refine (unhide CD).mono ?_
    intro e w2 H2
    obtain ⟨ev, rfl, g1, g2⟩ := unhide H2
    obtain ⟨ea, ec, hev⟩ := W16.rrow_shape g1
    have hev2 : ev = .slice ea 0 ec := hev
    clear hev
    obtain ⟨j1, HF⟩ := unhide HE w2 ev g2
    replace HF := hide HF
    obtain ⟨y0, y1, y2, y3⟩ := oWt_cells j1
    have yf := oWt_fz j1
    have HJ := hide j1
    subst hev2
    clear HE H2 g1 g2 CD j1
    go_upto_region 2 with fail
    change Code.wp _ _ _ _ (w2.alloc (oWt 0 0 0 (.slice ea 0 ec)))
    generalize w2.alloc (oWt 0 0 0 (.slice ea 0 ec)) = w3 at *
    generalize hbb : w.heap.size = b at *
    go_wp2_with fail
    (try simp only [Exit.inBlock, Exit.then])
    change bodyPost _ _ _ _ _ (Go.Proofs.YtagibmgbjhemkaaGreat.set4 w3 (b + 1) _ _ _ _)
    refine bodyPost_ret (results_cell_tmp2 rfl _ _ _ ⟨b + 1, 0, none⟩ _ rfl (load_set4 (unhide HJ) _ _ _ _)) rfl ?_
    exact ⟨_, rfl, nil16 _ _, by rw [hbb]; exact unhide HF _ _ _ _⟩
  | some x =>
    obtain ⟨F, T, u, es⟩ := x
    obtain ⟨o1, o2, o3, o4, -⟩ := dec_oks hb hd
    obtain ⟨t, ht⟩ : ∃ t, t = trip ps F es := ⟨_, rfl⟩
    have e1 : chkA (fun k => decide (k ∈ vs)) ps bs = if (holdA (decide (F ∈ vs)) (decide (T ∈ vs)) t F T u).2 = 0 then ((F, T, u, es), 0, 0) else ((0, 0, 0, []), (holdA (decide (F ∈ vs)) (decide (T ∈ vs)) t F T u).1, (holdA (decide (F ∈ vs)) (decide (T ∈ vs)) t F T u).2) := by rw [ht]; unfold chkA; rw [hd]
    rw [e1]
    rw [decV_some hd] at CD
    have HH : Hid (∀ w2 ev, W16.NRow ((w.alloc (oG vv gv rd wr)).alloc (oWt 0 0 0 (.slice none 0 0))).heap.size w2 ev es → Below ((w.alloc (oG vv gv rd wr)).alloc (oWt 0 0 0 (.slice none 0 0))).heap.size ((w.alloc (oG vv gv rd wr)).alloc (oWt 0 0 0 (.slice none 0 0))) w2 →
        RK w w.heap.size (w.heap.size + 1) w2.heap.size vv gv rd wr vs gs F T u ev es (w2.alloc (oWt F T u ev))) := fun w2 ev g1 hw2 => by
      have h3 := below_new w2 (oWt F T u ev)
      have hz2 := hw2.size
      have hB : Below w.heap.size w (w2.alloc (oWt F T u ev)) := (q3.trans (hw2.mono (by omega))).trans (h3.mono (by omega))
      refine ⟨(h3.block _ (by omega)).trans ((hw2.block _ (by omega)).trans q1), (h3.block _ (by omega)).trans ((hw2.block _ (by omega)).trans q2), heap_alloc_new _ _, nrow_below hvs hB, grow_below hgs hB, W16.rrow_low (W16.rrow_below g1 h3) (by omega), hB, Nat.le_succ _, fun b e => ?_⟩
      have := (g1.lt b e).1
      omega
    have CH : Hid (∀ (k : Int) (b0 b4 b7 : Nat) ev W, RK w b0 b4 b7 vv gv rd wr vs gs F T u ev es W → Calls Tryz.prog 19 #[.agg #[vv, gv, .int .i64 rd, .int .i64 wr], .int .i64 k] W fun e w' => e = .returned (.bool (decide (k ∈ vs))) ∧ Hid (RK w b0 b4 b7 vv gv rd wr vs gs F T u ev es w')) := fun k b0 b4 b7 ev W hW => by
      refine (refHas k hW.vs hvl).mono ?_
      rintro e w' ⟨rfl, hh⟩
      exact ⟨rfl, hW.below hh⟩
    have CT : Hid (∀ (b0 b4 b7 : Nat) ev W, RK w b0 b4 b7 vv gv rd wr vs gs F T u ev es W → Calls Tryz.prog 24 #[.agg #[vv, gv, .int .i64 rd, .int .i64 wr], .int .i64 F, ev] W fun e w' => ∃ sa sn sc, e = .returned (.tuple #[.slice sa sn sc, .int .i64 (tPlace t), .int .i64 (tCode t)]) ∧ Hid (RK w b0 b4 b7 vv gv rd wr vs gs F T u ev es w' ∧ (t.2 = none → 1 ≤ sn ∧ sn ≤ 3000 ∧ ∃ g, sa = some ⟨g, 0, none⟩ ∧ ∀ W', Below w'.heap.size w' W' → W'.cell? ⟨g, sn - 1, none⟩ = some (.int .i64 (endOf F t.1))))) := fun b0 b4 b7 ev W hW => by
      refine (refThroughS F hW.gs hG (srow_of (W16.nrow_lies hW.es)) (Nat.le_trans o4 (by decide))).mono ?_
      intro e w' hh
      obtain ⟨sa, sn, sc, rfl, g1, g2⟩ := unhide hh
      rw [← ht] at g1
      refine ⟨sa, sn, sc, by rw [ht], hW.below g2, fun hn => ?_⟩
      rw [if_pos hn] at g1
      obtain ⟨a', c', e', -⟩ := brow_shape g1
      injection e' with e2 e3 e4
      rw [stopsOf_len] at e3
      obtain ⟨g, hg⟩ := brow_some g1 (by rw [stopsOf_len]; omega)
      have hlt : t.1.length ≤ es.length := by rw [ht]; exact trip_len _ _
      have o5 : es.length ≤ 1024 := o4
      refine ⟨by omega, by omega, g, hg, fun W' hW' => ?_⟩
      subst hg
      have := brow_at (brow_kept g1 (fun b eb => hW'.block b (g1.lt b eb).2)) (stops_end F t.1)
      rw [show sn - 1 = t.1.length by omega]
      exact this
    have CC : Hid (∀ (b0 b4 b7 : Nat) ev W, t.2 = none → RK w b0 b4 b7 vv gv rd wr vs gs F T u ev es W → Calls Tryz.prog 25 #[.agg #[vv, gv, .int .i64 rd, .int .i64 wr], ev] W fun e w' => e = .returned (.int .u32 (costOf t.1)) ∧ Hid (RK w b0 b4 b7 vv gv rd wr vs gs F T u ev es w')) := fun b0 b4 b7 ev W hn hW => by
      refine (refCostS (vv := vv) (rd := rd) (wr0 := wr) F hW.gs hG (srow_of (W16.nrow_lies hW.es)) (Nat.le_trans o4 (by decide)) (show Way ps F es t.1 from by rw [ht] at hn ⊢; exact trip_way hn) hwt).mono ?_
      rintro e w' ⟨rfl, hh⟩
      exact ⟨rfl, hW.below (unhide hh)⟩
    have HT : Hid (t.2 ≠ none → tCode t ≠ 0) := fun hn => by
      rw [ht] at hn ⊢
      rcases tCode_ne hn with e | e <;> (unfold tCode; rw [e]; decide)
    obtain ⟨va, vc, hva⟩ := W16.lies_shape hv
    obtain ⟨a1, c1, hv1⟩ := nrow_slice hvs
    obtain ⟨a2, c2, hv2⟩ := grow_slice hgs
    clear q1 q2 q3 q4 hvs hgs hG hwt hvl hv hb hd e1 o1 o2 o3 ht
    obtain ⟨vn, hvn⟩ : ∃ vn, vn = vs.length := ⟨_, rfl⟩
    obtain ⟨gn, hgn⟩ : ∃ gn, gn = gs.length := ⟨_, rfl⟩
    rw [← hvn] at hv1
    rw [← hgn] at hv2
    subst hva hv1 hv2
    clear hvn hgn
    generalize bs.length = bn at *
    cases hF : decide (F ∈ vs) with
    | false =>
      have eh : (if (holdA false (decide (T ∈ vs)) t F T u).2 = 0 then (((F, T, u, es), 0, 0) : WtV × Nat × Int) else ((0, 0, 0, []), (holdA false (decide (T ∈ vs)) t F T u).1, (holdA false (decide (T ∈ vs)) t F T u).2)) = ((0, 0, 0, []), 0, 5) := by simp [holdA]
      rw [eh]
      clear eh CT CC HT
      go_enter Tryz.func12, Tryz.ntmps12
      go_upto_region 1 with fail
      change Code.wp _ _ _ _ ((w.alloc (oG (.slice a1 vn c1) (.slice a2 gn c2) rd wr)).alloc (oWt 0 0 0 (.slice none 0 0)))
      generalize (w.alloc (oG (.slice a1 vn c1) (.slice a2 gn c2) rd wr)).alloc (oWt 0 0 0 (.slice none 0 0)) = w1 at *
      go_wp2_with fail
      refine (unhide CD).mono ?_
      intro e w2 H2
      obtain ⟨ev, rfl, g1, g2⟩ := unhide H2
      obtain ⟨ea, ec, hev⟩ := W16.rrow_shape g1
      simp only at hev g1 ⊢
      obtain ⟨n, hn⟩ : ∃ n, n = es.length := ⟨_, rfl⟩
      rw [← hn] at hev
      clear hn
      have HK := hide (unhide HH w2 ev g1 g2)
      clear HH H2 g1 g2 CD
      subst hev
      go_upto_region 2 with fail
      change Code.wp _ _ _ _ (w2.alloc (oWt F T u (.slice ea n ec)))
      generalize w2.alloc (oWt F T u (.slice ea n ec)) = w3 at *
      generalize hbb : w.heap.size = b0 at *
      generalize w2.heap.size = b7 at *
      have CF := hide (unhide CH F _ _ _ _ _ (unhide HK))
      obtain ⟨c0, c1_, c2_, c3, -⟩ := cellsG (unhide HK).g
      obtain ⟨y0, y1, y2, y3⟩ := oWt_cells (unhide HK).t
      go_wp2_with fail
      refine (unhide CF).mono ?_
      rintro e w4 ⟨rfl, H4⟩
      clear CF c0 c1_ c2_ c3 y0 y1 y2 y3 HK
      obtain ⟨c0, c1_, c2_, c3, -⟩ := cellsG (unhide H4).g
      obtain ⟨y0, y1, y2, y3⟩ := oWt_cells (unhide H4).t
      rw [hF]
      obtain ⟨z0, z1, z2, z3⟩ := oWt_cells (unhide H4).a
      have zf := oWt_fz (unhide H4).a
      have HJ := hide (unhide H4).a
      have HF := hide (unhide H4).done
      go_wp2_with fail
      (try simp only [Exit.inBlock, Exit.then])
      change bodyPost _ _ _ _ _ (Go.Proofs.YtagibmgbjhemkaaGreat.set4 w4 (b0 + 1) _ _ _ _)
      refine bodyPost_ret (results_cell_tmp2 rfl _ _ _ ⟨b0 + 1, 0, none⟩ _ rfl (load_set4 (unhide HJ) _ _ _ _)) rfl ?_
      exact ⟨_, rfl, nil16 _ _, (unhide HF _ _ _ _).1⟩
    | true =>
      cases hT : decide (T ∈ vs) with
      | false =>
        have eh : (if (holdA true false t F T u).2 = 0 then (((F, T, u, es), 0, 0) : WtV × Nat × Int) else ((0, 0, 0, []), (holdA true false t F T u).1, (holdA true false t F T u).2)) = ((0, 0, 0, []), 0, 5) := by simp [holdA]
        rw [eh]
        clear eh CT CC HT
        go_enter Tryz.func12, Tryz.ntmps12
        go_upto_region 1 with fail
        change Code.wp _ _ _ _ ((w.alloc (oG (.slice a1 vn c1) (.slice a2 gn c2) rd wr)).alloc (oWt 0 0 0 (.slice none 0 0)))
        generalize (w.alloc (oG (.slice a1 vn c1) (.slice a2 gn c2) rd wr)).alloc (oWt 0 0 0 (.slice none 0 0)) = w1 at *
        go_wp2_with fail
        refine (unhide CD).mono ?_
        intro e w2 H2
        obtain ⟨ev, rfl, g1, g2⟩ := unhide H2
        obtain ⟨ea, ec, hev⟩ := W16.rrow_shape g1
        simp only at hev g1 ⊢
        obtain ⟨n, hn⟩ : ∃ n, n = es.length := ⟨_, rfl⟩
        rw [← hn] at hev
        clear hn
        have HK := hide (unhide HH w2 ev g1 g2)
        clear HH H2 g1 g2 CD
        subst hev
        go_upto_region 2 with fail
        change Code.wp _ _ _ _ (w2.alloc (oWt F T u (.slice ea n ec)))
        generalize w2.alloc (oWt F T u (.slice ea n ec)) = w3 at *
        generalize hbb : w.heap.size = b0 at *
        generalize w2.heap.size = b7 at *
        have CF := hide (unhide CH F _ _ _ _ _ (unhide HK))
        obtain ⟨c0, c1_, c2_, c3, -⟩ := cellsG (unhide HK).g
        obtain ⟨y0, y1, y2, y3⟩ := oWt_cells (unhide HK).t
        go_wp2_with fail
        refine (unhide CF).mono ?_
        rintro e w4 ⟨rfl, H4⟩
        clear CF c0 c1_ c2_ c3 y0 y1 y2 y3 HK
        obtain ⟨c0, c1_, c2_, c3, -⟩ := cellsG (unhide H4).g
        obtain ⟨y0, y1, y2, y3⟩ := oWt_cells (unhide H4).t
        rw [hF]
        have CF := hide (unhide CH T _ _ _ _ _ (unhide H4))
        go_wp2_with fail
        refine (unhide CF).mono ?_
        rintro e w5 ⟨rfl, H5⟩
        clear CF c0 c1_ c2_ c3 y0 y1 y2 y3 H4
        obtain ⟨c0, c1_, c2_, c3, -⟩ := cellsG (unhide H5).g
        obtain ⟨y0, y1, y2, y3⟩ := oWt_cells (unhide H5).t
        rw [hT]
        obtain ⟨z0, z1, z2, z3⟩ := oWt_cells (unhide H5).a
        have zf := oWt_fz (unhide H5).a
        have HJ := hide (unhide H5).a
        have HF := hide (unhide H5).done
        go_wp2_with fail
        (try simp only [Exit.inBlock, Exit.then])
        change bodyPost _ _ _ _ _ (Go.Proofs.YtagibmgbjhemkaaGreat.set4 w5 (b0 + 1) _ _ _ _)
        refine bodyPost_ret (results_cell_tmp2 rfl _ _ _ ⟨b0 + 1, 0, none⟩ _ rfl (load_set4 (unhide HJ) _ _ _ _)) rfl ?_
        exact ⟨_, rfl, nil16 _ _, (unhide HF _ _ _ _).1⟩
      | true =>
        by_cases hn : t.2 = none
        · by_cases h1 : endOf F t.1 = T
          · by_cases h2 : costOf t.1 = u
            · have eh : (if (holdA true true t F T u).2 = 0 then (((F, T, u, es), 0, 0) : WtV × Nat × Int) else ((0, 0, 0, []), (holdA true true t F T u).1, (holdA true true t F T u).2)) = ((F, T, u, es), 0, 0) := by simp [holdA, hn, h1, h2]
              have ep : tPlace t = 0 := if_pos hn
              have ec0 : tCode t = 0 := by unfold tCode; rw [hn]; rfl
              rw [eh]
              rw [ep, ec0] at CT
              clear eh HT ep ec0
              rw [h1] at CT
              rw [h2] at CC
              go_enter Tryz.func12, Tryz.ntmps12
              go_upto_region 1 with fail
              change Code.wp _ _ _ _ ((w.alloc (oG (.slice a1 vn c1) (.slice a2 gn c2) rd wr)).alloc (oWt 0 0 0 (.slice none 0 0)))
              generalize (w.alloc (oG (.slice a1 vn c1) (.slice a2 gn c2) rd wr)).alloc (oWt 0 0 0 (.slice none 0 0)) = w1 at *
              go_wp2_with fail
              refine (unhide CD).mono ?_
              intro e w2 H2
              obtain ⟨ev, rfl, g1, g2⟩ := unhide H2
              obtain ⟨ea, ec, hev⟩ := W16.rrow_shape g1
              simp only at hev g1 ⊢
              obtain ⟨n, hn⟩ : ∃ n, n = es.length := ⟨_, rfl⟩
              rw [← hn] at hev
              clear hn
              have HK := hide (unhide HH w2 ev g1 g2)
              clear HH H2 g1 g2 CD
              subst hev
              go_upto_region 2 with fail
              change Code.wp _ _ _ _ (w2.alloc (oWt F T u (.slice ea n ec)))
              generalize w2.alloc (oWt F T u (.slice ea n ec)) = w3 at *
              generalize hbb : w.heap.size = b0 at *
              generalize w2.heap.size = b7 at *
              have CF := hide (unhide CH F _ _ _ _ _ (unhide HK))
              obtain ⟨c0, c1_, c2_, c3, -⟩ := cellsG (unhide HK).g
              obtain ⟨y0, y1, y2, y3⟩ := oWt_cells (unhide HK).t
              go_wp2_with fail
              refine (unhide CF).mono ?_
              rintro e w4 ⟨rfl, H4⟩
              clear CF c0 c1_ c2_ c3 y0 y1 y2 y3 HK
              obtain ⟨c0, c1_, c2_, c3, -⟩ := cellsG (unhide H4).g
              obtain ⟨y0, y1, y2, y3⟩ := oWt_cells (unhide H4).t
              rw [hF]
              have CF := hide (unhide CH T _ _ _ _ _ (unhide H4))
              go_wp2_with fail
              refine (unhide CF).mono ?_
              rintro e w5 ⟨rfl, H5⟩
              clear CF c0 c1_ c2_ c3 y0 y1 y2 y3 H4
              obtain ⟨c0, c1_, c2_, c3, -⟩ := cellsG (unhide H5).g
              obtain ⟨y0, y1, y2, y3⟩ := oWt_cells (unhide H5).t
              rw [hT]
              have CR := hide (unhide CT _ _ _ _ _ (unhide H5))
              go_wp2_with fail
              refine (unhide CR).mono ?_
              rintro e w6 ⟨sa, sn, sc, rfl, H6⟩
              clear CR c0 c1_ c2_ c3 y0 y1 y2 y3 H5
              obtain ⟨h6, h7⟩ := unhide H6
              obtain ⟨hs1, hs2, g, rfl, hcell⟩ := h7 hn
              replace H6 := hide h6
              have hcl := hcell w6.drew ((Below.refl _ _).drew)
              have hcc := hcell w6 (Below.refl _ _)
              clear h6 h7 hcell CT CH
              obtain ⟨y0, y1, y2, y3⟩ := oWt_cells (unhide H6).t
              obtain ⟨sm, hsm⟩ : ∃ sm, sm = sn - 1 := ⟨_, rfl⟩
              have zsm : IntKind.i64.wrap ((sn : Int) - 1) = (sm : Int) := by rw [IntKind.wrap_i64]; omega
              have zlt : (sm : Int) < (sn : Int) := by omega
              rw [← hsm] at hcl hcc
              clear hsm hs1 hs2
              go_upto_region 9 with fail
              refine wp_region_noPanic ?_
              refine regionL [] (fun y => y.cell? ⟨g, sm, none⟩ = some (.int .i64 T) ∧ y.cell? ⟨b7, 1, none⟩ = some (.int .i64 T)) (by kernel_rfl) ⟨hcc, y1⟩ (fun hHeld => ?_)
              refine takeN 0 48 rfl ?_
              (try simp only [sl])
              refine takeN 1 49 rfl ?_
              (try simp only [sl])
              refine takeN 2 50 rfl ?_
              (try simp only [sl])
              refine takeN 3 51 rfl ?_
              (try simp only [sl])
              refine takeN 4 52 rfl ?_
              (try simp only [sl])
              refine takeN 5 53 rfl ?_
              (try simp only [sl])
              refine takeN 6 54 rfl ?_
              (try simp only [sl])
              refine takeN 7 55 rfl ?_
              (try simp only [sl])
              refine takeN 8 56 rfl ?_
              (try simp only [sl])
              refine doneL (by kernel_rfl) ?_ _
              refine NoPanic.normal ?_
              replace H6 := hide ((unhide H6).below ((Below.refl _ _).drew))
              clear hHeld hcl hcc y0 y1 y2 y3
              generalize w6.drew = w6' at *
              obtain ⟨c0, c1_, c2_, c3, -⟩ := cellsG (unhide H6).g
              obtain ⟨y0, y1, y2, y3⟩ := oWt_cells (unhide H6).t
              go_upto_region 11 with fail
              refine wp_region_noPanic ?_
              refine regionL [] (fun y => (y.cell? ⟨b0, 0, none⟩ = some (.slice a1 vn c1) ∧ y.cell? ⟨b0, 1, none⟩ = some (.slice a2 gn c2) ∧ y.cell? ⟨b0, 2, none⟩ = some (.int .i64 rd) ∧ y.cell? ⟨b0, 3, none⟩ = some (.int .i64 wr)) ∧ y.cell? ⟨b7, 2, none⟩ = some (.int .u32 (u : Nat)) ∧ y.cell? ⟨b7, 3, none⟩ = some (.slice ea n ec)) (by kernel_rfl) ⟨⟨c0, c1_, c2_, c3⟩, y2, y3⟩ (fun hHeld => ?_)
              refine takeN 0 58 rfl ?_
              (try simp only [sl])
              refine takeN 1 59 rfl ?_
              (try simp only [sl])
              refine takeN 2 60 rfl ?_
              (try simp only [sl])
              refine takeN 4 62 rfl ?_
              (try simp only [sl])
              refine takeN 5 63 rfl ?_
              (try simp only [sl])
              refine readyL (i := 3) (by kernel_rfl) rfl (fun K hK => ?_)
              go_simp
              refine (unhide CC _ _ _ _ _ hn ((unhide H6).below ((Below.refl _ _).drew))).mono ?_
              rintro e w7 ⟨rfl, H7⟩
              clear c0 c1_ c2_ c3 y0 y1 y2 y3
              obtain ⟨c0, c1_, c2_, c3, -⟩ := cellsG (unhide H7).g
              obtain ⟨y0, y1, y2, y3⟩ := oWt_cells (unhide H7).t
              (try dsimp only)
              refine hK.out _ _ (fun _ => (And.intro (And.intro c0 (And.intro c1_ (And.intro c2_ c3))) (And.intro y2 y3))) ?_
              clear hK K
              (try simp only [sl])
              have hH7 := (And.intro (And.intro c0 (And.intro c1_ (And.intro c2_ c3))) (And.intro y2 y3))
              refine takeN 6 64 rfl ?_
              (try simp only [sl])
              refine doneL (by kernel_rfl) ?_ _
              refine NoPanic.normal ?_
              clear hHeld
              obtain ⟨z0, z1, z2, z3⟩ := oWt_cells (unhide H7).a
              have zf := oWt_fz (unhide H7).a
              have HJ := hide (unhide H7).a
              have HF := hide (unhide H7).done
              go_wp2_with fail
              (try simp only [Exit.inBlock, Exit.then])
              change bodyPost _ _ _ _ _ (Go.Proofs.YtagibmgbjhemkaaGreat.set4 w7 (b0 + 1) _ _ _ _)
              refine bodyPost_ret (results_cell_tmp2 rfl _ _ _ ⟨b0 + 1, 0, none⟩ _ rfl (load_set4 (unhide HJ) _ _ _ _)) rfl ?_
              exact ⟨_, rfl, (unhide HF _ _ _ _).2, (unhide HF _ _ _ _).1⟩
            · have eh : (if (holdA true true t F T u).2 = 0 then (((F, T, u, es), 0, 0) : WtV × Nat × Int) else ((0, 0, 0, []), (holdA true true t F T u).1, (holdA true true t F T u).2)) = ((0, 0, 0, []), 0, 171) := by simp [holdA, hn, h1, h2]
              have ep : tPlace t = 0 := if_pos hn
              have ec0 : tCode t = 0 := by unfold tCode; rw [hn]; rfl
              rw [eh]
              rw [ep, ec0] at CT
              clear eh HT ep ec0
              rw [h1] at CT
              have z2 : ((costOf t.1 : Int) == (u : Int)) = false := by simp; omega
              generalize costOf t.1 = cs at *
              go_enter Tryz.func12, Tryz.ntmps12
              go_upto_region 1 with fail
              change Code.wp _ _ _ _ ((w.alloc (oG (.slice a1 vn c1) (.slice a2 gn c2) rd wr)).alloc (oWt 0 0 0 (.slice none 0 0)))
              generalize (w.alloc (oG (.slice a1 vn c1) (.slice a2 gn c2) rd wr)).alloc (oWt 0 0 0 (.slice none 0 0)) = w1 at *
              go_wp2_with fail
              refine (unhide CD).mono ?_
              intro e w2 H2
              obtain ⟨ev, rfl, g1, g2⟩ := unhide H2
              obtain ⟨ea, ec, hev⟩ := W16.rrow_shape g1
              simp only at hev g1 ⊢
              obtain ⟨n, hn⟩ : ∃ n, n = es.length := ⟨_, rfl⟩
              rw [← hn] at hev
              clear hn
              have HK := hide (unhide HH w2 ev g1 g2)
              clear HH H2 g1 g2 CD
              subst hev
              go_upto_region 2 with fail
              change Code.wp _ _ _ _ (w2.alloc (oWt F T u (.slice ea n ec)))
              generalize w2.alloc (oWt F T u (.slice ea n ec)) = w3 at *
              generalize hbb : w.heap.size = b0 at *
              generalize w2.heap.size = b7 at *
              have CF := hide (unhide CH F _ _ _ _ _ (unhide HK))
              obtain ⟨c0, c1_, c2_, c3, -⟩ := cellsG (unhide HK).g
              obtain ⟨y0, y1, y2, y3⟩ := oWt_cells (unhide HK).t
              go_wp2_with fail
              refine (unhide CF).mono ?_
              rintro e w4 ⟨rfl, H4⟩
              clear CF c0 c1_ c2_ c3 y0 y1 y2 y3 HK
              obtain ⟨c0, c1_, c2_, c3, -⟩ := cellsG (unhide H4).g
              obtain ⟨y0, y1, y2, y3⟩ := oWt_cells (unhide H4).t
              rw [hF]
              have CF := hide (unhide CH T _ _ _ _ _ (unhide H4))
              go_wp2_with fail
              refine (unhide CF).mono ?_
              rintro e w5 ⟨rfl, H5⟩
              clear CF c0 c1_ c2_ c3 y0 y1 y2 y3 H4
              obtain ⟨c0, c1_, c2_, c3, -⟩ := cellsG (unhide H5).g
              obtain ⟨y0, y1, y2, y3⟩ := oWt_cells (unhide H5).t
              rw [hT]
              have CR := hide (unhide CT _ _ _ _ _ (unhide H5))
              go_wp2_with fail
              refine (unhide CR).mono ?_
              rintro e w6 ⟨sa, sn, sc, rfl, H6⟩
              clear CR c0 c1_ c2_ c3 y0 y1 y2 y3 H5
              obtain ⟨h6, h7⟩ := unhide H6
              obtain ⟨hs1, hs2, g, rfl, hcell⟩ := h7 hn
              replace H6 := hide h6
              have hcl := hcell w6.drew ((Below.refl _ _).drew)
              have hcc := hcell w6 (Below.refl _ _)
              clear h6 h7 hcell CT CH
              obtain ⟨y0, y1, y2, y3⟩ := oWt_cells (unhide H6).t
              obtain ⟨sm, hsm⟩ : ∃ sm, sm = sn - 1 := ⟨_, rfl⟩
              have zsm : IntKind.i64.wrap ((sn : Int) - 1) = (sm : Int) := by rw [IntKind.wrap_i64]; omega
              have zlt : (sm : Int) < (sn : Int) := by omega
              rw [← hsm] at hcl hcc
              clear hsm hs1 hs2
              go_upto_region 9 with fail
              refine wp_region_noPanic ?_
              refine regionL [] (fun y => y.cell? ⟨g, sm, none⟩ = some (.int .i64 T) ∧ y.cell? ⟨b7, 1, none⟩ = some (.int .i64 T)) (by kernel_rfl) ⟨hcc, y1⟩ (fun hHeld => ?_)
              refine takeN 0 48 rfl ?_
              (try simp only [sl])
              refine takeN 1 49 rfl ?_
              (try simp only [sl])
              refine takeN 2 50 rfl ?_
              (try simp only [sl])
              refine takeN 3 51 rfl ?_
              (try simp only [sl])
              refine takeN 4 52 rfl ?_
              (try simp only [sl])
              refine takeN 5 53 rfl ?_
              (try simp only [sl])
              refine takeN 6 54 rfl ?_
              (try simp only [sl])
              refine takeN 7 55 rfl ?_
              (try simp only [sl])
              refine takeN 8 56 rfl ?_
              (try simp only [sl])
              refine doneL (by kernel_rfl) ?_ _
              refine NoPanic.normal ?_
              replace H6 := hide ((unhide H6).below ((Below.refl _ _).drew))
              clear hHeld hcl hcc y0 y1 y2 y3
              generalize w6.drew = w6' at *
              obtain ⟨c0, c1_, c2_, c3, -⟩ := cellsG (unhide H6).g
              obtain ⟨y0, y1, y2, y3⟩ := oWt_cells (unhide H6).t
              go_upto_region 11 with fail
              refine wp_region_noPanic ?_
              refine regionL [] (fun y => (y.cell? ⟨b0, 0, none⟩ = some (.slice a1 vn c1) ∧ y.cell? ⟨b0, 1, none⟩ = some (.slice a2 gn c2) ∧ y.cell? ⟨b0, 2, none⟩ = some (.int .i64 rd) ∧ y.cell? ⟨b0, 3, none⟩ = some (.int .i64 wr)) ∧ y.cell? ⟨b7, 2, none⟩ = some (.int .u32 (u : Nat)) ∧ y.cell? ⟨b7, 3, none⟩ = some (.slice ea n ec)) (by kernel_rfl) ⟨⟨c0, c1_, c2_, c3⟩, y2, y3⟩ (fun hHeld => ?_)
              refine takeN 0 58 rfl ?_
              (try simp only [sl])
              refine takeN 1 59 rfl ?_
              (try simp only [sl])
              refine takeN 2 60 rfl ?_
              (try simp only [sl])
              refine takeN 4 62 rfl ?_
              (try simp only [sl])
              refine takeN 5 63 rfl ?_
              (try simp only [sl])
              refine readyL (i := 3) (by kernel_rfl) rfl (fun K hK => ?_)
              go_simp
              refine (unhide CC _ _ _ _ _ hn ((unhide H6).below ((Below.refl _ _).drew))).mono ?_
              rintro e w7 ⟨rfl, H7⟩
              clear c0 c1_ c2_ c3 y0 y1 y2 y3
              obtain ⟨c0, c1_, c2_, c3, -⟩ := cellsG (unhide H7).g
              obtain ⟨y0, y1, y2, y3⟩ := oWt_cells (unhide H7).t
              (try dsimp only)
              refine hK.out _ _ (fun _ => (And.intro (And.intro c0 (And.intro c1_ (And.intro c2_ c3))) (And.intro y2 y3))) ?_
              clear hK K
              (try simp only [sl])
              have hH16 := (And.intro (And.intro c0 (And.intro c1_ (And.intro c2_ c3))) (And.intro y2 y3))
              refine takeN 6 64 rfl ?_
              (try simp only [sl])
              refine doneL (by kernel_rfl) ?_ _
              refine NoPanic.normal ?_
              clear hHeld
              obtain ⟨z0, z1, z2, z3⟩ := oWt_cells (unhide H7).a
              have zf := oWt_fz (unhide H7).a
              have HJ := hide (unhide H7).a
              have HF := hide (unhide H7).done
              go_wp2_with fail
              (try simp only [Exit.inBlock, Exit.then])
              change bodyPost _ _ _ _ _ (Go.Proofs.YtagibmgbjhemkaaGreat.set4 w7 (b0 + 1) _ _ _ _)
              refine bodyPost_ret (results_cell_tmp2 rfl _ _ _ ⟨b0 + 1, 0, none⟩ _ rfl (load_set4 (unhide HJ) _ _ _ _)) rfl ?_
              exact ⟨_, rfl, nil16 _ _, (unhide HF _ _ _ _).1⟩
          · have eh : (if (holdA true true t F T u).2 = 0 then (((F, T, u, es), 0, 0) : WtV × Nat × Int) else ((0, 0, 0, []), (holdA true true t F T u).1, (holdA true true t F T u).2)) = ((0, 0, 0, []), 0, 170) := by simp [holdA, hn, h1]
            have ep : tPlace t = 0 := if_pos hn
            have ec0 : tCode t = 0 := by unfold tCode; rw [hn]; rfl
            rw [eh]
            rw [ep, ec0] at CT
            clear eh HT ep ec0
            have z1 : (endOf F t.1 == T) = false := by simpa using h1
            generalize endOf F t.1 = en at *
            go_enter Tryz.func12, Tryz.ntmps12
            go_upto_region 1 with fail
            change Code.wp _ _ _ _ ((w.alloc (oG (.slice a1 vn c1) (.slice a2 gn c2) rd wr)).alloc (oWt 0 0 0 (.slice none 0 0)))
            generalize (w.alloc (oG (.slice a1 vn c1) (.slice a2 gn c2) rd wr)).alloc (oWt 0 0 0 (.slice none 0 0)) = w1 at *
            go_wp2_with fail
            refine (unhide CD).mono ?_
            intro e w2 H2
            obtain ⟨ev, rfl, g1, g2⟩ := unhide H2
            obtain ⟨ea, ec, hev⟩ := W16.rrow_shape g1
            simp only at hev g1 ⊢
            obtain ⟨n, hn⟩ : ∃ n, n = es.length := ⟨_, rfl⟩
            rw [← hn] at hev
            clear hn
            have HK := hide (unhide HH w2 ev g1 g2)
            clear HH H2 g1 g2 CD
            subst hev
            go_upto_region 2 with fail
            change Code.wp _ _ _ _ (w2.alloc (oWt F T u (.slice ea n ec)))
            generalize w2.alloc (oWt F T u (.slice ea n ec)) = w3 at *
            generalize hbb : w.heap.size = b0 at *
            generalize w2.heap.size = b7 at *
            have CF := hide (unhide CH F _ _ _ _ _ (unhide HK))
            obtain ⟨c0, c1_, c2_, c3, -⟩ := cellsG (unhide HK).g
            obtain ⟨y0, y1, y2, y3⟩ := oWt_cells (unhide HK).t
            go_wp2_with fail
            refine (unhide CF).mono ?_
            rintro e w4 ⟨rfl, H4⟩
            clear CF c0 c1_ c2_ c3 y0 y1 y2 y3 HK
            obtain ⟨c0, c1_, c2_, c3, -⟩ := cellsG (unhide H4).g
            obtain ⟨y0, y1, y2, y3⟩ := oWt_cells (unhide H4).t
            rw [hF]
            have CF := hide (unhide CH T _ _ _ _ _ (unhide H4))
            go_wp2_with fail
            refine (unhide CF).mono ?_
            rintro e w5 ⟨rfl, H5⟩
            clear CF c0 c1_ c2_ c3 y0 y1 y2 y3 H4
            obtain ⟨c0, c1_, c2_, c3, -⟩ := cellsG (unhide H5).g
            obtain ⟨y0, y1, y2, y3⟩ := oWt_cells (unhide H5).t
            rw [hT]
            have CR := hide (unhide CT _ _ _ _ _ (unhide H5))
            go_wp2_with fail
            refine (unhide CR).mono ?_
            rintro e w6 ⟨sa, sn, sc, rfl, H6⟩
            clear CR c0 c1_ c2_ c3 y0 y1 y2 y3 H5
            obtain ⟨h6, h7⟩ := unhide H6
            obtain ⟨hs1, hs2, g, rfl, hcell⟩ := h7 hn
            replace H6 := hide h6
            have hcl := hcell w6.drew ((Below.refl _ _).drew)
            have hcc := hcell w6 (Below.refl _ _)
            clear h6 h7 hcell CT CH
            obtain ⟨y0, y1, y2, y3⟩ := oWt_cells (unhide H6).t
            obtain ⟨sm, hsm⟩ : ∃ sm, sm = sn - 1 := ⟨_, rfl⟩
            have zsm : IntKind.i64.wrap ((sn : Int) - 1) = (sm : Int) := by rw [IntKind.wrap_i64]; omega
            have zlt : (sm : Int) < (sn : Int) := by omega
            rw [← hsm] at hcl hcc
            clear hsm hs1 hs2
            go_upto_region 9 with fail
            refine wp_region_noPanic ?_
            refine regionL [] (fun y => y.cell? ⟨g, sm, none⟩ = some (.int .i64 en) ∧ y.cell? ⟨b7, 1, none⟩ = some (.int .i64 T)) (by kernel_rfl) ⟨hcc, y1⟩ (fun hHeld => ?_)
            refine takeN 0 48 rfl ?_
            (try simp only [sl])
            refine takeN 1 49 rfl ?_
            (try simp only [sl])
            refine takeN 2 50 rfl ?_
            (try simp only [sl])
            refine takeN 3 51 rfl ?_
            (try simp only [sl])
            refine takeN 4 52 rfl ?_
            (try simp only [sl])
            refine takeN 5 53 rfl ?_
            (try simp only [sl])
            refine takeN 6 54 rfl ?_
            (try simp only [sl])
            refine takeN 7 55 rfl ?_
            (try simp only [sl])
            refine takeN 8 56 rfl ?_
            (try simp only [sl])
            refine doneL (by kernel_rfl) ?_ _
            refine NoPanic.normal ?_
            replace H6 := hide ((unhide H6).below ((Below.refl _ _).drew))
            clear hHeld hcl hcc y0 y1 y2 y3
            generalize w6.drew = w6' at *
            obtain ⟨z0, z1, z2, z3⟩ := oWt_cells (unhide H6).a
            have zf := oWt_fz (unhide H6).a
            have HJ := hide (unhide H6).a
            have HF := hide (unhide H6).done
            go_wp2_with fail
            (try simp only [Exit.inBlock, Exit.then])
            change bodyPost _ _ _ _ _ (Go.Proofs.YtagibmgbjhemkaaGreat.set4 w6' (b0 + 1) _ _ _ _)
            refine bodyPost_ret (results_cell_tmp2 rfl _ _ _ ⟨b0 + 1, 0, none⟩ _ rfl (load_set4 (unhide HJ) _ _ _ _)) rfl ?_
            exact ⟨_, rfl, nil16 _ _, (unhide HF _ _ _ _).1⟩
        · have eh : (if (holdA true true t F T u).2 = 0 then (((F, T, u, es), 0, 0) : WtV × Nat × Int) else ((0, 0, 0, []), (holdA true true t F T u).1, (holdA true true t F T u).2)) = ((0, 0, 0, []), t.1.length, tCode t) := by
            have := unhide HT hn
            simp [holdA, hn, this]
          have ep : tPlace t = t.1.length := if_neg hn
          have z4 : (tCode t == 0) = false := by simp [unhide HT hn]
          rw [eh]
          rw [ep] at CT
          clear eh CC HT ep
          go_enter Tryz.func12, Tryz.ntmps12
          go_upto_region 1 with fail
          change Code.wp _ _ _ _ ((w.alloc (oG (.slice a1 vn c1) (.slice a2 gn c2) rd wr)).alloc (oWt 0 0 0 (.slice none 0 0)))
          generalize (w.alloc (oG (.slice a1 vn c1) (.slice a2 gn c2) rd wr)).alloc (oWt 0 0 0 (.slice none 0 0)) = w1 at *
          go_wp2_with fail
          refine (unhide CD).mono ?_
          intro e w2 H2
          obtain ⟨ev, rfl, g1, g2⟩ := unhide H2
          obtain ⟨ea, ec, hev⟩ := W16.rrow_shape g1
          simp only at hev g1 ⊢
          obtain ⟨n, hn⟩ : ∃ n, n = es.length := ⟨_, rfl⟩
          rw [← hn] at hev
          clear hn
          have HK := hide (unhide HH w2 ev g1 g2)
          clear HH H2 g1 g2 CD
          subst hev
          go_upto_region 2 with fail
          change Code.wp _ _ _ _ (w2.alloc (oWt F T u (.slice ea n ec)))
          generalize w2.alloc (oWt F T u (.slice ea n ec)) = w3 at *
          generalize hbb : w.heap.size = b0 at *
          generalize w2.heap.size = b7 at *
          have CF := hide (unhide CH F _ _ _ _ _ (unhide HK))
          obtain ⟨c0, c1_, c2_, c3, -⟩ := cellsG (unhide HK).g
          obtain ⟨y0, y1, y2, y3⟩ := oWt_cells (unhide HK).t
          go_wp2_with fail
          refine (unhide CF).mono ?_
          rintro e w4 ⟨rfl, H4⟩
          clear CF c0 c1_ c2_ c3 y0 y1 y2 y3 HK
          obtain ⟨c0, c1_, c2_, c3, -⟩ := cellsG (unhide H4).g
          obtain ⟨y0, y1, y2, y3⟩ := oWt_cells (unhide H4).t
          rw [hF]
          have CF := hide (unhide CH T _ _ _ _ _ (unhide H4))
          go_wp2_with fail
          refine (unhide CF).mono ?_
          rintro e w5 ⟨rfl, H5⟩
          clear CF c0 c1_ c2_ c3 y0 y1 y2 y3 H4
          obtain ⟨c0, c1_, c2_, c3, -⟩ := cellsG (unhide H5).g
          obtain ⟨y0, y1, y2, y3⟩ := oWt_cells (unhide H5).t
          rw [hT]
          have CR := hide (unhide CT _ _ _ _ _ (unhide H5))
          go_wp2_with fail
          refine (unhide CR).mono ?_
          rintro e w6 ⟨sa, sn, sc, rfl, H6⟩
          clear CR c0 c1_ c2_ c3 y0 y1 y2 y3 H5
          replace H6 := hide (unhide H6).1
          obtain ⟨z0, z1, z2, z3⟩ := oWt_cells (unhide H6).a
          have zf := oWt_fz (unhide H6).a
          have HJ := hide (unhide H6).a
          have HF := hide (unhide H6).done
          go_wp2_with fail
          (try simp only [Exit.inBlock, Exit.then])
          change bodyPost _ _ _ _ _ (Go.Proofs.YtagibmgbjhemkaaGreat.set4 w6 (b0 + 1) _ _ _ _)
          refine bodyPost_ret (results_cell_tmp2 rfl _ _ _ ⟨b0 + 1, 0, none⟩ _ rfl (load_set4 (unhide HJ) _ _ _ _)) rfl ?_
          exact ⟨_, rfl, nil16 _ _, (unhide HF _ _ _ _).1⟩
end Go.Proofs.YtagibmgbjhemkaaGreat
