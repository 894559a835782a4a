/- CondOrders' memory: two indices beside one graph, and a list of numbers. -/
import Derived.Test.YtkmhcgmmbkchaaaGreatOwnM10
namespace Go.Proofs.YtkmhcgmmbkchaaaGreat
open Go.RowKit Go.Maps T9
section
variable {w W W' : World} {gb c p m ma ml me : Nat} {lk : Int} {V : List Int} {es : List EdV} {N : Nat} {vv ev : Value} {wr : Int} {L : Nat → Nat}
/-- What others do, leaves the index and the graph. -/
theorem LS.apart {P : Nat → Prop} (h : LS w gb c p m ma ml me lk V es N vv ev wr L W) (ht : Turned P W W') (hP : ∀ b, b < W.heap.size → P b → L b = 0 ∧ b ≠ gb ∧ vv.ownBlock ≠ some b ∧ ev.ownBlock ≠ some b ∧ w.heap.size ≤ b) : LS w gb c p m ma ml me lk V es N vv ev wr (lab L W.heap.size 0) W' := by
  have hn := h.named
  have hs := ht.size
  refine ⟨hn.k.kept (fun b hb hl => ht.block b hb (fun q => ?_)), h.g, (ht.block gb (heap_lt h.box) (fun q => (hP gb (heap_lt h.box) q).2.1 rfl)).trans h.box, nrow_kept h.vs (fun b e => ht.block b (h.vs.lt b e).2 (fun q => (hP b (h.vs.lt b e).2 q).2.2.1 e)), grow_kept h.es_ (fun b e => ht.block b (h.es_.lt b e).2 (fun q => (hP b (h.es_.lt b e).2 q).2.2.2.1 e)), hn.lv, hn.le, hn.lg, hn.low, ?_, h.hg, h.wr0, h.wr1⟩
  · rw [lab, if_pos hb, (hP b hb q).1] at hl; exact hl rfl
  · have hbs := h.bel.size
    exact ⟨ht.os.trans h.bel.os, ht.tape.trans h.bel.tape, ht.output.trans h.bel.output, Nat.le_trans hbs hs, fun b hb => (ht.block b (by omega) (fun q => by have := (hP b (by omega) q).2.2.2.2; omega)).trans (h.bel.block b hb)⟩
end
/-- Two indices, one graph, a list. -/
structure Duo (w : World) (gb c p m ma ml me : Nat) (lk : Int) (d p2 m2 ma2 ml2 me2 : Nat) (lk2 : Int) (V : List Int) (es : List EdV) (N : Nat) (V2 : List Int) (es2 : List EdV) (N2 : Nat) (vv ev : Value) (wr : Int) (gv : Value) (gone : List Int) (L L2 : Nat → Nat) (W : World) : Prop where
  a : LS w gb c p m ma ml me lk V es N vv ev wr L W
  k2 : KSt L2 W d p2 m2 ma2 ml2 me2 lk2 V2 es2 N2
  g2 : GOk V2 es2 N2
  ap : ∀ b, L b ≠ 0 → L2 b = 0
  v2 : ∀ b, vv.ownBlock = some b → L2 b = 0
  e2 : ∀ b, ev.ownBlock = some b → L2 b = 0
  b2 : L2 gb = 0
  lo2 : ∀ b, b < w.heap.size → L2 b = 0
  gr : BRow w.heap.size W gv gone
  gl : ∀ b, gv.ownBlock = some b → L b = 0 ∧ L2 b = 0 ∧ b ≠ gb ∧ vv.ownBlock ≠ some b ∧ ev.ownBlock ≠ some b
section
variable {w W W' : World} {gb c p m ma ml me d p2 m2 ma2 ml2 me2 : Nat} {lk lk2 lk2' : Int} {V V2 V2' : List Int} {es es2 es2' : List EdV} {N N2 N2' : Nat} {vv ev gv : Value} {wr : Int} {gone : List Int} {L L2 : Nat → Nat}
theorem Duo.below (h : Duo w gb c p m ma ml me lk d p2 m2 ma2 ml2 me2 lk2 V es N V2 es2 N2 vv ev wr gv gone L L2 W) (hb : Below W.heap.size W W') : Duo w gb c p m ma ml me lk d p2 m2 ma2 ml2 me2 lk2 V es N V2 es2 N2 vv ev wr gv gone L L2 W' :=
  ⟨h.a.below hb, h.k2.below hb, h.g2, h.ap, h.v2, h.e2, h.b2, h.lo2, brow_kept h.gr (fun b e => hb.block b (h.gr.lt b e).2), h.gl⟩
/-- The second index is edited. -/
theorem Duo.edit (h : Duo w gb c p m ma ml me lk d p2 m2 ma2 ml2 me2 lk2 V es N V2 es2 N2 vv ev wr gv gone L L2 W) (hk : KGo L2 W d p2 m2 ma2 ml2 me2 lk2' V2' es2' N2' W') (hg : GOk V2' es2' N2') : ∃ L' L2', Duo w gb c p m ma ml me lk d p2 m2 ma2 ml2 me2 lk2' V es N V2' es2' N2' vv ev wr gv gone L' L2' W' := by
  obtain ⟨L2', k', ch⟩ := hk
  have hs := ch.tur.size
  have ha := h.a.apart ch.tur (fun b hb q => ⟨Classical.byContradiction (fun z => q (h.ap b z)), fun z => q (by rw [z]; exact h.b2), fun z => q (h.v2 b z), fun z => q (h.e2 b z), Classical.byContradiction (fun z => q (h.lo2 b (by omega)))⟩)
  have hbs := h.a.bel.size
  refine ⟨_, L2', ha, k', hg, fun b hb => ?_, fun b e => ?_, fun b e => ?_, ?_, fun b hb => ?_, brow_kept h.gr (fun b e => ch.tur.block b (h.gr.lt b e).2 (fun q => q (h.gl b e).2.1)), fun b e => ?_⟩
  · by_cases q : b < W.heap.size
    · rw [lab, if_pos q] at hb
      rw [ch.lab_ b q]; exact h.ap b hb
    · rw [lab, if_neg q] at hb; exact absurd rfl hb
  · rw [ch.lab_ b (h.a.vs.lt b e).2]; exact h.v2 b e
  · rw [ch.lab_ b (h.a.es_.lt b e).2]; exact h.e2 b e
  · rw [ch.lab_ gb (heap_lt h.a.box)]; exact h.b2
  · rw [ch.lab_ b (by omega)]; exact h.lo2 b hb
  · obtain ⟨q1, q2, q3⟩ := h.gl b e
    have hl := (h.gr.lt b e).2
    exact ⟨(if_pos hl).trans q1, (ch.lab_ b hl).trans q2, q3⟩
/-- A number more in the list. -/
theorem Duo.push (h : Duo w gb c p m ma ml me lk d p2 m2 ma2 ml2 me2 lk2 V es N V2 es2 N2 vv ev wr gv gone L L2 W) (x : Int) (hl : gone.length ≤ 1000) :
    ∃ a' n' c' w' L' L2', (∀ ty, (Builtin.append_ #[25, 25] ty #[gv, .slice (some ⟨W.heap.size, 0, none⟩) 1 1]).run Tryz.prog (W.alloc (.cells #[.int .i64 x] 3)) = .ok (.slice a' n' c') w') ∧ Duo w gb c p m ma ml me lk d p2 m2 ma2 ml2 me2 lk2 V es N V2 es2 N2 vv ev wr (.slice a' n' c') (gone ++ [x]) L' L2' w' := by
  have hbs := h.a.bel.size
  obtain ⟨a', n', c', w', r, g1, t1, o1⟩ := run_app8 x h.gr hbs (by omega)
  have ha := h.a.apart t1 (fun b hb q => by
    obtain ⟨y1, y2, y3, y4, y5⟩ := h.gl b q
    exact ⟨y1, y3, y4, y5, (h.gr.lt b q).1⟩)
  refine ⟨a', n', c', w', _, lab L2 W.heap.size 0, r, ha, (h.k2.named 0).kept (fun b hb hl => t1.block b hb (fun q => ?_)), h.g2, fun b hb => ?_, fun b e => (if_pos (h.a.vs.lt b e).2).trans (h.v2 b e), fun b e => (if_pos (h.a.es_.lt b e).2).trans (h.e2 b e), (if_pos (heap_lt h.a.box)).trans h.b2, fun b hb => (if_pos (by omega)).trans (h.lo2 b hb), g1, fun b e => ?_⟩
  · rw [lab, if_pos hb, (h.gl b q).2.1] at hl; exact hl rfl
  · by_cases q : b < W.heap.size
    · rw [lab, if_pos q] at hb
      rw [lab, if_pos q]; exact h.ap b hb
    · rw [lab, if_neg q] at hb; exact absurd rfl hb
  · rcases o1 b e with q | q
    · obtain ⟨q1, q2, q3⟩ := h.gl b q
      have hl := (h.gr.lt b q).2
      exact ⟨(if_pos hl).trans q1, (if_pos hl).trans q2, q3⟩
    · refine ⟨if_neg (by omega), if_neg (by omega), fun z => ?_, fun z => ?_, fun z => ?_⟩
      · have := heap_lt h.a.box; omega
      · have := (h.a.vs.lt b z).2; omega
      · have := (h.a.es_.lt b z).2; omega
/-- A call is played on the first index and the graph. -/
theorem Duo.play {k e u v : Int} {r : Ending} (h : Duo w gb c p m ma ml me lk d p2 m2 ma2 ml2 me2 lk2 V es N V2 es2 N2 vv ev wr (.slice none 0 0) [] L L2 W) (hp : PlayAns L W c p m ma ml me lk V es N vv ev 0 wr k e u v r W') :
    ∃ vv' ev' wr' V' es' lk' L' L2', r = .returned (.tuple #[.agg #[vv', ev', .int .i64 0, .int .i64 wr'], .bool true]) ∧ W'.heap[gb]? = some (oG vv ev 0 wr) ∧ Duo w gb c p m ma ml me lk' d p2 m2 ma2 ml2 me2 lk2 V' es' (N + 3) V2 es2 N2 vv' ev' wr' (.slice none 0 0) [] L' L2' (set4 W' gb vv' ev' (.int .i64 0) (.int .i64 wr')) ∧ ∀ b, b < w.heap.size → W'.heap[b]? = W.heap[b]? := by
  obtain ⟨vv', ev', wr', V', es', lk', L', rfl, q1, q2, q3, q4, q5, q6, q7, q8, q9, q10⟩ := hp
  have h1 := h.a
  have hgl := heap_lt h1.box
  have hbx := (q3.tur.block gb hgl (fun z => z h1.lg)).trans h1.box
  have hlg := (q3.lab_ gb hgl).trans h1.lg
  have hbs := h1.bel.size
  have hsz := q3.tur.size
  refine ⟨vv', ev', wr', V', es', lk', L', lab L2 W.heap.size 0, rfl, hbx, ⟨⟨q1.set hlg _ _ _ _, q2, set4G_at hbx _ _ _ _, ?_, ?_, ?_, ?_, hlg, fun b hb => (q3.lab_ b (by omega)).trans (h1.low b hb), ?_, h1.hg, by have := h1.wr0; omega, by have := h1.wr1; omega⟩, ?_, h.g2, fun b hb => ?_, fun b e => ?_, fun b e => ?_, (if_pos hgl).trans h.b2, fun b hb => (if_pos (by omega)).trans (h.lo2 b hb), ⟨rfl, .inl ⟨rfl, rfl⟩⟩, fun b e => (by cases e)⟩, fun b hb => ?_⟩
  · exact nrow_kept q4 (fun b q => set4_other (fun z => by
      rcases (q6 b q).2 with y | y
      · exact (h1.lv b y).2 z
      · omega) _ _ _ _)
  · exact grow_kept q5 (fun b q => set4_other (fun z => by
      rcases (q7 b q).2 with y | y
      · exact (h1.le b y).2 z
      · omega) _ _ _ _)
  · intro b q
    refine ⟨(q6 b q).1, fun z => ?_⟩
    rcases (q6 b q).2 with y | y
    · exact (h1.lv b y).2 z
    · omega
  · intro b q
    refine ⟨(q7 b q).1, fun z => ?_⟩
    rcases (q7 b q).2 with y | y
    · exact (h1.le b y).2 z
    · omega
  · exact set4_below (h1.bel.trans ⟨q3.tur.os, q3.tur.tape, q3.tur.output, q3.tur.size, fun b hb => q3.tur.block b (by omega) (fun z => z (h1.low b hb))⟩) h1.hg _ _ _ _
  · refine (h.k2.named 0).kept (fun b hb hl => ?_)
    rw [lab, if_pos hb] at hl
    have hl0 : L b = 0 := Classical.byContradiction (fun z => hl (h.ap b z))
    rw [set4_other (fun z => hl (by rw [z]; exact h.b2))]
    exact q3.tur.block b hb (fun z => z hl0)
  · by_cases q : b < W.heap.size
    · rw [q3.lab_ b q] at hb
      exact (if_pos q).trans (h.ap b hb)
    · exact if_neg q
  · rcases (q6 b e).2 with y | y
    · exact (if_pos (h1.vs.lt b y).2).trans (h.v2 b y)
    · exact if_neg (by omega)
  · rcases (q7 b e).2 with y | y
    · exact (if_pos (h1.es_.lt b y).2).trans (h.e2 b y)
    · exact if_neg (by omega)
  · exact q3.tur.block b (by omega) (fun z => z (h1.low b hb))
/-- At the beginning. -/
theorem duo_new {w1 w2 : World} (h1 : NewK w c p m ma ml me w1) (h2 : NewK w1 d p2 m2 ma2 ml2 me2 w2) : ∃ L L2, Duo w w2.heap.size c p m ma ml me 0 d p2 m2 ma2 ml2 me2 0 [] [] 0 [] [] 0 (.slice none 0 0) (.slice none 0 0) 0 (.slice none 0 0) [] L L2 (w2.alloc oZ) := by
  obtain ⟨k1, k2, k3⟩ := kst_new h1
  obtain ⟨y1, y2, y3⟩ := kst_new h2
  have hs := k3.size
  have hs2 := y3.size
  refine ⟨lab (labN c p m ma ml me) w1.heap.size 0, lab (labN d p2 m2 ma2 ml2 me2) w2.heap.size 0, ⟨((k1.named 0).below y3).below (below_new w2 oZ), gok_nil, heap_alloc_new w2 oZ, ⟨rfl, .inl ⟨rfl, rfl⟩⟩, ⟨rfl, .inl ⟨rfl, rfl⟩⟩, fun b q => (by cases q), fun b q => (by cases q), if_neg (by omega), fun b hb => (if_pos (by omega)).trans (k2 b hb), (k3.trans (y3.mono hs)).trans ((below_new w2 oZ).mono (by omega)), by omega, Int.le_refl _, Int.le_refl _⟩, (y1.named 0).below (below_new w2 oZ), gok_nil, fun b hb => ?_, fun b q => (by cases q), fun b q => (by cases q), if_neg (by omega), fun b hb => (if_pos (by omega)).trans (y2 b (by omega)), ⟨rfl, .inl ⟨rfl, rfl⟩⟩, fun b e => (by cases e)⟩
  by_cases q : b < w1.heap.size
  · exact (if_pos (by omega)).trans (y2 b q)
  · rw [lab, if_neg q] at hb; exact absurd rfl hb
/-- The second index over the same graph: as the first. -/
theorem Duo.second (h : Duo w gb c p m ma ml me lk d p2 m2 ma2 ml2 me2 lk2 V es N V es2 N2 vv ev wr gv gone L L2 W) (hN : N ≤ N2) (ha : ∀ e, arcF es2 e = arcF es e) (he : ∀ x y, AE es2 x y ↔ AE es x y) : LS w gb d p2 m2 ma2 ml2 me2 lk2 V es N2 vv ev wr L2 W := by
  obtain ⟨S, h1, h2⟩ := h.k2
  have e1 : arcF es2 = arcF es := funext ha
  have e2 : gOut es2 = gOut es := by funext u e; unfold gOut; rw [ha e]
  have e3 : gIn es2 = gIn es := by funext u e; unfold gIn; rw [ha e]
  rw [e1, e2, e3] at h1
  have hg := h.a.g.mono hN
  exact ⟨⟨S, h1, fun x y => by rw [h2 x y, mut_same he]⟩, hg, h.a.box, h.a.vs, h.a.es_, fun b e => ⟨h.v2 b e, (h.a.lv b e).2⟩, fun b e => ⟨h.e2 b e, (h.a.le b e).2⟩, h.b2, h.lo2, h.a.bel, h.a.hg, h.a.wr0, by have := h.a.wr1; omega⟩
end
/-! The graph that the second index comes by. -/
/-- Arcs that go again. -/
def Extra (es X : List EdV) (gone : List Int) (i : Nat) : Prop := X.map (·.1) = gone ∧ gone.length ≤ i ∧ ∀ x ∈ X, arcF es x.1 = none ∧ ∃ j : Nat, j < i ∧ x.1 = -1 - (j : Int)
def z0 (x : EdV) : EdV := (x.1, x.2.1, x.2.2.1, 0)
/-- What has come of the graph itself, from the end. -/
def from_ (es : List EdV) (i : Nat) : List EdV := ((es.drop i).map z0).reverse
theorem extra_start (es : List EdV) : Extra es [] [] 0 := ⟨rfl, Nat.le_refl _, fun x hx => (by cases hx)⟩
theorem Extra.stay {es X : List EdV} {gone : List Int} {i : Nat} (h : Extra es X gone i) : Extra es X gone (i + 1) := ⟨h.1, Nat.le_succ_of_le h.2.1, fun x hx => ⟨(h.2.2 x hx).1, by obtain ⟨j, q1, q2⟩ := (h.2.2 x hx).2; exact ⟨j, by omega, q2⟩⟩⟩
theorem Extra.fresh {es X : List EdV} {gone : List Int} {i : Nat} (h : Extra es X gone i) : arcF X (-1 - (i : Int)) = none := arcF_none.2 (fun x hx e => by
  obtain ⟨j, q1, q2⟩ := (h.2.2 x hx).2
  omega)
theorem Extra.more {es X : List EdV} {gone : List Int} {i : Nat} {u v : Int} (h : Extra es X gone i) (hn : arcF es (-1 - (i : Int)) = none) : Extra es (X ++ [(-1 - (i : Int), u, v, 0)]) (gone ++ [-1 - (i : Int)]) (i + 1) := by
  refine ⟨by rw [List.map_append, h.1]; rfl, by rw [List.length_append]; have := h.2.1; simp; omega, fun x hx => ?_⟩
  rcases List.mem_append.1 hx with hx | hx
  · obtain ⟨j, q1, q2⟩ := (h.2.2 x hx).2
    exact ⟨(h.2.2 x hx).1, j, by omega, q2⟩
  · rw [List.mem_singleton.1 hx]; exact ⟨hn, i, by omega, rfl⟩
theorem from_end (es : List EdV) : from_ es es.length = [] := by unfold from_; rw [List.drop_length]; rfl
theorem from_step {es : List EdV} {i : Nat} {e u v b : Int} (hi : es[i]? = some (e, u, v, b)) : from_ es i = from_ es (i + 1) ++ [(e, u, v, 0)] := by
  obtain ⟨hl, hh⟩ := List.getElem?_eq_some_iff.1 hi
  unfold from_
  rw [List.drop_eq_getElem_cons hl, hh, List.map_cons, List.reverse_cons]
  rfl
theorem mem_from {es : List EdV} {i : Nat} {x : EdV} : x ∈ from_ es i ↔ ∃ y ∈ es.drop i, x = z0 y := by
  unfold from_
  rw [List.mem_reverse, List.mem_map]
  exact ⟨fun ⟨y, h1, h2⟩ => ⟨y, h1, h2.symm⟩, fun ⟨y, h1, h2⟩ => ⟨y, h1, h2.symm⟩⟩
theorem arcF_two {es X : List EdV} {gone : List Int} {k i : Nat} {e u v b : Int} (h : Extra es X gone k) (hu : (es.map (·.1)).Nodup) (hi : es[i]? = some (e, u, v, b)) : arcF (X ++ from_ es (i + 1)) e = none := by
  obtain ⟨hl, hh⟩ := List.getElem?_eq_some_iff.1 hi
  refine arcF_none.2 (fun x hx q => ?_)
  rcases List.mem_append.1 hx with hx | hx
  · exact arcF_none.1 (h.2.2 x hx).1 _ (List.mem_of_getElem? hi) q.symm
  · obtain ⟨y, hy, rfl⟩ := mem_from.1 hx
    have e1 : es = es.take i ++ (e, u, v, b) :: es.drop (i + 1) := by rw [← hh, List.getElem_cons_drop, List.take_append_drop]
    rw [e1, List.map_append, List.map_cons, List.nodup_append] at hu
    exact (List.nodup_cons.1 hu.2.1).1 (List.mem_map.2 ⟨y, hy, q⟩)
theorem from_arcF {es : List EdV} (hu : (es.map (·.1)).Nodup) (hu2 : ((from_ es 0).map (·.1)).Nodup) (e : Int) : arcF (from_ es 0) e = arcF es e := by
  apply Option.ext
  intro a
  rw [arcF_iff hu2, arcF_iff hu]
  constructor
  · rintro ⟨x, hx, h1, h2⟩
    obtain ⟨y, hy, rfl⟩ := mem_from.1 hx
    exact ⟨y, by simpa using hy, h1, h2⟩
  · rintro ⟨y, hy, h1, h2⟩
    exact ⟨z0 y, mem_from.2 ⟨y, by simpa using hy, rfl⟩, h1, h2⟩
theorem from_ae {es : List EdV} (x y : Int) : AE (from_ es 0) x y ↔ AE es x y := by
  rw [ae_iff, ae_iff]
  constructor
  · rintro ⟨z, hz, h1, h2⟩
    obtain ⟨y, hy, rfl⟩ := mem_from.1 hz
    exact ⟨y, by simpa using hy, h1, h2⟩
  · rintro ⟨z, hz, h1, h2⟩
    exact ⟨z0 z, mem_from.2 ⟨z, by simpa using hz, rfl⟩, h1, h2⟩
theorem gok_drop {V : List Int} {N : Nat} {es : List EdV} (h : GOk V es N) (i : Nat) : GOk (V.drop i) [] (V.length - i) :=
  ⟨h.rise.sublist (List.drop_sublist i V), fun x hx => h.okV x (List.mem_of_mem_drop hx), fun x hx => (by cases hx), fun x hx => (by cases hx), .nil, by simp, by simp⟩
theorem drop_mem {V : List Int} {i : Nat} {v : Int} (hi : V[i]? = some v) (x : Int) : x ∈ V.drop i ↔ x ∈ V.drop (i + 1) ∨ x = v := by
  obtain ⟨hl, hh⟩ := List.getElem?_eq_some_iff.1 hi
  rw [List.drop_eq_getElem_cons hl, hh, List.mem_cons]
  exact Or.comm
theorem drop_not {V : List Int} (hr : V.Pairwise (· < ·)) {i : Nat} {v : Int} (hi : V[i]? = some v) : v ∉ V.drop (i + 1) := by
  obtain ⟨hl, hh⟩ := List.getElem?_eq_some_iff.1 hi
  have h := hr.sublist (List.drop_sublist i V)
  rw [List.drop_eq_getElem_cons hl, hh, List.pairwise_cons] at h
  intro q
  have := h.1 v q
  omega
end Go.Proofs.YtkmhcgmmbkchaaaGreat
