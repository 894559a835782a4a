/- A store behind Built, its picture kept whole, beside a list of bytes that is written. -/
import Derived.Test.YtagibmgbjhemkaaGreatRk17
import Derived.Test.YtagibmgbjhemkaaGreatEn16
import Derived.Test.YtagibmgbjhemkaaGreatWkGame
import Derived.Test.YtagibmgbjhemkaaGreatRn16
namespace Go.Proofs.YtagibmgbjhemkaaGreat
section
section
open Go.RowKit Go.Maps
open W16 (WtV Lies u8v i64v dec decV DecAns decodeR)
end

namespace W16
open Go.RowKit Go.Maps
theorem newB {W : World} {v : Value} {ys : List Nat} (h : Lies u8v W v ys) (hl : ys.length ≤ 140737488355328) :
    ∃ a' n' c' w', (∀ ty, (Builtin.append_ #[23, 23] ty #[.slice (some ⟨W.heap.size, 0, none⟩) 0 0, v]).run Tryz.prog (W.alloc (.cells #[] 5)) = .ok (.slice a' n' c') w') ∧ ByRow W.heap.size w' (.slice a' n' c') ys ∧ Below W.heap.size W w' := by
  have hb := below_new W (.cells #[] 5)
  have hr : ByRow W.heap.size (W.alloc (.cells #[] 5)) (.slice (some ⟨W.heap.size, 0, none⟩) 0 0) [] := ⟨rfl, .inr ⟨W.heap.size, 0, #[], rfl, Nat.le_refl _, heap_alloc_new _ _, Nat.le_refl _, by unfold maxLen; omega, rfl, rfl⟩⟩
  obtain ⟨a', n', c', w', r, g1, g2, -⟩ := run_appBs hr hb.size (lies_below h hb) (by simpa using hl)
  rw [List.nil_append] at g1
  exact ⟨a', n', c', w', r, g1, hb.trans (g2.below hb.size (fun k e => by have := own_eq e; omega))⟩
end W16

section
open Go.RowKit Go.Maps
open W16 (WtV Lies u8v i64v dec decV DecAns)
/-- What is always so of the records. -/
structure PF (ps : List (EdgeV × Bool)) (vs : List Int) (gs : List EdgeV) : Prop where
  g8 : GR8 ps gs
  wt : ∀ x ∈ gs, Wt x
  wp : ∀ (i : Nat) (x : EdgeV), ps[i]? = some (x, true) → Wt x
  vl : vs.length ≤ 1000000
structure KXc [Inhabited EntI] (kb : List (Nat × Obj)) (rows : List (Value × List Int)) (w : World) (X : Sto) (ps : List (EdgeV × Bool)) (vv gv : Value) (vs : List Int) (gs : List EdgeV) (W : World) : Prop where
  st : StAt W X
  ps : X.ps = ps
  f : ∀ k, (X.f k).isSome = decide (k ∈ vs)
  lo : ∀ b, X.L b ≠ none → w.heap.size ≤ b
  bel : Below w.heap.size w W
  vs : NRow W vv vs ∧ ∀ b, vv.ownBlock = some b → X.L b = none
  gs : GRow 0 W gv gs ∧ ∀ b, gv.ownBlock = some b → X.L b = none
  kb : ∀ p ∈ kb, W.heap[p.1]? = some p.2 ∧ X.L p.1 = none
  rows : ∀ r ∈ rows, W16.NRow 0 W r.1 r.2 ∧ ∀ b, r.1.ownBlock = some b → X.L b = none
/-- The store s, the graph, boxes and lists. -/
def KC [Inhabited EntI] (kb : List (Nat × Obj)) (rows : List (Value × List Int)) (w : World) (s : Nat) (ps : List (EdgeV × Bool)) (vv gv : Value) (rd wr : Int) (vs : List Int) (gs : List EdgeV) (W : World) : Prop :=
  ∃ X, X.s = s ∧ X.rd = rd ∧ X.wr = wr ∧ KXc kb rows w X ps vv gv vs gs W
section
variable [Inhabited EntI] {kb : List (Nat × Obj)} {rows : List (Value × List Int)} {w W W' : World} {s : Nat} {X : Sto} {ps : List (EdgeV × Bool)} {vv gv : Value} {rd wr : Int} {vs : List Int} {gs : List EdgeV}
theorem KXc.move {r : Int} (h : KXc kb rows w X ps vv gv vs gs W) (hS : Step W X W' { X with rd := r }) : KXc kb rows w { X with rd := r } ps vv gv vs gs W' := by
  have hT : Turned (fun b => X.L b ≠ none) W W' := hS.2.2.1
  have old : ∀ b, b < W.heap.size → X.L b = none → W'.heap[b]? = W.heap[b]? := fun b q1 q2 => hT.block b q1 (fun z => z q2)
  exact ⟨hS.1, h.ps, h.f, h.lo, h.bel.trans (hT.below h.bel.size (fun b hb => h.lo b hb)), ⟨nrow_kept h.vs.1 (fun b e => old b (h.vs.1.lt b e).2 (h.vs.2 b e)), h.vs.2⟩, ⟨grow_kept h.gs.1 (fun b e => old b (h.gs.1.lt b e).2 (h.gs.2 b e)), h.gs.2⟩,
    fun p hp => ⟨(old _ (heap_lt (h.kb p hp).1) (h.kb p hp).2).trans (h.kb p hp).1, (h.kb p hp).2⟩, fun r hr => ⟨W16.rrow_kept (h.rows r hr).1 (fun b e => old b ((h.rows r hr).1.lt b e).2 ((h.rows r hr).2 b e)), (h.rows r hr).2⟩⟩
theorem KXc.below (h : KXc kb rows w X ps vv gv vs gs W) (hb : Below W.heap.size W W') : KXc kb rows w X ps vv gv vs gs W' := h.move (r := X.rd) (Step.below h.st hb)
theorem KC.below (h : KC kb rows w s ps vv gv rd wr vs gs W) (hb : Below W.heap.size W W') : KC kb rows w s ps vv gv rd wr vs gs W' := by
  obtain ⟨X, h1, h2, h3, h4⟩ := h
  exact ⟨X, h1, h2, h3, h4.below hb⟩
theorem KC.out (h : KC kb rows w s ps vv gv rd wr vs gs W) : Below w.heap.size w W := by
  obtain ⟨X, h1, h2, h3, h4⟩ := h
  exact h4.bel
/-- A box more. -/
theorem KC.box (h : KC kb rows w s ps vv gv rd wr vs gs W) (o : Obj) : KC ((W.heap.size, o) :: kb) rows w s ps vv gv rd wr vs gs (W.alloc o) := by
  obtain ⟨X, h1, h2, h3, h4⟩ := h
  have h5 := h4.below (below_new W o)
  exact ⟨X, h1, h2, h3, h5.st, h5.ps, h5.f, h5.lo, h5.bel, h5.vs, h5.gs, fun p hp => by
    rcases List.mem_cons.1 hp with e | e
    · subst e; exact ⟨heap_alloc_new _ _, h4.st.mem.new (Nat.le_refl _)⟩
    · exact h5.kb p e, h5.rows⟩
/-- A list more. -/
theorem KC.row (h : KC kb rows w s ps vv gv rd wr vs gs W) {v : Value} {ks : List Int} {B : Nat} (hB : W.heap.size ≤ B) (hb : Below W.heap.size W W') (hr : W16.NRow B W' v ks) : KC kb ((v, ks) :: rows) w s ps vv gv rd wr vs gs W' := by
  obtain ⟨X, h1, h2, h3, h4⟩ := h
  have h5 := h4.below hb
  exact ⟨X, h1, h2, h3, h5.st, h5.ps, h5.f, h5.lo, h5.bel, h5.vs, h5.gs, h5.kb, fun r hr' => by
    rcases List.mem_cons.1 hr' with e | e
    · subst e; exact ⟨W16.rrow_low hr (Nat.zero_le _), fun b e => h4.st.mem.new (by have := (hr.lt b e).1; omega)⟩
    · exact h5.rows r e⟩
theorem KC.get (h : KC kb rows w s ps vv gv rd wr vs gs W) {b : Nat} {o : Obj} (hb : (b, o) ∈ kb) : W.heap[b]? = some o := by
  obtain ⟨X, h1, h2, h3, h4⟩ := h
  exact (h4.kb _ hb).1
theorem KC.getr (h : KC kb rows w s ps vv gv rd wr vs gs W) {v : Value} {ks : List Int} (hb : (v, ks) ∈ rows) : W16.NRow 0 W v ks := by
  obtain ⟨X, h1, h2, h3, h4⟩ := h
  exact (h4.rows _ hb).1
theorem KC.graph (h : KC kb rows w s ps vv gv rd wr vs gs W) : NRow W vv vs ∧ GRow 0 W gv gs := by
  obtain ⟨X, h1, h2, h3, h4⟩ := h
  exact ⟨h4.vs.1, h4.gs.1⟩
/-- Behind Built. -/
theorem kc_built {m : Nat} {g : Gr} (hG : Game m X g vv gv vs gs W) (hs : X.s = s) (hrd : g.rd = rd) (hwr : g.wr = wr) (hL : ∀ b, X.L b ≠ none → w.heap.size ≤ b) (hB : Below w.heap.size w W) : KC [] [] w s g.ps vv gv rd wr vs gs W ∧ PF g.ps vs gs ∧ 0 ≤ rd ∧ rd ≤ (m : Int) := by
  have hps := hG.sh.ps
  refine ⟨⟨X, hs, by rw [hG.sh.rd, hrd], by rw [hG.sh.wr, hwr], hG.st, hps, fun k => ?_, hL, hB, ⟨hG.vrow, hG.vfr⟩, ⟨hG.erow, hG.efr⟩, fun p hp => (by cases hp), fun r hr => (by cases hr)⟩, ⟨⟨hG.elen, hG.rel.re, fun x hx => hG.rel.lk hx, fun e x hk => ?_⟩, fun x hx => ?_, fun i x hx => hG.wt i x (by rw [hps]; exact hx), ?_⟩, ?_, ?_⟩
  · rw [hG.sh.V, Bool.eq_iff_iff, decide_eq_true_iff]; exact hG.rel.V k
  · obtain ⟨i, rfl, hi⟩ := lk_some hk
    exact ⟨(hG.rel.mem x).2 ⟨i, hi⟩, (hG.rel.edge i x hi).1⟩
  · obtain ⟨i, hi⟩ := (hG.rel.mem x).1 hx
    exact hG.wt i x (by rw [hps]; exact hi)
  · have := hG.rel.N; have := hG.sh.N; have := hG.st.size; omega
  · have := hG.bnd.rd0; omega
  · have := hG.bnd.rd1; omega
end
end
end
section
namespace W16
open Go.RowKit Go.Maps
theorem oV_two (w : World) (F T F' T' : Int) (u u' : Nat) (ev ev' : Value) : ((w.alloc (oV F T u ev)).alloc (oV F' T' u' ev')).heap[w.heap.size]? = some (oV F T u ev) ∧ ((w.alloc (oV F T u ev)).alloc (oV F' T' u' ev')).heap[w.heap.size + 1]? = some (oV F' T' u' ev') ∧ Below w.heap.size w ((w.alloc (oV F T u ev)).alloc (oV F' T' u' ev')) := by
  have s1 : (w.alloc (oV F T u ev)).heap.size = w.heap.size + 1 := by simp
  have b1 := below_new w (oV F T u ev)
  have b2 := below_new (w.alloc (oV F T u ev)) (oV F' T' u' ev')
  have h := heap_alloc_new (w.alloc (oV F T u ev)) (oV F' T' u' ev')
  rw [s1] at h
  exact ⟨(b2.block _ (by omega)).trans (heap_alloc_new _ _), h, b1.trans (b2.mono (by omega))⟩
theorem take_eq_step {es es' : List Int} {i : Nat} {x y : Int} (h : es.take i = es'.take i) (hx : es[i]? = some x) (hy : es'[i]? = some y) (he : x = y) : es.take (i + 1) = es'.take (i + 1) := by
  rw [List.take_add_one, List.take_add_one, hx, hy, h, he]
set_option maxHeartbeats 4000000 in
set_option maxRecDepth 100000 in
theorem sameR {w : World} {ev ev' : Value} (F T F' T' : Int) (u u' : Nat) {es es' : List Int} (h : Lies i64v w ev es) (h' : Lies i64v w ev' es') (hl : es.length ≤ 140737488355328) :
    Calls Tryz.prog 14 #[.agg #[.int .i64 F, .int .i64 T, .int .u32 (u : Nat), ev], .agg #[.int .i64 F', .int .i64 T', .int .u32 (u' : Nat), ev']] w fun e w' => e = .returned (.bool (decide (((F, T, u, es) : WtV) = (F', T', u', es')))) ∧ Hid (Below w.heap.size w w') := by
  obtain ⟨a, c, hv⟩ := lies_shape h
  obtain ⟨a', c', hv'⟩ := lies_shape h'
  obtain ⟨n, hn⟩ : ∃ n, n = es.length := ⟨_, rfl⟩
  obtain ⟨n', hn'⟩ : ∃ n', n' = es'.length := ⟨_, rfl⟩
  rw [← hn] at hv
  rw [← hn'] at hv'
  subst hv hv'
  obtain ⟨t1, t2, tb⟩ := oV_two w F T F' T' u u' (.slice a n c) (.slice a' n' c')
  obtain ⟨c0, c1, c2, c3⟩ := oV_cells t1
  obtain ⟨d0, d1, d2, d3⟩ := oV_cells t2
  have h1 := lies_below h tb
  have h1' := lies_below h' tb
  have HB := hide tb
  generalize hr : decide (((F, T, u, es) : WtV) = (F', T', u', es')) = r
  have fin : ∀ b : Bool, (((F, T, u, es) : WtV) = (F', T', u', es') ↔ b = true) → r = b := fun b hb => by
    rw [← hr]; cases b with
    | true => exact decide_eq_true (hb.2 rfl)
    | false => exact decide_eq_false (fun e => by have := hb.1 e; cases this)
  by_cases q1 : F = F'
  · subst q1
    by_cases q2 : T = T'
    · subst q2
      by_cases q3 : u = u'
      · subst q3
        by_cases q4 : n = n'
        · have HN : Hid (n = es.length ∧ n = es'.length ∧ n ≤ 140737488355328) := ⟨hn, by omega, by omega⟩
          have HF : Hid ((es = es' → r = true) ∧ (es ≠ es' → r = false)) := ⟨fun e => fin true (by rw [e]; simp), fun e => fin false (by simp [e])⟩
          subst q4
          have H1 := hide h1
          have H1' := hide h1'
          have HT := hide (And.intro t1 t2)
          clear h h' h1 h1' hn hn' hr fin hl t1 t2
          unfold oV at *
          go_enter Tryz.func14, Tryz.ntmps14
          go_wp2_with fail
          generalize ((w.alloc (Obj.cells #[Value.int .i64 F, Value.int .i64 T, Value.int .u32 (u : Nat), Value.slice a n c] 35)).alloc (Obj.cells #[Value.int .i64 F, Value.int .i64 T, Value.int .u32 (u : Nat), Value.slice a' n c'] 35)) = wb at *
          generalize w.heap.size + 1 = b2 at *
          obtain ⟨b1, hb1⟩ : ∃ b1, b1 = w.heap.size := ⟨_, rfl⟩
          rw [← hb1] at HT ⊢
          clear hb1
          clear tb c0 c1 c2 c3 d0 d1 d2 d3
          go_loopw [37] (fun s37 wr => ∃ i : Nat, s37 = .int .i64 (i : Nat) ∧ Hid (i ≤ n ∧ Below wb.heap.size wb wr ∧ es.take i = es'.take i)) (fun s37 _ => n - (intOf s37).toNat)
          case atStart => exact ⟨0, rfl, Nat.zero_le _, Below.refl _ _, rfl⟩
          case round =>
            obtain ⟨i, rfl, HI⟩ := hrel
            obtain ⟨i1, i2, i3⟩ := unhide HI
            obtain ⟨l1, l2, l3⟩ := unhide HN
            by_cases hlt : i < n
            · obtain ⟨x, hx⟩ : ∃ x, es[i]? = some x := ⟨_, List.getElem?_eq_getElem (by omega)⟩
              obtain ⟨yy, hy⟩ : ∃ yy, es'[i]? = some yy := ⟨_, List.getElem?_eq_getElem (by omega)⟩
              obtain ⟨bx, ox, rfl, kx⟩ := lies_at (lies_below (unhide H1) i2) hx
              obtain ⟨by_, oy, rfl, ky⟩ := lies_at (lies_below (unhide H1') i2) hy
              unfold i64v at kx ky
              have m1 : wr.cell? ⟨b1, 3, none⟩ = some (.slice (some ⟨bx, ox, none⟩) n c) := (oV_cells ((i2.block _ (heap_lt (unhide HT).1)).trans (unhide HT).1)).2.2.2
              have m2 : wr.cell? ⟨b2, 3, none⟩ = some (.slice (some ⟨by_, oy, none⟩) n c') := (oV_cells ((i2.block _ (heap_lt (unhide HT).2)).trans (unhide HT).2)).2.2.2
              have z1 : (i : Int) < (n : Int) := by omega
              obtain ⟨j, hj⟩ : ∃ j, j = i + 1 := ⟨_, rfl⟩
              have zw : Hid (wrap64 ((i : Int) + 1) = (j : Int)) := by show wrap64 ((i : Int) + 1) = (j : Int); unfold wrap64; omega
              have HBW : Hid (Below w.heap.size w wr ∧ Below wb.heap.size wb wr.drew) := ⟨(unhide HB).trans (i2.mono (unhide HB).size), i2.drew⟩
              by_cases hxy : x = yy
              · subst hxy
                have HJ : Hid (j ≤ n ∧ es.take j = es'.take j ∧ n - j < n - i) := ⟨by omega, by rw [hj]; exact take_eq_step i3 hx hy rfl, by omega⟩
                clear HI i1 i2 i3 l1 l2 l3 hlt hx hy hj
                go_upto_region 6 with fail
                refine wp_region_noPanic ?_
                refine regionL [] (fun y => y.cell? ⟨b1, 3, none⟩ = some (.slice (some ⟨bx, ox, none⟩) n c) ∧ y.cell? ⟨b2, 3, none⟩ = some (.slice (some ⟨by_, oy, none⟩) n c') ∧ y.cell? ⟨bx, ox + i, none⟩ = some (.int .i64 x) ∧ y.cell? ⟨by_, oy + i, none⟩ = some (.int .i64 x)) (by kernel_rfl) ⟨m1, m2, kx, ky⟩ (fun hHeld => ?_)
                refine takeN 0 40 rfl ?_
                (try simp only [sl])
                refine takeN 1 41 rfl ?_
                (try simp only [sl])
                refine takeN 2 42 rfl ?_
                (try simp only [sl])
                refine takeN 3 43 rfl ?_
                (try simp only [sl])
                refine takeN 4 44 rfl ?_
                (try simp only [sl])
                refine takeN 5 45 rfl ?_
                (try simp only [sl])
                refine takeN 6 46 rfl ?_
                (try simp only [sl])
                refine takeN 7 47 rfl ?_
                (try simp only [sl])
                refine takeN 8 48 rfl ?_
                (try simp only [sl])
                refine takeN 9 49 rfl ?_
                (try simp only [sl])
                refine takeN 10 50 rfl ?_
                (try simp only [sl])
                refine doneL (by kernel_rfl) ?_ _
                refine NoPanic.normal ?_
                go_wp2_with fail
                exact ⟨⟨j, by (try rw [unhide zw]) <;> rfl, (unhide HJ).1, (unhide HBW).2, (unhide HJ).2.1⟩, by (try rw [unhide zw]); exact (unhide HJ).2.2⟩
              · have HR : Hid (r = false) := (unhide HF).2 (fun e => hxy (by rw [e, hy] at hx; exact (Option.some.inj hx).symm))
                have z3 : (x != yy) = true := by simpa using hxy
                clear HI i1 i2 i3 l1 l2 l3 hlt hx hy hj hxy
                go_upto_region 6 with fail
                refine wp_region_noPanic ?_
                refine regionL [] (fun y => y.cell? ⟨b1, 3, none⟩ = some (.slice (some ⟨bx, ox, none⟩) n c) ∧ y.cell? ⟨b2, 3, none⟩ = some (.slice (some ⟨by_, oy, none⟩) n c') ∧ y.cell? ⟨bx, ox + i, none⟩ = some (.int .i64 x) ∧ y.cell? ⟨by_, oy + i, none⟩ = some (.int .i64 yy)) (by kernel_rfl) ⟨m1, m2, kx, ky⟩ (fun hHeld => ?_)
                refine takeN 0 40 rfl ?_
                (try simp only [sl])
                refine takeN 1 41 rfl ?_
                (try simp only [sl])
                refine takeN 2 42 rfl ?_
                (try simp only [sl])
                refine takeN 3 43 rfl ?_
                (try simp only [sl])
                refine takeN 4 44 rfl ?_
                (try simp only [sl])
                refine takeN 5 45 rfl ?_
                (try simp only [sl])
                refine takeN 6 46 rfl ?_
                (try simp only [sl])
                refine takeN 7 47 rfl ?_
                (try simp only [sl])
                refine takeN 8 48 rfl ?_
                (try simp only [sl])
                refine takeN 9 49 rfl ?_
                (try simp only [sl])
                refine takeN 10 50 rfl ?_
                (try simp only [sl])
                refine doneL (by kernel_rfl) ?_ _
                refine NoPanic.normal ?_
                go_wp2_with fail
                go_ret
                exact ⟨by rw [unhide HR]; rfl, (unhide HBW).1.drew⟩
            · have z1 : ¬ (i : Int) < (n : Int) := by omega
              have HR : Hid (r = true) := (unhide HF).1 (by
                have e1 := List.take_of_length_le (l := es) (i := i) (by omega)
                have e2 := List.take_of_length_le (l := es') (i := i) (by omega)
                rw [e1, e2] at i3; exact i3)
              have HBW : Hid (Below w.heap.size w wr) := (unhide HB).trans (i2.mono (unhide HB).size)
              clear HI i1 i2 i3 l1 l2 l3 hlt
              go_wp2_with fail
              go_ret
              exact ⟨by rw [unhide HR]; rfl, HBW⟩
        · have HR : Hid (r = false) := fin false (by simp; intro e; exact q4 (by rw [hn, hn', e]))
          have z4 : ((n : Int) != (n' : Int)) = true := by simp; omega
          clear h h' h1 h1' hn hn' hr fin hl t1 t2 q4 tb
          unfold oV at *
          go_enter Tryz.func14, Tryz.ntmps14
          go_wp2_with fail
          go_ret
          exact ⟨by rw [unhide HR]; rfl, HB⟩
      · have HR : Hid (r = false) := fin false (by simp; intro e; exact absurd e q3)
        have z4 : ((u : Int) != (u' : Int)) = true := by simp; omega
        clear h h' h1 h1' hn hn' hr fin hl t1 t2 tb q3
        unfold oV at *
        go_enter Tryz.func14, Tryz.ntmps14
        go_wp2_with fail
        go_ret
        exact ⟨by rw [unhide HR]; rfl, HB⟩
    · have HR : Hid (r = false) := fin false (by simp; intro e; exact absurd e q2)
      have z4 : (T != T') = true := by simpa using q2
      clear h h' h1 h1' hn hn' hr fin hl t1 t2 tb q2
      unfold oV at *
      go_enter Tryz.func14, Tryz.ntmps14
      go_wp2_with fail
      go_ret
      exact ⟨by rw [unhide HR]; rfl, HB⟩
  · have HR : Hid (r = false) := fin false (by simp; intro e; exact absurd e q1)
    have z4 : (F != F') = true := by simpa using q1
    clear h h' h1 h1' hn hn' hr fin hl t1 t2 tb q1
    unfold oV at *
    go_enter Tryz.func14, Tryz.ntmps14
    go_wp2_with fail
    go_ret
    exact ⟨by rw [unhide HR]; rfl, HB⟩
end W16

section
open Go.RowKit Go.Maps
open W16 (WtV Lies u8v i64v dec decV DecAns)
theorem chkA_len {V : Int → Bool} {ps : List (EdgeV × Bool)} {bs : List Nat} (hb : ∀ x ∈ bs, x < 256) : (chkA V ps bs).1.2.2.2.length ≤ 1024 ∧ (decV bs).1.2.2.2.length ≤ 1024 := by
  unfold chkA W16.decV
  cases hd : dec bs with
  | none => exact ⟨Nat.zero_le _, Nat.zero_le _⟩
  | some x =>
    have := (dec_oks hb hd).2.2.2.1
    refine ⟨?_, this⟩
    simp only
    split
    · exact this
    · exact Nat.zero_le _
end

section
open Go.RowKit Go.Maps
open W16 (WtV Lies u8v i64v dec decV DecAns)
/-- The store X0 with rd reads, boxes and lists, and the bytes rb in a block that is nobody else's. -/
def KG [Inhabited EntI] (kb : List (Nat × Obj)) (rows : List (Value × List Int)) (rv : Value) (rb : List Nat) (w : World) (X0 : Sto) (rd : Int) (ps : List (EdgeV × Bool)) (vv gv : Value) (vs : List Int) (gs : List EdgeV) (W : World) : Prop :=
  KXc kb rows w { X0 with rd := rd } ps vv gv vs gs W ∧ W16.ByRow 0 W rv rb ∧ ∀ c, rv.ownBlock = some c → w.heap.size ≤ c ∧ X0.L c = none ∧ (∀ p ∈ kb, p.1 ≠ c) ∧ (∀ r ∈ rows, r.1.ownBlock ≠ some c) ∧ vv.ownBlock ≠ some c ∧ gv.ownBlock ≠ some c
/-- Its room. -/
theorem row_cap17 {X : Type} {t : TypeId} {k : Nat} {enc : X → List Value} {B : Nat} {w : World} {a : Option Addr} {n c : Nat} {xs : List X} (h : W16.RRow t k enc B w (.slice a n c) xs) : n ≤ c := by
  rcases h.2 with ⟨e, h0⟩ | ⟨g, cap, cur, e, -, -, h3, -⟩
  · injection e with e1 e2 e3; omega
  · injection e with e1 e2 e3; omega
section
variable [Inhabited EntI] {kb : List (Nat × Obj)} {rows : List (Value × List Int)} {rv : Value} {rb : List Nat} {w W W' : World} {X0 : Sto} {ps : List (EdgeV × Bool)} {vv gv : Value} {rd : Int} {vs : List Int} {gs : List EdgeV}
theorem KG.move {r : Int} (h : KG kb rows rv rb w X0 rd ps vv gv vs gs W) (hS : Step W { X0 with rd := rd } W' { X0 with rd := r }) : KG kb rows rv rb w X0 r ps vv gv vs gs W' := by
  obtain ⟨h1, h2, h3⟩ := h
  have hT : Turned (fun b => X0.L b ≠ none) W W' := hS.2.2.1
  exact ⟨h1.move hS, W16.rrow_kept h2 (fun b e => hT.block b (h2.lt b e).2 (fun z => z (h3 b e).2.1)), h3⟩
theorem KG.below (h : KG kb rows rv rb w X0 rd ps vv gv vs gs W) (hb : Below W.heap.size W W') : KG kb rows rv rb w X0 rd ps vv gv vs gs W' := h.move (r := rd) (Step.below h.1.st hb)
theorem KG.box (h : KG kb rows rv rb w X0 rd ps vv gv vs gs W) (o : Obj) : KG ((W.heap.size, o) :: kb) rows rv rb w X0 rd ps vv gv vs gs (W.alloc o) := by
  have h5 := h.below (below_new W o)
  obtain ⟨h1, h2, h3⟩ := h
  refine ⟨⟨h5.1.st, h5.1.ps, h5.1.f, h5.1.lo, h5.1.bel, h5.1.vs, h5.1.gs, fun p hp => ?_, h5.1.rows⟩, h5.2.1, fun c e => ?_⟩
  · rcases List.mem_cons.1 hp with e | e
    · subst e; exact ⟨heap_alloc_new _ _, h1.st.mem.new (Nat.le_refl _)⟩
    · exact h5.1.kb p e
  · obtain ⟨q0, q1, q2, q3⟩ := h3 c e
    refine ⟨q0, q1, fun p hp => ?_, q3⟩
    rcases List.mem_cons.1 hp with e' | e'
    · subst e'; have := (h2.lt c e).2; show W.heap.size ≠ c; omega
    · exact q2 p e'
theorem KG.row (h : KG kb rows rv rb w X0 rd ps vv gv vs gs W) {v : Value} {ks : List Int} {B : Nat} {rd' : Int} (hB : W.heap.size ≤ B) (h' : KG kb rows rv rb w X0 rd' ps vv gv vs gs W') (hr : W16.NRow B W' v ks) : KG kb ((v, ks) :: rows) rv rb w X0 rd' ps vv gv vs gs W' := by
  obtain ⟨h1, h2, h3⟩ := h
  obtain ⟨g1, g2, g3⟩ := h'
  refine ⟨⟨g1.st, g1.ps, g1.f, g1.lo, g1.bel, g1.vs, g1.gs, g1.kb, fun r hr' => ?_⟩, g2, fun c e => ?_⟩
  · rcases List.mem_cons.1 hr' with e | e
    · subst e; exact ⟨W16.rrow_low hr (Nat.zero_le _), fun b e => h1.st.mem.new (by have := (hr.lt b e).1; omega)⟩
    · exact g1.rows r e
  · obtain ⟨q0, q1, q2, q3, q4⟩ := g3 c e
    refine ⟨q0, q1, q2, fun r hr' => ?_, q4⟩
    rcases List.mem_cons.1 hr' with e' | e'
    · subst e'
      intro z
      have := (hr.lt c z).1
      have := (h2.lt c e).2
      omega
    · exact q3 r e'
theorem KG.get (h : KG kb rows rv rb w X0 rd ps vv gv vs gs W) {b : Nat} {o : Obj} (hb : (b, o) ∈ kb) : W.heap[b]? = some o := (h.1.kb _ hb).1
theorem KG.getr (h : KG kb rows rv rb w X0 rd ps vv gv vs gs W) {v : Value} {ks : List Int} (hb : (v, ks) ∈ rows) : W16.NRow 0 W v ks := (h.1.rows _ hb).1
/-- A byte is written. -/
theorem KG.byte {g n c i : Nat} (h : KG kb rows (.slice (some ⟨g, 0, none⟩) n c) rb w X0 rd ps vv gv vs gs W) {x : Nat} (hi : rb[i]? = some x) (y : Nat) : KG kb rows (.slice (some ⟨g, 0, none⟩) n c) (rb.set i y) w X0 rd ps vv gv vs gs (W.setCell ⟨g, i, none⟩ (.int .u8 (y : Nat))) := by
  obtain ⟨h1, h2, h3⟩ := h
  obtain ⟨q0, q1, q2, q3, q4, q5⟩ := h3 g rfl
  have hT : Turned (fun b => b = g) W (W.setCell ⟨g, i, none⟩ (.int .u8 (y : Nat))) := turned_setCell _ _ _ rfl
  have old : ∀ b, b < W.heap.size → b ≠ g → (W.setCell ⟨g, i, none⟩ (.int .u8 (y : Nat))).heap[b]? = W.heap[b]? := fun b z1 z2 => hT.block b z1 z2
  refine ⟨⟨h1.st.kept (fun b hb => old b (h1.st.mem.lt b hb) (fun e => hb (by rw [e]; exact q1))) hT.size, h1.ps, h1.f, h1.lo, h1.bel.trans (hT.below h1.bel.size (fun b e => by rw [e]; exact q0)), ⟨nrow_kept h1.vs.1 (fun b e => old b (h1.vs.1.lt b e).2 (fun z => q4 (by rw [← z]; exact e))), h1.vs.2⟩, ⟨grow_kept h1.gs.1 (fun b e => old b (h1.gs.1.lt b e).2 (fun z => q5 (by rw [← z]; exact e))), h1.gs.2⟩, fun p hp => ⟨(old _ (heap_lt (h1.kb p hp).1) (q2 p hp)).trans (h1.kb p hp).1, (h1.kb p hp).2⟩, fun r hr => ⟨W16.rrow_kept (h1.rows r hr).1 (fun b e => old b ((h1.rows r hr).1.lt b e).2 (fun z => q3 r hr (by rw [← z]; exact e))), (h1.rows r hr).2⟩⟩, ?_, h3⟩
  have := W16.rrow_set W16.kitB h2 hi (j := 0) (by omega) (x' := y) (u := .int .u8 (y : Nat)) rfl
  simpa using this
theorem kgReads (h : KG kb rows rv rb w X0 rd ps vv gv vs gs W) : Calls Tryz.prog 10 #[.pointer (some ⟨X0.s, 0, none⟩)] W fun e w' => e = .returned (.int .i64 rd) ∧ w' = W := readsS h.1.st
theorem kgCheck (hp : PF ps vs gs) (h : KG kb rows rv rb w X0 rd ps vv gv vs gs W) {v : Value} {bs : List Nat} (hv : Lies u8v W v bs) (hb : ∀ x ∈ bs, x < 256) (hl : bs.length ≤ 140737488355328) (ho : ∀ b, v.ownBlock = some b → b < W.heap.size) (hr0 : 0 ≤ rd) (hr1 : rd ≤ 100000000) :
    Calls Tryz.prog 11 #[.iface 24 (.pointer (some ⟨X0.s, 0, none⟩)), v] W fun e w' => Hid (∃ ev k, e = .returned (.tuple #[.agg #[.int .i64 (chkA (fun k => decide (k ∈ vs)) ps bs).1.1, .int .i64 (chkA (fun k => decide (k ∈ vs)) ps bs).1.2.1, .int .u32 ((chkA (fun k => decide (k ∈ vs)) ps bs).1.2.2.1 : Nat), ev], .int .i64 ((chkA (fun k => decide (k ∈ vs)) ps bs).2.1 : Nat), .int .i64 (chkA (fun k => decide (k ∈ vs)) ps bs).2.2]) ∧ k ≤ (decV bs).1.2.2.2.length ∧ KG kb ((ev, (chkA (fun k => decide (k ∈ vs)) ps bs).1.2.2.2) :: rows) rv rb w X0 (rd + (k : Nat)) ps vv gv vs gs w') := by
  have eV : (fun k => (X0.f k).isSome) = fun k => decide (k ∈ vs) := funext fun k => h.1.f k
  have e2 : X0.ps = ps := h.1.ps
  subst e2
  have := checkS (X := { X0 with rd := rd }) h.1.st hv hb hl ho hr0 hr1 hp.wp
  rw [show (fun k => (({ X0 with rd := rd } : Sto).f k).isSome) = fun k => decide (k ∈ vs) from eV] at this
  refine this.mono ?_
  intro e w' hh
  obtain ⟨ev, rfl, g1, k, g2, g3⟩ := unhide hh
  exact ⟨ev, k, rfl, g2, h.row (Nat.le_refl _) (h.move (r := rd + (k : Int)) g3) g1⟩
theorem kgClaim (hp : PF ps vs gs) (h : KG kb rows rv rb w X0 rd ps vv gv vs gs W) (f t : Int) (u : Nat) {v : Value} {bs : List Nat} (hv : Lies u8v W v bs) (hb : ∀ x ∈ bs, x < 256) (hl : bs.length ≤ 140737488355328) (ho : ∀ b, v.ownBlock = some b → b < W.heap.size) (hr0 : 0 ≤ rd) (hr1 : rd ≤ 100000000) :
    Calls Tryz.prog 16 #[.iface 24 (.pointer (some ⟨X0.s, 0, none⟩)), .int .i64 f, .int .i64 t, .int .u32 (u : Nat), v] W fun e w' => e = .returned (.tuple #[.int .i64 ((clmA (fun k => decide (k ∈ vs)) ps bs f t u).1 : Nat), .int .i64 (clmA (fun k => decide (k ∈ vs)) ps bs f t u).2]) ∧ Hid (∃ k : Nat, k ≤ (decV bs).1.2.2.2.length ∧ KG kb rows rv rb w X0 (rd + (k : Nat)) ps vv gv vs gs w') := by
  have eV : (fun k => (X0.f k).isSome) = fun k => decide (k ∈ vs) := funext fun k => h.1.f k
  have e2 : X0.ps = ps := h.1.ps
  subst e2
  have := claimS (X := { X0 with rd := rd }) f t u h.1.st hv hb hl ho hr0 hr1 hp.wp
  rw [show (fun k => (({ X0 with rd := rd } : Sto).f k).isSome) = fun k => decide (k ∈ vs) from eV] at this
  refine this.mono ?_
  rintro e w' ⟨rfl, hh⟩
  obtain ⟨k, g2, g3⟩ := unhide hh
  exact ⟨rfl, k, g2, h.move (r := rd + (k : Int)) g3⟩
theorem kgRefCheck (hp : PF ps vs gs) (h : KG kb rows rv rb w X0 rd ps vv gv vs gs W) {rd' wr' : Int} {v : Value} {bs : List Nat} (hv : Lies u8v w v bs) (hb : ∀ x ∈ bs, x < 256) (hl : bs.length ≤ 140737488355328) :
    Calls Tryz.prog 12 #[.agg #[vv, gv, .int .i64 rd', .int .i64 wr'], v] W fun e w' => Hid (RckAns W (chkA (fun k => decide (k ∈ vs)) ps bs) e w') :=
  refCheckS h.1.vs.1 h.1.gs.1 hp.g8 hp.wt hp.vl (W16.lies_below hv h.1.bel) hb hl
theorem KG.less {kb' : List (Nat × Obj)} (h : KG kb rows rv rb w X0 rd ps vv gv vs gs W) (hs : ∀ p ∈ kb', p ∈ kb) : KG kb' rows rv rb w X0 rd ps vv gv vs gs W := by
  obtain ⟨h1, h2, h3⟩ := h
  exact ⟨⟨h1.st, h1.ps, h1.f, h1.lo, h1.bel, h1.vs, h1.gs, fun p hp => h1.kb p (hs p hp), h1.rows⟩, h2, fun c e => ⟨(h3 c e).1, (h3 c e).2.1, fun p hp => (h3 c e).2.2.1 p (hs p hp), (h3 c e).2.2.2⟩⟩
/-- The graph's box is written: nothing else lies there. -/
theorem KG.gbox {b : Nat} {r0 wr : Int} (h : KG ((b, oG vv gv r0 wr) :: kb) rows rv rb w X0 rd ps vv gv vs gs W) (hlo : w.heap.size ≤ b) (hkb : ∀ p ∈ kb, ∃ F T u ev, p.2 = oWt F T u ev) (r : Int) : KG kb rows rv rb w X0 rd ps vv gv vs gs (W.setCell ⟨b, 2, none⟩ (.int .i64 r)) ∧ (W.setCell ⟨b, 2, none⟩ (.int .i64 r)).heap[b]? = some (oG vv gv r wr) := by
  obtain ⟨h1, h2, h3⟩ := h
  obtain ⟨hg, hL⟩ := h1.kb _ (List.mem_cons_self ..)
  have hL : X0.L b = none := hL
  have hg : W.heap[b]? = some (oG vv gv r0 wr) := hg
  have hT : Turned (fun i => i = b) W (W.setCell ⟨b, 2, none⟩ (.int .i64 r)) := turned_setCell _ _ _ rfl
  have old : ∀ i, i < W.heap.size → i ≠ b → (W.setCell ⟨b, 2, none⟩ (.int .i64 r)).heap[i]? = W.heap[i]? := fun i z1 z2 => hT.block i z1 z2
  have ne : ∀ {B n : Nat} {t k : Nat} {v : Value} {cs : List Value}, W.ownsRow B t k v n cs → t ≠ 28 → v.ownBlock ≠ some b := fun hr ht z => by
    rcases hr.2 with ⟨e, -⟩ | ⟨g, cap, cur, e, -, hh, -⟩
    · rw [e] at z; cases z
    · rw [e] at z
      have : g = b := by injection z
      rw [this, hg] at hh
      injection hh with hh
      injection hh with q1 q2 q3
      exact ht q2.symm
  have nev := ne h1.vs.1 (by decide)
  have neg := ne h1.gs.1 (by decide)
  have neb := ne h2 (by decide)
  refine ⟨⟨⟨h1.st.kept (fun i hi => old i (h1.st.mem.lt i hi) (fun e => hi (by rw [e]; exact hL))) hT.size, h1.ps, h1.f, h1.lo, h1.bel.trans (hT.below h1.bel.size (fun i e => by rw [e]; exact hlo)), ⟨nrow_kept h1.vs.1 (fun i e => old i (h1.vs.1.lt i e).2 (fun z => nev (by rw [← z]; exact e))), h1.vs.2⟩, ⟨grow_kept h1.gs.1 (fun i e => old i (h1.gs.1.lt i e).2 (fun z => neg (by rw [← z]; exact e))), h1.gs.2⟩, fun p hp => ?_, fun q hq => ?_⟩, W16.rrow_kept h2 (fun i e => old i (h2.lt i e).2 (fun z => neb (by rw [← z]; exact e))), fun c e => ?_⟩, (heap_setCell_same _ _ _ _ _ _ hg).trans rfl⟩
  · obtain ⟨k1, k2⟩ := h1.kb p (List.mem_cons_of_mem _ hp)
    refine ⟨(old _ (heap_lt k1) (fun z => ?_)).trans k1, k2⟩
    obtain ⟨F, T, u, ev, e⟩ := hkb p hp
    rw [z, hg, e] at k1
    injection k1 with k1
    injection k1 with q1 q2 q3
    exact absurd q2 (by decide)
  · obtain ⟨k1, k2⟩ := h1.rows q hq
    exact ⟨W16.rrow_kept k1 (fun i e => old i (k1.lt i e).2 (fun z => ne k1 (by decide) (by rw [← z]; exact e))), k2⟩
  · obtain ⟨q0, q1, q2, q3⟩ := h3 c e
    exact ⟨q0, q1, fun p hp => q2 p (List.mem_cons_of_mem _ hp), q3⟩
/-- Behind Built, no room yet: a box beside it. -/
theorem kg_start {m : Nat} {g : Gr} (hG : Game m X0 g vv gv vs gs W) (hps : g.ps = ps) (hL : ∀ b, X0.L b ≠ none → w.heap.size ≤ b) (hB : Below w.heap.size w W) (o : Obj) : KG [(W.heap.size, o)] [] (.slice none 0 0) [] w X0 g.rd ps vv gv vs gs (W.alloc o) := by
  have h0 : KG [] [] (.slice none 0 0) [] w X0 g.rd ps vv gv vs gs W := by
    have e : ({ X0 with rd := g.rd } : Sto) = X0 := by rw [← hG.sh.rd]
    refine ⟨?_, ⟨rfl, .inl ⟨rfl, rfl⟩⟩, fun c e => by cases e⟩
    rw [e]
    refine ⟨hG.st, hG.sh.ps.trans hps, fun k => ?_, hL, hB, ⟨hG.vrow, hG.vfr⟩, ⟨hG.erow, hG.efr⟩, fun p hp => (by cases hp), fun r hr => (by cases hr)⟩
    rw [hG.sh.V, Bool.eq_iff_iff, decide_eq_true_iff]; exact hG.rel.V k
  exact h0.box o
/-- A room that was just made. -/
theorem KG.room {rv' : Value} {rb' : List Nat} (h : KG kb rows rv rb w X0 rd ps vv gv vs gs W) (hb : Below W.heap.size W W') (hr : W16.ByRow W.heap.size W' rv' rb') : KG kb rows rv' rb' w X0 rd ps vv gv vs gs W' := by
  have h5 := h.below hb
  refine ⟨h5.1, W16.rrow_low hr (Nat.zero_le _), fun c e => ?_⟩
  have hc := (hr.lt c e).1
  refine ⟨Nat.le_trans h.1.bel.size hc, h.1.st.mem.new hc, fun p hp z => ?_, fun r hr' z => ?_, fun z => ?_, fun z => ?_⟩
  · have := heap_lt (h.1.kb p hp).1; omega
  · have := ((h.1.rows r hr').1.lt c z).2; omega
  · have := (h.1.vs.1.lt c z).2; omega
  · have := (h.1.gs.1.lt c z).2; omega
/-- The game goes on. -/
theorem KG.game {m n : Nat} {g : Gr} {W1 : World} (hG : Game m X0 g vv gv vs gs W1) (h : KG kb rows rv rb w X0 rd ps vv gv vs gs W) (hm : m ≤ n) (hn : n ≤ 6000) (h0 : 0 ≤ rd) (h1 : rd ≤ (n : Int)) : Game n { X0 with rd := rd } { g with rd := rd } vv gv vs gs W := by
  obtain ⟨b1, b2, b3, b4, b5, b6⟩ := hG.bnd.up hm
  exact ⟨h.1.st, ⟨hG.sh.V, hG.sh.N, hG.sh.ps, rfl, hG.sh.wr, hG.sh.n⟩, ⟨hG.rel.rv, hG.rel.V, hG.rel.N, hG.rel.re, hG.rel.mem, hG.rel.edge⟩, ⟨b1, b2, b3, h0, h1, b6⟩, hn, h.1.vs.1, h.1.gs.1, h.1.vs.2, h.1.gs.2⟩
end
end
end
end Go.Proofs.YtagibmgbjhemkaaGreat
