/- A store behind Built and the reference's graph, beside boxes and lists that stay: the checker's calls. -/
import Derived.Test.YtagibmgbjhemkaaGreatRk17
import Derived.Test.YtagibmgbjhemkaaGreatEn16
import Derived.Test.YtagibmgbjhemkaaGreatWkGame
namespace Go.Proofs.YtagibmgbjhemkaaGreat

section
open Go.RowKit Go.Maps
open W16 (WtV Lies u8v i64v dec decV DecAns decodeR)
theorem hold_zero {hF hT : Bool} {ps : List (EdgeV × Bool)} {F T : Int} {u : Nat} {es : List Int} (h : (holdA hF hT (trip ps F es) F T u).2 = 0) : holdA hF hT (trip ps F es) F T u = (0, 0) := by
  unfold holdA at h ⊢
  by_cases h1 : hF = false ∨ hT = false
  · rw [if_pos h1] at h; cases h
  rw [if_neg h1] at h ⊢
  by_cases h2 : (trip ps F es).2 ≠ none
  · rw [if_pos h2] at h; rcases tCode_ne h2 with e | e <;> (simp only [tCode, e] at h; cases h)
  rw [if_neg h2] at h ⊢
  by_cases h3 : endOf F (trip ps F es).1 ≠ T
  · rw [if_pos h3] at h; cases h
  rw [if_neg h3] at h ⊢
  by_cases h4 : costOf (trip ps F es).1 ≠ u
  · rw [if_pos h4] at h; cases h
  rw [if_neg h4]
theorem chk_hold {V : Int → Bool} {ps : List (EdgeV × Bool)} {bs : List Nat} {x : WtV} (hd : dec bs = some x) : (chkA V ps bs).2 = holdA (V x.1) (V x.2.1) (trip ps x.1 x.2.2.2) x.1 x.2.1 x.2.2.1 := by
  unfold chkA; rw [hd]
  by_cases h : (holdA (V x.1) (V x.2.1) (trip ps x.1 x.2.2.2) x.1 x.2.1 x.2.2.1).2 = 0
  · simp only [if_pos h]; rw [hold_zero h]
  · simp only [if_neg h]
end

namespace W16
open Go.RowKit Go.Maps

end W16

section
open Go.RowKit Go.Maps
open W16 (WtV Lies u8v i64v dec decV DecAns)
structure PF (ps : List (EdgeV × Bool)) (vs : List Int) (gs : List EdgeV) : Prop where
  g8 : GR8 ps gs
  wt : ∀ x ∈ gs, Wt x
  wp : ∀ (i : Nat) (x : EdgeV), ps[i]? = some (x, true) → Wt x
  vl : vs.length ≤ 1000000
structure KXc [Inhabited EntI] (kb : List (Nat × Obj)) (rows : List (Value × List Int)) (w : World) (X : Sto) (ps : List (EdgeV × Bool)) (vv gv : Value) (vs : List Int) (gs : List EdgeV) (W : World) : Prop where
  st : StAt W X
  ps : X.ps = ps
  f : ∀ k, (X.f k).isSome = decide (k ∈ vs)
  lo : ∀ b, X.L b ≠ none → w.heap.size ≤ b
  bel : Below w.heap.size w W
  vs : NRow W vv vs ∧ ∀ b, vv.ownBlock = some b → X.L b = none
  gs : GRow 0 W gv gs ∧ ∀ b, gv.ownBlock = some b → X.L b = none
  kb : ∀ p ∈ kb, W.heap[p.1]? = some p.2 ∧ X.L p.1 = none
  rows : ∀ r ∈ rows, W16.NRow 0 W r.1 r.2 ∧ ∀ b, r.1.ownBlock = some b → X.L b = none
def KC [Inhabited EntI] (kb : List (Nat × Obj)) (rows : List (Value × List Int)) (w : World) (s : Nat) (ps : List (EdgeV × Bool)) (vv gv : Value) (rd wr : Int) (vs : List Int) (gs : List EdgeV) (W : World) : Prop :=
  ∃ X, X.s = s ∧ X.rd = rd ∧ X.wr = wr ∧ KXc kb rows w X ps vv gv vs gs W
section
variable [Inhabited EntI] {kb : List (Nat × Obj)} {rows : List (Value × List Int)} {w W W' : World} {s : Nat} {X : Sto} {ps : List (EdgeV × Bool)} {vv gv : Value} {rd wr : Int} {vs : List Int} {gs : List EdgeV}
theorem KXc.move {r : Int} (h : KXc kb rows w X ps vv gv vs gs W) (hS : Step W X W' { X with rd := r }) : KXc kb rows w { X with rd := r } ps vv gv vs gs W' := by
  have hT : Turned (fun b => X.L b ≠ none) W W' := hS.2.2.1
  have old : ∀ b, b < W.heap.size → X.L b = none → W'.heap[b]? = W.heap[b]? := fun b q1 q2 => hT.block b q1 (fun z => z q2)
  exact ⟨hS.1, h.ps, h.f, h.lo, h.bel.trans (hT.below h.bel.size (fun b hb => h.lo b hb)), ⟨nrow_kept h.vs.1 (fun b e => old b (h.vs.1.lt b e).2 (h.vs.2 b e)), h.vs.2⟩, ⟨grow_kept h.gs.1 (fun b e => old b (h.gs.1.lt b e).2 (h.gs.2 b e)), h.gs.2⟩,
    fun p hp => ⟨(old _ (heap_lt (h.kb p hp).1) (h.kb p hp).2).trans (h.kb p hp).1, (h.kb p hp).2⟩, fun r hr => ⟨W16.rrow_kept (h.rows r hr).1 (fun b e => old b ((h.rows r hr).1.lt b e).2 ((h.rows r hr).2 b e)), (h.rows r hr).2⟩⟩
theorem KXc.below (h : KXc kb rows w X ps vv gv vs gs W) (hb : Below W.heap.size W W') : KXc kb rows w X ps vv gv vs gs W' := h.move (r := X.rd) (Step.below h.st hb)
theorem KC.below (h : KC kb rows w s ps vv gv rd wr vs gs W) (hb : Below W.heap.size W W') : KC kb rows w s ps vv gv rd wr vs gs W' := by
  obtain ⟨X, h1, h2, h3, h4⟩ := h; exact ⟨X, h1, h2, h3, h4.below hb⟩
theorem KC.out (h : KC kb rows w s ps vv gv rd wr vs gs W) : Below w.heap.size w W := by
  obtain ⟨X, h1, h2, h3, h4⟩ := h; exact h4.bel
theorem KC.box (h : KC kb rows w s ps vv gv rd wr vs gs W) (o : Obj) : KC ((W.heap.size, o) :: kb) rows w s ps vv gv rd wr vs gs (W.alloc o) := by
  obtain ⟨X, h1, h2, h3, h4⟩ := h; have h5 := h4.below (below_new W o); exact ⟨X, h1, h2, h3, h5.st, h5.ps, h5.f, h5.lo, h5.bel, h5.vs, h5.gs, fun p hp => by
    rcases List.mem_cons.1 hp with e | e
    · subst e; exact ⟨heap_alloc_new _ _, h4.st.mem.new (Nat.le_refl _)⟩
    · exact h5.kb p e, h5.rows⟩
theorem KC.row (h : KC kb rows w s ps vv gv rd wr vs gs W) {v : Value} {ks : List Int} {B : Nat} (hB : W.heap.size ≤ B) (hb : Below W.heap.size W W') (hr : W16.NRow B W' v ks) : KC kb ((v, ks) :: rows) w s ps vv gv rd wr vs gs W' := by
  obtain ⟨X, h1, h2, h3, h4⟩ := h; have h5 := h4.below hb; exact ⟨X, h1, h2, h3, h5.st, h5.ps, h5.f, h5.lo, h5.bel, h5.vs, h5.gs, h5.kb, fun r hr' => by
    rcases List.mem_cons.1 hr' with e | e
    · subst e; exact ⟨W16.rrow_low hr (Nat.zero_le _), fun b e => h4.st.mem.new (by have := (hr.lt b e).1; omega)⟩
    · exact h5.rows r e⟩
theorem KC.get (h : KC kb rows w s ps vv gv rd wr vs gs W) {b : Nat} {o : Obj} (hb : (b, o) ∈ kb) : W.heap[b]? = some o := by
  obtain ⟨X, h1, h2, h3, h4⟩ := h; exact (h4.kb _ hb).1
theorem KC.getr (h : KC kb rows w s ps vv gv rd wr vs gs W) {v : Value} {ks : List Int} (hb : (v, ks) ∈ rows) : W16.NRow 0 W v ks := by
  obtain ⟨X, h1, h2, h3, h4⟩ := h; exact (h4.rows _ hb).1
theorem KC.graph (h : KC kb rows w s ps vv gv rd wr vs gs W) : NRow W vv vs ∧ GRow 0 W gv gs := by
  obtain ⟨X, h1, h2, h3, h4⟩ := h; exact ⟨h4.vs.1, h4.gs.1⟩
theorem kc_built {m : Nat} {g : Gr} (hG : Game m X g vv gv vs gs W) (hs : X.s = s) (hrd : g.rd = rd) (hwr : g.wr = wr) (hL : ∀ b, X.L b ≠ none → w.heap.size ≤ b) (hB : Below w.heap.size w W) : KC [] [] w s g.ps vv gv rd wr vs gs W ∧ PF g.ps vs gs ∧ 0 ≤ rd ∧ rd ≤ (m : Int) := by
  have hps := hG.sh.ps; refine ⟨⟨X, hs, by rw [hG.sh.rd, hrd], by rw [hG.sh.wr, hwr], hG.st, hps, fun k => ?_, hL, hB, ⟨hG.vrow, hG.vfr⟩, ⟨hG.erow, hG.efr⟩, fun p hp => (by cases hp), fun r hr => (by cases hr)⟩, ⟨⟨hG.elen, hG.rel.re, fun x hx => hG.rel.lk hx, fun e x hk => ?_⟩, fun x hx => ?_, fun i x hx => hG.wt i x (by rw [hps]; exact hx), ?_⟩, ?_, ?_⟩
  · rw [hG.sh.V, Bool.eq_iff_iff, decide_eq_true_iff]; exact hG.rel.V k
  · obtain ⟨i, rfl, hi⟩ := lk_some hk; exact ⟨(hG.rel.mem x).2 ⟨i, hi⟩, (hG.rel.edge i x hi).1⟩
  · obtain ⟨i, hi⟩ := (hG.rel.mem x).1 hx; exact hG.wt i x (by rw [hps]; exact hi)
  · have := hG.rel.N; have := hG.sh.N; have := hG.st.size; omega
  · have := hG.bnd.rd0; omega
  · have := hG.bnd.rd1; omega
end
end

end Go.Proofs.YtagibmgbjhemkaaGreat
