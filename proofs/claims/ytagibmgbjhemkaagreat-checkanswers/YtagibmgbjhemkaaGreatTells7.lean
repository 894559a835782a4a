/- Tells: the lists and the gauge of the store are the reference's. -/
import Derived.Test.YtagibmgbjhemkaaGreatGame72
import Derived.Test.YtagibmgbjhemkaaGreatStOut
import Derived.Test.YtagibmgbjhemkaaGreatStVs
import Derived.Test.YtagibmgbjhemkaaGreatStEs2
namespace Go.Proofs.YtagibmgbjhemkaaGreat
open Go.RowKit Go.Maps

/-- Behind calls that only make memory: the box of the graph, what lay below, and a list beside it. -/
def TFit (w0 : World) (bb : Nat) (vv ev : Value) (rd wr : Int) (rw : Value) (ks0 : List Int) (W : World) : Prop := W.heap[bb]? = some (oG vv ev rd wr) ∧ Below w0.heap.size w0 W ∧ w0.heap.size ≤ bb ∧ NRow W rw ks0
theorem TFit.step {w0 W W' : World} {bb : Nat} {vv ev : Value} {rd wr : Int} {rw : Value} {ks0 : List Int} (h : TFit w0 bb vv ev rd wr rw ks0 W) (hb : Below W.heap.size W W') : TFit w0 bb vv ev rd wr rw ks0 W' :=
  ⟨(hb.block _ (Array.getElem?_eq_some_iff.1 h.1).1).trans h.1, h.2.1.trans (hb.mono h.2.1.size), h.2.2.1, nrow_below h.2.2.2 hb⟩
theorem TFit.cells {w0 W : World} {bb : Nat} {vv ev : Value} {rd wr : Int} {rw : Value} {ks0 : List Int} (h : TFit w0 bb vv ev rd wr rw ks0 W) : W.cell? ⟨bb, 0, none⟩ = some vv ∧ W.cell? ⟨bb, 1, none⟩ = some ev ∧ W.cell? ⟨bb, 2, none⟩ = some (.int .i64 rd) ∧ W.cell? ⟨bb, 3, none⟩ = some (.int .i64 wr) :=
  ⟨(cellsG h.1).1, (cellsG h.1).2.1, (cellsG h.1).2.2.1, (cellsG h.1).2.2.2.1⟩
theorem like_below {w w' : World} (h : Like w w') : Below w.heap.size w w' := h.below _

/-- Two lists of one content. -/
theorem tSame {w W : World} {bb : Nat} {vv ev rw : Value} {ks0 : List Int} {g : Gr} {v1 v2 : Value} {ks : List Int} (hT : TFit w bb vv ev g.rd g.wr rw ks0 W) (h1 : NRow W v1 ks) (h2 : NRow W v2 ks) (hl : ks.length ≤ 1000000) :
    Calls Tryz.prog 23 #[v1, v2] W fun e w' => e = .returned (.bool true) ∧ TFit w bb vv ev g.rd g.wr rw ks0 w' := by
  refine (refSame h1 h2 hl).mono ?_
  rintro e w' ⟨rfl, hh⟩
  exact ⟨by rw [decide_eq_true rfl], hT.step (like_below (unhide hh))⟩
theorem tSlice {W : World} {B : Nat} {v : Value} {ks : List Int} (h : BRow B W v ks) : ∃ a m k, v = .slice a m k := by
  obtain ⟨a, k, e, -⟩ := brow_shape h
  exact ⟨a, _, k, e⟩
section
variable [Inhabited EntI] {n : Nat} {w : World} {X : Sto} {g : Gr} {vv ev : Value} {vs : List Int} {es : List EdgeV} {bb : Nat} {W : World} {rw : Value} {ks0 : List Int}

theorem tVerts (h : Game n X g vv ev vs es w) (hT : TFit w bb vv ev g.rd g.wr rw ks0 W) :
    Calls Tryz.prog 54 #[.pointer (some ⟨X.s, 0, none⟩)] W fun e w' => ∃ a m k, e = .returned (.slice a m k) ∧ NRow w' (.slice a m k) vs ∧ TFit w bb vv ev g.rd g.wr rw ks0 w' := by
  refine (vertsS (h.st.below hT.2.1)).mono ?_
  rintro e w' ⟨v, us, rfl, hh⟩
  obtain ⟨r1, r2, r3, -, r5⟩ := unhide hh
  have hu : us = vs := rising_ext linN r2 h.rel.rv (fun k => by
    rw [r3, ← h.rel.V]
    cases e : g.V k with
    | true => simp [h.sh.some_ e]
    | false => simp [h.sh.none_ e])
  subst hu
  obtain ⟨a, m, k, e⟩ := tSlice r1
  subst e
  exact ⟨a, m, k, rfl, brow_at0 r1, hT.step r5⟩
theorem tEdges (h : Game n X g vv ev vs es w) (hT : TFit w bb vv ev g.rd g.wr rw ks0 W) :
    Calls Tryz.prog 55 #[.pointer (some ⟨X.s, 0, none⟩)] W fun e w' => ∃ a m k, e = .returned (.slice a m k) ∧ NRow w' (.slice a m k) (eAll es) ∧ TFit w bb vv ev g.rd g.wr rw ks0 w' := by
  refine (edgesS (h.st.below hT.2.1)).mono ?_
  rintro e w' ⟨v, rfl, hh⟩
  obtain ⟨r1, r5⟩ := unhide hh
  rw [h.sh.ps, ← h.rel.all] at r1
  obtain ⟨a, m, k, e⟩ := tSlice r1
  subst e
  exact ⟨a, m, k, rfl, brow_at0 r1, hT.step r5⟩
theorem tREdges (h : Game n X g vv ev vs es w) (hT : TFit w bb vv ev g.rd g.wr rw ks0 W) {v1 : Value} {ks : List Int} (h1 : NRow W v1 ks) :
    Calls Tryz.prog 56 #[.agg #[vv, ev, .int .i64 g.rd, .int .i64 g.wr]] W fun e w' => ∃ a m k, e = .returned (.slice a m k) ∧ NRow w' (.slice a m k) (eAll es) ∧ NRow w' v1 ks ∧ TFit w bb vv ev g.rd g.wr rw ks0 w' := by
  refine (refEdges (grow_below h.erow hT.2.1) (by have := h.elen; omega)).mono ?_
  rintro e w' ⟨v, rfl, hh⟩
  obtain ⟨r1, r5⟩ := unhide hh
  obtain ⟨a, m, k, e⟩ := tSlice r1
  subst e
  exact ⟨a, m, k, rfl, r1, nrow_below h1 r5, hT.step r5⟩
theorem tFree (h : Game n X g vv ev vs es w) : ∃ r : Int, (∀ rw ks0 W, TFit w bb vv ev g.rd g.wr rw ks0 W → Calls Tryz.prog 57 #[.pointer (some ⟨X.s, 0, none⟩)] W fun e w' => e = .returned (.int .i64 r) ∧ TFit w bb vv ev g.rd g.wr rw ks0 w') ∧ ∀ rw ks0 W, TFit w bb vv ev g.rd g.wr rw ks0 W → Calls Tryz.prog 58 #[.agg #[vv, ev, .int .i64 g.rd, .int .i64 g.wr]] W fun e w' => e = .returned (.int .i64 r) ∧ TFit w bb vv ev g.rd g.wr rw ks0 w' := by
  obtain ⟨r, hr⟩ : ∃ r : Int, ∀ r', (FreeIs g.ps 1024 r' → r' = r) ∧ (RFree es r' → r' = r) := by
    by_cases hf : ∀ j : Nat, j < 1024 → HasNo es ((j : Int) + 1)
    · refine ⟨0, fun r' => ⟨fun hF => free_none (fun j hj => (h.rel.noN j).1 (hf j hj)) h.plen hF, fun hF => ?_⟩⟩
      rcases hF with ⟨j, hj, -, -, hn⟩ | ⟨e, -⟩
      · exact absurd (hf j hj) hn
      · exact e
    · obtain ⟨i, hi, hL⟩ := h.least hf
      refine ⟨(i : Int) + 1, fun r' => ⟨fun hF => free_of hL hi h.plen hF, fun hF => ?_⟩⟩
      rcases hF with ⟨j, hj, e, h1, hn⟩ | ⟨-, h1⟩
      · have : Least g.ps j := ⟨fun m hm => (h.rel.noN m).1 (h1 m hm), fun a ha => hn ((h.rel.noN j).2 ⟨a, ha⟩)⟩
        rw [e, this.one hL]
      · obtain ⟨a, ha⟩ := (h.rel.noN i).1 (h1 i hi)
        exact absurd ha (hL.2 a)
  refine ⟨r, fun rw ks0 W hT => ?_, fun rw ks0 W hT => ?_⟩
  · refine (freeS (h.st.below hT.2.1)).mono ?_
    rintro e w' ⟨r', rfl, hh⟩
    obtain ⟨r1, q, rfl⟩ := unhide hh
    rw [h.sh.ps] at r1
    exact ⟨by rw [(hr r').1 r1], hT.step (below_drewN (Below.refl _ _) q)⟩
  · refine (refFree (grow_below h.erow hT.2.1) (by have := h.elen; omega) (tSlice h.vrow)).mono ?_
    rintro e w' ⟨r', rfl, hh⟩
    obtain ⟨r1, r2⟩ := unhide hh
    exact ⟨by rw [(hr r').2 r1], hT.step r2⟩
theorem tHas (h : Game n X g vv ev vs es w) (hT : TFit w bb vv ev g.rd g.wr rw ks0 W) (k : Int) (hk : okN k) :
    Calls Tryz.prog 18 #[.pointer (some ⟨X.s, 0, none⟩), .int .i64 k] W fun e w' => e = .returned (.bool (g.V k)) ∧ TFit w bb vv ev g.rd g.wr rw ks0 w' := by
  refine (hasS k (h.st.below hT.2.1) hk).mono ?_
  rintro e w' ⟨rfl, rfl⟩
  exact ⟨by rw [h.sh.V], hT⟩
theorem tRHas (h : Game n X g vv ev vs es w) (hT : TFit w bb vv ev g.rd g.wr rw ks0 W) (k : Int) :
    Calls Tryz.prog 19 #[.agg #[vv, ev, .int .i64 g.rd, .int .i64 g.wr], .int .i64 k] W fun e w' => e = .returned (.bool (g.V k)) ∧ TFit w bb vv ev g.rd g.wr rw ks0 w' := by
  refine (refHas k (nrow_below h.vrow hT.2.1) (by have := h.vlen; omega)).mono ?_
  rintro e w' ⟨rfl, hb⟩
  exact ⟨by rw [h.rel.has], hT.step hb⟩
theorem tOut (h : Game n X g vv ev vs es w) (hT : TFit w bb vv ev g.rd g.wr rw ks0 W) (k : Int) (hk : okN k) :
    Calls Tryz.prog 59 #[.pointer (some ⟨X.s, 0, none⟩), .int .i64 k] W fun e w' => ∃ a m k', e = .returned (.slice a m k') ∧ NRow w' (.slice a m k') (eOut es k) ∧ TFit w bb vv ev g.rd g.wr rw ks0 w' := by
  rw [h.rel.out]
  cases hv : g.V k with
  | false =>
    refine (outNo k (h.st.below hT.2.1) hk (h.sh.none_ hv)).mono ?_
    rintro e w' ⟨rfl, rfl⟩
    exact ⟨none, 0, 0, rfl, by rw [(h.rel.outs_no hv).1]; exact ⟨rfl, .inl ⟨rfl, rfl⟩⟩, hT⟩
  | true =>
    refine (outS (h.st.below hT.2.1) (h.sh.some_ hv)).mono ?_
    rintro e w' ⟨v, rfl, hh⟩
    obtain ⟨r1, r5⟩ := unhide hh
    rw [h.sh.ps] at r1
    obtain ⟨a, m, k, e⟩ := tSlice r1
    subst e
    exact ⟨a, m, k, rfl, brow_at0 r1, hT.step r5⟩
theorem tIn (h : Game n X g vv ev vs es w) (hT : TFit w bb vv ev g.rd g.wr rw ks0 W) (k : Int) (hk : okN k) :
    Calls Tryz.prog 60 #[.pointer (some ⟨X.s, 0, none⟩), .int .i64 k] W fun e w' => ∃ a m k', e = .returned (.slice a m k') ∧ NRow w' (.slice a m k') (eIn es k) ∧ TFit w bb vv ev g.rd g.wr rw ks0 w' := by
  rw [h.rel.inn]
  cases hv : g.V k with
  | false =>
    refine (innNo k (h.st.below hT.2.1) hk (h.sh.none_ hv)).mono ?_
    rintro e w' ⟨rfl, rfl⟩
    exact ⟨none, 0, 0, rfl, by rw [(h.rel.outs_no hv).2]; exact ⟨rfl, .inl ⟨rfl, rfl⟩⟩, hT⟩
  | true =>
    refine (innS (h.st.below hT.2.1) (h.sh.some_ hv)).mono ?_
    rintro e w' ⟨v, rfl, hh⟩
    obtain ⟨r1, r5⟩ := unhide hh
    rw [h.sh.ps] at r1
    obtain ⟨a, m, k, e⟩ := tSlice r1
    subst e
    exact ⟨a, m, k, rfl, brow_at0 r1, hT.step r5⟩
theorem tROut (h : Game n X g vv ev vs es w) (hT : TFit w bb vv ev g.rd g.wr rw ks0 W) (k : Int) {v1 : Value} {ks : List Int} (h1 : NRow W v1 ks) :
    Calls Tryz.prog 37 #[.agg #[vv, ev, .int .i64 g.rd, .int .i64 g.wr], .int .i64 k] W fun e w' => ∃ a m k', e = .returned (.slice a m k') ∧ NRow w' (.slice a m k') (eOut es k) ∧ NRow w' v1 ks ∧ TFit w bb vv ev g.rd g.wr rw ks0 w' := by
  refine (refOut k (grow_below h.erow hT.2.1) (by have := h.elen; omega)).mono ?_
  rintro e w' ⟨v, rfl, hh⟩
  obtain ⟨r1, r5⟩ := unhide hh
  obtain ⟨a, m, k, e⟩ := tSlice r1
  subst e
  exact ⟨a, m, k, rfl, r1, nrow_below h1 r5, hT.step r5⟩
theorem tRIn (h : Game n X g vv ev vs es w) (hT : TFit w bb vv ev g.rd g.wr rw ks0 W) (k : Int) {v1 : Value} {ks : List Int} (h1 : NRow W v1 ks) :
    Calls Tryz.prog 61 #[.agg #[vv, ev, .int .i64 g.rd, .int .i64 g.wr], .int .i64 k] W fun e w' => ∃ a m k', e = .returned (.slice a m k') ∧ NRow w' (.slice a m k') (eIn es k) ∧ NRow w' v1 ks ∧ TFit w bb vv ev g.rd g.wr rw ks0 w' := by
  refine (refIn k (grow_below h.erow hT.2.1) (by have := h.elen; omega)).mono ?_
  rintro e w' ⟨v, rfl, hh⟩
  obtain ⟨r1, r5⟩ := unhide hh
  obtain ⟨a, m, k, e⟩ := tSlice r1
  subst e
  exact ⟨a, m, k, rfl, r1, nrow_below h1 r5, hT.step r5⟩
end
end Go.Proofs.YtagibmgbjhemkaaGreat
