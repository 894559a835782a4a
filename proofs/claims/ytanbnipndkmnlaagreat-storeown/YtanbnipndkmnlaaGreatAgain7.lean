/- A store behind Built, beside lists of numbers and a list of edges: the calls that change it. -/
import Derived.Test.YtanbnipndkmnlaaGreatKeep7
namespace Go.Proofs.YtanbnipndkmnlaaGreat
open Go.RowKit Go.Maps

structure KXa [Inhabited EntI] (w : World) (X : Sto) (g : Gr) (rows : List (Value × List Int)) (gv : Value) (gs : List EdgeV) (W : World) : Prop where
  st : StAt W X
  sh : Shows X g
  low : ∀ b, X.L b ≠ none → w.heap.size ≤ b
  out : Below w.heap.size w W
  rows : ∀ r ∈ rows, NRow W r.1 r.2 ∧ ∀ b, r.1.ownBlock = some b → X.L b = none
  grow : GRow 0 W gv gs
  gfr : ∀ b, gv.ownBlock = some b → X.L b = none
/-- The store s with vertices V, N of them, and places ps, n calls behind Built. -/
def KA [Inhabited EntI] (w : World) (s : Nat) (V : Int → Bool) (N : Nat) (ps : List (EdgeV × Bool)) (n : Nat) (rows : List (Value × List Int)) (gv : Value) (gs : List EdgeV) (W : World) : Prop :=
  ∃ X g, KXa w X g rows gv gs W ∧ X.s = s ∧ g.V = V ∧ g.N = N ∧ g.ps = ps ∧ g.nb ≤ 200000000 + 65536 * n ∧ 0 ≤ g.wr ∧ g.wr ≤ 2000 + n ∧ 0 ≤ g.rd ∧ g.rd ≤ 1000 + n
section
variable [Inhabited EntI] {w W W' : World} {s n N : Nat} {V : Int → Bool} {ps : List (EdgeV × Bool)} {rows : List (Value × List Int)} {vs : List Int} {es gs : List EdgeV} {gv : Value} {X X' : Sto} {g g' : Gr}

theorem KXa.step (h : KXa w X g rows gv gs W) (hS : Step W X W' X') (hg : Shows X' g') : KXa w X' g' rows gv gs W' := by
  obtain ⟨s1, s2, hF⟩ := hS
  refine ⟨s1, hg, fun b hb => ?_, h.out.trans (hF.1.below h.out.size (fun b hb => h.low b hb)), fun r hr => ?_, ?_, fun b hb => ?_⟩
  · rcases hF.2 b hb with e | e
    · exact h.low b e
    · exact Nat.le_trans h.out.size e
  · obtain ⟨a1, a2⟩ := h.rows r hr
    exact ⟨nrow_kept a1 (fun b hb => (hF.old (a1.lt b hb).2 (a2 b hb)).1), fun b hb => (hF.old (a1.lt b hb).2 (a2 b hb)).2⟩
  · exact grow_kept h.grow (fun b hb => (hF.old (h.grow.lt b hb).2 (h.gfr b hb)).1)
  · exact (hF.old (h.grow.lt b hb).2 (h.gfr b hb)).2
theorem KXa.below (h : KXa w X g rows gv gs W) (hb : Below W.heap.size W W') : KXa w X g rows gv gs W' := h.step (Step.below h.st hb) h.sh
theorem KXa.more (h : KXa w X g rows gv gs W) {v : Value} {ks : List Int} (hb : Below W.heap.size W W') (hr : BRow W.heap.size W' v ks) : KXa w X g ((v, ks) :: rows) gv gs W' := by
  have h1 := h.below hb
  refine ⟨h1.st, h1.sh, h1.low, h1.out, fun r hr' => ?_, h1.grow, h1.gfr⟩
  rcases List.mem_cons.1 hr' with e | e
  · subst e; exact ⟨brow_at0 hr, fun b hb' => h.st.mem.new (hr.lt b hb').1⟩
  · exact h1.rows r e
theorem KA.below (h : KA w s V N ps n rows gv gs W) (hb : Below W.heap.size W W') : KA w s V N ps n rows gv gs W' := by
  obtain ⟨X, g, h1, h2⟩ := h
  exact ⟨X, g, h1.below hb, h2⟩
theorem KA.more (h : KA w s V N ps n rows gv gs W) {v : Value} {ks : List Int} (hb : Below W.heap.size W W') (hr : BRow W.heap.size W' v ks) : KA w s V N ps n ((v, ks) :: rows) gv gs W' := by
  obtain ⟨X, g, h1, h2⟩ := h
  exact ⟨X, g, h1.more hb hr, h2⟩
theorem KA.less (h : KA w s V N ps n rows gv gs W) {rows' : List (Value × List Int)} (hs : ∀ r ∈ rows', r ∈ rows) : KA w s V N ps n rows' gv gs W := by
  obtain ⟨X, g, h1, h2⟩ := h
  exact ⟨X, g, ⟨h1.st, h1.sh, h1.low, h1.out, fun r hr => h1.rows r (hs r hr), h1.grow, h1.gfr⟩, h2⟩
theorem KA.row (h : KA w s V N ps n rows gv gs W) {v : Value} {ks : List Int} (hr : (v, ks) ∈ rows) : NRow W v ks := by
  obtain ⟨X, g, h1, h2⟩ := h
  exact (h1.rows _ hr).1
theorem KA.grow (h : KA w s V N ps n rows gv gs W) : GRow 0 W gv gs := by
  obtain ⟨X, g, h1, h2⟩ := h
  exact h1.grow
theorem KA.out (h : KA w s V N ps n rows gv gs W) : Below w.heap.size w W := by
  obtain ⟨X, g, h1, h2⟩ := h
  exact h1.out
theorem KA.up {m : Nat} (h : KA w s V N ps n rows gv gs W) (hm : n ≤ m) : KA w s V N ps m rows gv gs W := by
  obtain ⟨X, g, h1, h2, h3, h4, h5, h6, h7, h8, h9, h10⟩ := h
  exact ⟨X, g, h1, h2, h3, h4, h5, by omega, h7, by omega, h9, by omega⟩

theorem aVerts (h : KA w s V N ps n rows gv gs W) (hr : Rising ltN vs) (hV : ∀ k, V k = true ↔ k ∈ vs) : Calls Tryz.prog 12 #[.pointer (some ⟨s, 0, none⟩)] W fun e w' => ∃ a m k, e = .returned (.slice a m k) ∧ Hid (m = vs.length ∧ KA w s V N ps n ((.slice a m k, vs) :: rows) gv gs w') := by
  obtain ⟨X, g, h1, h2, h3, hh⟩ := h
  rw [← h2]
  refine (vertsS h1.st).mono ?_
  rintro e w' ⟨v, us, rfl, hq⟩
  obtain ⟨r1, r2, r3, -, r5⟩ := unhide hq
  have hu : us = vs := rising_ext linN r2 hr (fun k => by
    rw [r3, ← hV, ← h3]
    cases e : g.V k with
    | true => simp [h1.sh.some_ e]
    | false => simp [h1.sh.none_ e])
  subst hu
  obtain ⟨a, k, e, -⟩ := brow_shape r1
  subst e
  exact ⟨a, _, k, rfl, rfl, X, g, h1.more r5 r1, rfl, h3, hh⟩
theorem aEdges (h : KA w s V N ps n rows gv gs W) : Calls Tryz.prog 11 #[.pointer (some ⟨s, 0, none⟩)] W fun e w' => ∃ a m k, e = .returned (.slice a m k) ∧ Hid (m = (numsOf (fun _ => true) ps).length ∧ KA w s V N ps n ((.slice a m k, numsOf (fun _ => true) ps) :: rows) gv gs w') := by
  obtain ⟨X, g, h1, h2, h3, h4, h5, hh⟩ := h
  rw [← h2]
  refine (edgesS h1.st).mono ?_
  rintro e w' ⟨v, rfl, hq⟩
  obtain ⟨r1, r5⟩ := unhide hq
  rw [h1.sh.ps, h5] at r1
  obtain ⟨a, k, e, -⟩ := brow_shape r1
  subst e
  exact ⟨a, _, k, rfl, rfl, X, g, h1.more r5 r1, rfl, h3, h4, h5, hh⟩
theorem aOut (h : KA w s V N ps n rows gv gs W) {k : Int} (hk : V k = true) : Calls Tryz.prog 13 #[.pointer (some ⟨s, 0, none⟩), .int .i64 k] W fun e w' => ∃ a m c, e = .returned (.slice a m c) ∧ Hid (m = (outs ps k).length ∧ KA w s V N ps n ((.slice a m c, outs ps k) :: rows) gv gs w') := by
  obtain ⟨X, g, h1, h2, h3, h4, h5, hh⟩ := h
  rw [← h2]
  refine (outS h1.st (h1.sh.some_ (by rw [h3]; exact hk))).mono ?_
  rintro e w' ⟨v, rfl, hq⟩
  obtain ⟨r1, r5⟩ := unhide hq
  rw [h1.sh.ps, h5] at r1
  obtain ⟨a, c, e, -⟩ := brow_shape r1
  subst e
  exact ⟨a, _, c, rfl, rfl, X, g, h1.more r5 r1, rfl, h3, h4, h5, hh⟩
theorem aIn (h : KA w s V N ps n rows gv gs W) {k : Int} (hk : V k = true) : Calls Tryz.prog 14 #[.pointer (some ⟨s, 0, none⟩), .int .i64 k] W fun e w' => ∃ a m c, e = .returned (.slice a m c) ∧ Hid (m = (inns ps k).length ∧ KA w s V N ps n ((.slice a m c, inns ps k) :: rows) gv gs w') := by
  obtain ⟨X, g, h1, h2, h3, h4, h5, hh⟩ := h
  rw [← h2]
  refine (innS h1.st (h1.sh.some_ (by rw [h3]; exact hk))).mono ?_
  rintro e w' ⟨v, rfl, hq⟩
  obtain ⟨r1, r5⟩ := unhide hq
  rw [h1.sh.ps, h5] at r1
  obtain ⟨a, c, e, -⟩ := brow_shape r1
  subst e
  exact ⟨a, _, c, rfl, rfl, X, g, h1.more r5 r1, rfl, h3, h4, h5, hh⟩
theorem aOutNo (h : KA w s V N ps n rows gv gs W) {k : Int} (hok : okN k) (hk : V k = false) : Calls Tryz.prog 13 #[.pointer (some ⟨s, 0, none⟩), .int .i64 k] W fun e w' => e = .returned (.slice none 0 0) ∧ w' = W := by
  obtain ⟨X, g, h1, h2, h3, h4, h5, hh⟩ := h
  rw [← h2]
  exact outNo k h1.st hok (h1.sh.none_ (by rw [h3]; exact hk))
theorem aHas (h : KA w s V N ps n rows gv gs W) (k : Int) (hk : okN k) : Calls Tryz.prog 16 #[.pointer (some ⟨s, 0, none⟩), .int .i64 k] W fun e w' => e = .returned (.bool (V k)) ∧ w' = W := by
  obtain ⟨X, g, h1, h2, h3, hh⟩ := h
  rw [← h2, ← h3, ← h1.sh.V]
  exact hasS k h1.st hk
theorem aFree1 (h : KA w s V N ps n rows gv gs W) (hno : ∀ (i : Nat) a, ps[i]? ≠ some (a, true)) : Calls Tryz.prog 18 #[.pointer (some ⟨s, 0, none⟩)] W fun e w' => e = .returned (.int .i64 1) ∧ Below w.heap.size w w' := by
  obtain ⟨X, g, h1, h2, h3, h4, h5, hh⟩ := h
  rw [← h2]
  refine (freeS h1.st).mono ?_
  rintro e w' ⟨r, rfl, hq⟩
  obtain ⟨r1, q, rfl⟩ := unhide hq
  have := free_of (i := 0) ⟨fun j hj => absurd hj (Nat.not_lt_zero _), fun a ha => hno 0 a (by rw [← h5, ← h1.sh.ps]; exact ha)⟩ (by omega) h1.st.tab.len r1
  rw [this]
  exact ⟨rfl, below_drewN h1.out q⟩
theorem aEdge (h : KA w s V N ps n rows gv gs W) {i : Nat} {x : EdgeV} (hi : ps[i]? = some (x, true)) (hn : n ≤ 1000000) : Calls Tryz.prog 15 #[.pointer (some ⟨s, 0, none⟩), .int .i64 ((i : Int) + 1)] W fun e w' => e = .returned (.tuple #[.agg #[.int .i64 x.1, .int .i64 x.2.1, .int .i64 x.2.2.1, .int .u32 x.2.2.2], .int .i64 0]) ∧ Hid (KA w s V N ps (n + 1) rows gv gs w') := by
  obtain ⟨X, g, h1, h2, h3, h4, h5, h6, h7, h8, h9, h10⟩ := h
  have h2' := h1.sh
  rw [← h2]
  refine (edgeS i h1.st (by rw [h2'.ps, h5]; exact hi) (by rw [h2'.rd]; omega) (by rw [h2'.rd]; omega)).mono ?_
  rintro e w' ⟨rfl, hh⟩
  have hS := unhide hh
  refine ⟨rfl, { X with rd := X.rd + 1 }, { g with rd := g.rd + 1 }, h1.step hS ⟨h2'.V, h2'.N, h2'.ps, by show X.rd + 1 = _; rw [h2'.rd], h2'.wr, h2'.n⟩, rfl, h3, h4, h5, ?_, h7, ?_, ?_, ?_⟩
  · show g.nb ≤ _
    omega
  · show g.wr ≤ _
    omega
  · show 0 ≤ g.rd + 1
    omega
  · show g.rd + 1 ≤ _
    omega
theorem aDropV (h : KA w s V N ps n rows gv gs W) {k : Int} (hk : V k = true) (hn : n ≤ 3000) : Calls Tryz.prog 19 #[.pointer (some ⟨s, 0, none⟩), .int .i64 k] W fun e w' => ∃ a m c, e = .returned (.tuple #[.slice a m c, .int .i64 0]) ∧ Hid (m = (boths ps k).length ∧ KA w s (fun j => !decide (j = k) && V j) (N - 1) (clr ps (boths ps k)) (n + (boths ps k).length) rows (.slice a m c) ((boths ps k).map (recOf ps)) w') := by
  obtain ⟨X, g, h1, h2, h3, h4, h5, h6, h7, h8, h9, h10⟩ := h
  have h2' := h1.sh
  rw [← h2]
  obtain ⟨q, hq⟩ : ∃ q, X.f k = some q := by cases e : X.f k with | none => exact absurd e (h2'.some_ (by rw [h3]; exact hk)) | some q => exact ⟨q, rfl⟩
  refine (dropVS k h1.st hq (by have := h2'.n; omega) (by rw [h2'.wr]; omega) (by rw [h2'.wr]; omega)).mono ?_
  rintro e w' ⟨v', rfl, hh⟩
  obtain ⟨X1, hV, hG, hL⟩ := unhide hh
  rw [h2'.ps, h5] at hG
  obtain ⟨a, c, e⟩ := grow_len hG
  subst e
  have hK := h1.step hV.1 (lose_shows h2' hV)
  refine ⟨a, _, c, rfl, by simp, X1, g.lose k, ⟨hK.st, hK.sh, hK.low, hK.out, hK.rows, grow_at0 hG, hL⟩, hV.1.2.1, ?_, ?_, ?_, ?_, ?_, ?_, h9, ?_⟩
  · show (fun j => !decide (j = k) && g.V j) = _
    rw [h3]
  · show g.N - 1 = _
    rw [h4]
  · show clr g.ps (boths g.ps k) = _
    rw [h5]
  · show g.nb + 65536 * (boths g.ps k).length ≤ _
    rw [h5]; omega
  · show 0 ≤ g.wr + ((boths g.ps k).length : Int)
    omega
  · show g.wr + ((boths g.ps k).length : Int) ≤ _
    rw [h5]; omega
  · show g.rd ≤ _
    omega
theorem aAddV (h : KA w s V N ps n rows gv gs W) {k : Int} (h0 : 0 ≤ k ∧ k ≤ 2147483647) (hk : V k = false) (hN : N < 256) : Calls Tryz.prog 20 #[.pointer (some ⟨s, 0, none⟩), .int .i64 k] W fun e w' => e = .returned (.int .i64 0) ∧ Hid (KA w s (fun j => decide (j = k) || V j) (N + 1) ps n rows gv gs w') := by
  obtain ⟨X, g, h1, h2, h3, h4, h5, hh⟩ := h
  have h2' := h1.sh
  rw [← h2]
  refine (addVS k h1.st h0.1 h0.2 (h2'.none_ (by rw [h3]; exact hk)) (by rw [h2'.N, h4]; exact hN)).mono ?_
  rintro e w' ⟨rfl, hq⟩
  refine ⟨rfl, _, { g with V := fun j => decide (j = k) || g.V j, N := g.N + 1 }, h1.step (unhide hq) (addV_shows h2'), rfl, ?_, ?_, h5, hh⟩
  · show (fun j => decide (j = k) || g.V j) = _
    rw [h3]
  · show g.N + 1 = _
    rw [h4]
theorem aPut (h : KA w s V N ps n rows gv gs W) {i : Nat} {u v b : Int} (hi : i < 1024) (hfree : ∀ a, ps[i]? ≠ some (a, true)) (hu : V u = true) (hv : V v = true) (hb : 0 ≤ b ∧ kept b = some b) (hn : n ≤ 5000) : Calls Tryz.prog 21 #[.pointer (some ⟨s, 0, none⟩), .agg #[.int .i64 ((i : Int) + 1), .int .i64 u, .int .i64 v, .int .u32 b]] W fun r w' => r = .returned (.int .i64 0) ∧ Hid (KA w s V N ((groE ps (i + 1)).set i (((i : Int) + 1, u, v, b), true)) (n + 1) rows gv gs w') := by
  obtain ⟨X, g, h1, h2, h3, h4, h5, h6, h7, h8, h9, h10⟩ := h
  have h2' := h1.sh
  rw [← h2]
  refine (putES i u v b h1.st hi (by rw [h2'.ps, h5]; exact hfree) (h2'.some_ (by rw [h3]; exact hu)) (h2'.some_ (by rw [h3]; exact hv)) hb.1 hb.2 (by have := h2'.n; omega) (by rw [h2'.wr]; omega) (by rw [h2'.wr]; omega)).mono ?_
  rintro e w' ⟨rfl, hh⟩
  obtain ⟨X1, hI⟩ := unhide hh
  refine ⟨rfl, X1, g.ins i u v b, h1.step hI.1 (shows_ins h2' hI), hI.1.2.1, h3, h4, ?_, ?_, ?_, ?_, h9, ?_⟩
  · show (groE g.ps (i + 1)).set i _ = _
    rw [h5]
  · show g.nb + 65536 ≤ _
    omega
  · show 0 ≤ g.wr + 1
    omega
  · show g.wr + 1 ≤ _
    omega
  · show g.rd ≤ _
    omega
theorem aTwice (h : KA w s V N ps n rows gv gs W) {i : Nat} {u v b : Int} {a : EdgeV} (hi : ps[i]? = some (a, true)) (hu : V u = true) (hv : V v = true) (hb : 0 ≤ b ∧ kept b = some b) : Calls Tryz.prog 21 #[.pointer (some ⟨s, 0, none⟩), .agg #[.int .i64 ((i : Int) + 1), .int .i64 u, .int .i64 v, .int .u32 b]] W fun r w' => r = .returned (.int .i64 2) ∧ Hid (KA w s V N ps n rows gv gs w') := by
  obtain ⟨X, g, h1, h2, h3, h4, h5, hh⟩ := h
  have h2' := h1.sh
  rw [← h2]
  refine (putETwice i u v b h1.st (by rw [h2'.ps, h5]; exact hi) (h2'.some_ (by rw [h3]; exact hu)) (h2'.some_ (by rw [h3]; exact hv)) hb.1 hb.2).mono ?_
  rintro e w' ⟨rfl, hq⟩
  exact ⟨rfl, X, g, h1.below hq, rfl, h3, h4, h5, hh⟩
theorem aSame (h : KA w s V N ps n rows gv gs W) {v1 v2 : Value} {ks : List Int} (h1 : (v1, ks) ∈ rows) (h2 : (v2, ks) ∈ rows) (hl : ks.length ≤ 1000000) : Calls Tryz.prog 22 #[v1, v2] W fun e w' => e = .returned (.bool true) ∧ Hid (KA w s V N ps n rows gv gs w') := by
  refine (refSame (h.row h1) (h.row h2) hl).mono ?_
  rintro e w' ⟨rfl, hh⟩
  exact ⟨by rw [decide_eq_true rfl], h.below (like_below (unhide hh))⟩
/-- Behind Built. -/
theorem ka_of {m : Nat} {vv ev : Value} (hG : Game m X g vv ev vs es W) (hL : ∀ b, X.L b ≠ none → w.heap.size ≤ b) (hB : Below w.heap.size w W) : KA w X.s g.V vs.length g.ps 0 [] (.slice none 0 0) [] W ∧ KG g.V g.ps vs es ∧ ∀ x ∈ es, 0 ≤ x.2.2.2 ∧ kept x.2.2.2 = some x.2.2.2 :=
  ⟨⟨X, g, ⟨hG.st, hG.sh, hL, hB, fun r hr => (by cases hr), ⟨rfl, .inl ⟨rfl, rfl⟩⟩, fun b hb => (by cases hb)⟩, rfl, rfl, hG.rel.N.symm, rfl, by have := hG.nb; omega, hG.wrs.1, by have := hG.wrs.2; omega, hG.rds.1, by have := hG.rds.2; omega⟩, (ks_of hG hL hB).2, hG.bnd.wt⟩
end

/-- The places q: what ps holds, but of v's edges those of l alone. -/
def Part (ps : List (EdgeV × Bool)) (v : Int) (l : List EdgeV) (q : List (EdgeV × Bool)) : Prop := q.length = ps.length ∧ ∀ (j : Nat) (y : EdgeV), q[j]? = some (y, true) ↔ ps[j]? = some (y, true) ∧ (hits v y = true → y ∈ l)
theorem mem_both2 {ps : List (EdgeV × Bool)} {v : Int} {j : Nat} {y : EdgeV} (hj : ps[j]? = some (y, true)) : (j : Int) + 1 ∈ boths ps v ↔ hits v y = true := by
  constructor
  · intro h
    obtain ⟨i, x, hi, hp, e⟩ := mem_numsOf.1 h
    have : i = j := by omega
    subst this
    rw [hi] at hj
    cases hj
    exact hp
  · intro h
    exact mem_numsOf.2 ⟨j, y, hj, h, rfl⟩
theorem part_drop (ps : List (EdgeV × Bool)) (v : Int) : Part ps v [] (clr ps (boths ps v)) := by
  refine ⟨clr_length _ _, fun j y => ?_⟩
  rw [at_clr (boths ps v) ps j y boths_ge]
  constructor
  · rintro ⟨h1, h2⟩
    exact ⟨h2, fun h => absurd ((mem_both2 h2).2 h) h1⟩
  · rintro ⟨h1, h2⟩
    exact ⟨fun h => (by have := h2 ((mem_both2 h1).1 h); cases this), h1⟩
theorem Part.nums {ps q : List (EdgeV × Bool)} {v : Int} {l : List EdgeV} (h : Part ps v l q) (hl : ∀ (j : Nat) (y : EdgeV), ps[j]? = some (y, true) → hits v y = true → y ∈ l) (p : EdgeV → Bool) : numsOf p q = numsOf p ps :=
  rising_ext linN (rising_numsOf p q) (rising_numsOf p ps) (fun e => by
    rw [mem_numsOf, mem_numsOf]
    constructor
    · rintro ⟨j, y, hj, hp, he⟩
      exact ⟨j, y, ((h.2 j y).1 hj).1, hp, he⟩
    · rintro ⟨j, y, hj, hp, he⟩
      exact ⟨j, y, (h.2 j y).2 ⟨hj, hl j y hj⟩, hp, he⟩)
theorem Part.put {ps q : List (EdgeV × Bool)} {v : Int} {l : List EdgeV} {i : Nat} {x : EdgeV} (h : Part ps v l q) (hE : ∀ (i : Nat) (x : EdgeV), ps[i]? = some (x, true) → x.1 = (i : Int) + 1) (hi : ps[i]? = some (x, true)) : Part ps v (x :: l) ((groE q (i + 1)).set i (x, true)) := by
  have hil : i < ps.length := (List.getElem?_eq_some_iff.1 hi).1
  have hg : groE q (i + 1) = q := by
    unfold groE
    have := h.1
    simp [show i + 1 - q.length = 0 by omega]
  rw [hg]
  refine ⟨by simpa using h.1, fun j y => ?_⟩
  by_cases hj : i = j
  · subst hj
    rw [List.getElem?_set_self (by have := h.1; omega), hi]
    constructor
    · intro e; cases e; exact ⟨rfl, fun _ => by simp⟩
    · rintro ⟨e, -⟩; cases e; rfl
  · rw [List.getElem?_set_ne hj, h.2]
    constructor
    · rintro ⟨h1, h2⟩
      exact ⟨h1, fun e => List.mem_cons_of_mem _ (h2 e)⟩
    · rintro ⟨h1, h2⟩
      refine ⟨h1, fun e => ?_⟩
      rcases List.mem_cons.1 (h2 e) with e2 | e2
      · subst e2
        have := hE i y hi
        have := hE j y h1
        omega
      · exact e2
theorem KA.cells [Inhabited EntI] {w W : World} {s n N : Nat} {V : Int → Bool} {ps : List (EdgeV × Bool)} {rows : List (Value × List Int)} {gs : List EdgeV} {a : Option Addr} {m c j : Nat} {x : EdgeV} (h : KA w s V N ps n rows (.slice a m c) gs W) (hj : gs[j]? = some x) : ∃ g, a = some ⟨g, 0, none⟩ ∧ m = gs.length ∧ W.cell? ⟨g, j * 4, none⟩ = some (.int .i64 x.1) ∧ W.cell? ⟨g, j * 4 + 1, none⟩ = some (.int .i64 x.2.1) ∧ W.cell? ⟨g, j * 4 + 2, none⟩ = some (.int .i64 x.2.2.1) ∧ W.cell? ⟨g, j * 4 + 3, none⟩ = some (.int .u32 x.2.2.2) := by
  have hl := (List.getElem?_eq_some_iff.1 hj).1
  obtain ⟨g, c', e, hc⟩ := grow_at h.grow (by omega)
  injection e with e1 e2 e3
  exact ⟨g, e1, e2, hc j x hj⟩
theorem pick_of (pk : Int) (m : Nat) (h : 0 < m) (h2 : m ≤ 256) : ∃ l : Nat, wrap64 ((IntKind.u64.wrap pk).tmod (m : Int)) = (l : Int) ∧ l < m := by
  have h0 : 0 ≤ IntKind.u64.wrap pk := by unfold IntKind.wrap; simp [IntKind.signed, IntKind.bits]; omega
  rw [Int.tmod_eq_emod_of_nonneg h0]
  have h3 : 0 ≤ IntKind.u64.wrap pk % (m : Int) := Int.emod_nonneg _ (by omega)
  have h4 : IntKind.u64.wrap pk % (m : Int) < (m : Int) := Int.emod_lt_of_pos _ (by omega)
  refine ⟨(IntKind.u64.wrap pk % (m : Int)).toNat, ?_, by omega⟩
  unfold wrap64; omega
theorem drop_cons {α : Type} {l : List α} {j : Nat} {x : α} (h : l[j]? = some x) : l.drop j = x :: l.drop (j + 1) := by
  obtain ⟨h1, h2⟩ := List.getElem?_eq_some_iff.1 h
  rw [List.drop_eq_getElem_cons h1, h2]
theorem not_later {es : List EdgeV} (h : Recs es) {j : Nat} {x : EdgeV} (hj : es[j]? = some x) : x ∉ es.drop (j + 1) := fun hm => by
  obtain ⟨k, hk⟩ := List.mem_iff_getElem?.1 hm
  rw [List.getElem?_drop] at hk
  obtain ⟨h1, h2⟩ := List.getElem?_eq_some_iff.1 hj
  obtain ⟨h3, h4⟩ := List.getElem?_eq_some_iff.1 hk
  have := List.pairwise_iff_getElem.1 h j (j + 1 + k) h1 h3 (by omega)
  rw [h2, h4] at this
  omega
end Go.Proofs.YtanbnipndkmnlaaGreat
