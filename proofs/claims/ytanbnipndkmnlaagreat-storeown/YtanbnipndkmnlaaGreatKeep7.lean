/- A store behind Built, beside lists of numbers: the calls that ask. -/
import Derived.Test.YtanbnipndkmnlaaGreatPlaysW7
namespace Go.Proofs.YtanbnipndkmnlaaGreat
open Go.RowKit Go.Maps

/-- The store s, with vertices V and places ps, of which at most n records have been read; lists beside it. -/
def KS [Inhabited EntI] (w : World) (s : Nat) (V : Int → Bool) (ps : List (EdgeV × Bool)) (n : Nat) (rows : List (Value × List Int)) (W : World) : Prop :=
  ∃ X g, StAt W X ∧ Shows X g ∧ X.s = s ∧ (∀ b, X.L b ≠ none → w.heap.size ≤ b) ∧ Below w.heap.size w W ∧ g.V = V ∧ g.ps = ps ∧ 0 ≤ g.rd ∧ g.rd ≤ n ∧ ∀ r ∈ rows, NRow W r.1 r.2 ∧ ∀ b, r.1.ownBlock = some b → X.L b = none
/-- What is always so of them. -/
structure KG (VV : Int → Bool) (ps : List (EdgeV × Bool)) (vs : List Int) (es : List EdgeV) : Prop where
  rv : Rising ltN vs
  V : ∀ k, VV k = true ↔ k ∈ vs
  re : Recs es
  mem : ∀ x, x ∈ es ↔ ∃ i : Nat, ps[i]? = some (x, true)
  edge : ∀ (i : Nat) (x : EdgeV), ps[i]? = some (x, true) → x.1 = (i : Int) + 1 ∧ VV x.2.1 = true ∧ VV x.2.2.1 = true
  ok : ∀ k, VV k = true → 0 ≤ k ∧ k ≤ 2147483647
  len : ps.length ≤ 1024
  vlen : vs.length ≤ 256
section
variable [Inhabited EntI] {w W W' : World} {s n : Nat} {V : Int → Bool} {ps : List (EdgeV × Bool)} {rows : List (Value × List Int)} {vs : List Int} {es : List EdgeV}

theorem KS.below (h : KS w s V ps n rows W) (hb : Below W.heap.size W W') : KS w s V ps n rows W' := by
  obtain ⟨X, g, h1, h2, h3, h4, h5, h6, h7, h8, h9, h10⟩ := h
  exact ⟨X, g, h1.below hb, h2, h3, h4, h5.trans (hb.mono h5.size), h6, h7, h8, h9, fun r hr => ⟨nrow_below (h10 r hr).1 hb, (h10 r hr).2⟩⟩
theorem KS.more (h : KS w s V ps n rows W) {v : Value} {ks : List Int} (hb : Below W.heap.size W W') (hr : BRow W.heap.size W' v ks) : KS w s V ps n ((v, ks) :: rows) W' := by
  obtain ⟨X, g, h1, h2, h3, h4, h5, h6, h7, h8, h9, h10⟩ := h
  refine ⟨X, g, h1.below hb, h2, h3, h4, h5.trans (hb.mono h5.size), h6, h7, h8, h9, fun r hr' => ?_⟩
  rcases List.mem_cons.1 hr' with e | e
  · subst e; exact ⟨brow_at0 hr, fun b hb' => h1.mem.new (hr.lt b hb').1⟩
  · exact ⟨nrow_below (h10 r e).1 hb, (h10 r e).2⟩
theorem KS.less (h : KS w s V ps n rows W) {rows' : List (Value × List Int)} (hs : ∀ r ∈ rows', r ∈ rows) : KS w s V ps n rows' W := by
  obtain ⟨X, g, h1, h2, h3, h4, h5, h6, h7, h8, h9, h10⟩ := h
  exact ⟨X, g, h1, h2, h3, h4, h5, h6, h7, h8, h9, fun r hr => h10 r (hs r hr)⟩
theorem KS.row (h : KS w s V ps n rows W) {v : Value} {ks : List Int} (hr : (v, ks) ∈ rows) : NRow W v ks := by
  obtain ⟨X, g, h1, h2, h3, h4, h5, h6, h7, h8, h9, h10⟩ := h
  exact (h10 _ hr).1
theorem KS.out (h : KS w s V ps n rows W) : Below w.heap.size w W := by
  obtain ⟨X, g, h1, h2, h3, h4, h5, -⟩ := h
  exact h5
theorem KS.up {m : Nat} (h : KS w s V ps n rows W) (hm : n ≤ m) : KS w s V ps m rows W := by
  obtain ⟨X, g, h1, h2, h3, h4, h5, h6, h7, h8, h9, h10⟩ := h
  exact ⟨X, g, h1, h2, h3, h4, h5, h6, h7, h8, by omega, h10⟩

theorem kVerts (h : KS w s V ps n rows W) (hK : KG V ps vs es) : Calls Tryz.prog 12 #[.pointer (some ⟨s, 0, none⟩)] W fun e w' => ∃ a m k, e = .returned (.slice a m k) ∧ Hid (m = vs.length ∧ KS w s V ps n ((.slice a m k, vs) :: rows) w') := by
  obtain ⟨X, g, h1, h2, h3, h4, h5, h6, h7, h8, h9, h10⟩ := h
  rw [← h3]
  refine (vertsS h1).mono ?_
  rintro e w' ⟨v, us, rfl, hh⟩
  obtain ⟨r1, r2, r3, -, r5⟩ := unhide hh
  have hu : us = vs := rising_ext linN r2 hK.rv (fun k => by
    rw [r3, ← hK.V, ← h6]
    cases e : g.V k with
    | true => simp [h2.some_ e]
    | false => simp [h2.none_ e])
  subst hu
  obtain ⟨a, k, e, -⟩ := brow_shape r1
  subst e
  exact ⟨a, _, k, rfl, rfl, KS.more ⟨X, g, h1, h2, rfl, h4, h5, h6, h7, h8, h9, h10⟩ r5 r1⟩
theorem kEdges (h : KS w s V ps n rows W) : Calls Tryz.prog 11 #[.pointer (some ⟨s, 0, none⟩)] W fun e w' => ∃ a m k, e = .returned (.slice a m k) ∧ Hid (m = (numsOf (fun _ => true) ps).length ∧ KS w s V ps n ((.slice a m k, numsOf (fun _ => true) ps) :: rows) w') := by
  obtain ⟨X, g, h1, h2, h3, h4, h5, h6, h7, h8, h9, h10⟩ := h
  rw [← h3]
  refine (edgesS h1).mono ?_
  rintro e w' ⟨v, rfl, hh⟩
  obtain ⟨r1, r5⟩ := unhide hh
  rw [h2.ps, h7] at r1
  obtain ⟨a, k, e, -⟩ := brow_shape r1
  subst e
  exact ⟨a, _, k, rfl, rfl, KS.more ⟨X, g, h1, h2, rfl, h4, h5, h6, h7, h8, h9, h10⟩ r5 r1⟩
theorem kOut (h : KS w s V ps n rows W) {k : Int} (hk : V k = true) : Calls Tryz.prog 13 #[.pointer (some ⟨s, 0, none⟩), .int .i64 k] W fun e w' => ∃ a m c, e = .returned (.slice a m c) ∧ Hid (m = (outs ps k).length ∧ KS w s V ps n ((.slice a m c, outs ps k) :: rows) w') := by
  obtain ⟨X, g, h1, h2, h3, h4, h5, h6, h7, h8, h9, h10⟩ := h
  rw [← h3]
  refine (outS h1 (h2.some_ (by rw [h6]; exact hk))).mono ?_
  rintro e w' ⟨v, rfl, hh⟩
  obtain ⟨r1, r5⟩ := unhide hh
  rw [h2.ps, h7] at r1
  obtain ⟨a, c, e, -⟩ := brow_shape r1
  subst e
  exact ⟨a, _, c, rfl, rfl, KS.more ⟨X, g, h1, h2, rfl, h4, h5, h6, h7, h8, h9, h10⟩ r5 r1⟩
theorem kIn (h : KS w s V ps n rows W) {k : Int} (hk : V k = true) : Calls Tryz.prog 14 #[.pointer (some ⟨s, 0, none⟩), .int .i64 k] W fun e w' => ∃ a m c, e = .returned (.slice a m c) ∧ Hid (m = (inns ps k).length ∧ KS w s V ps n ((.slice a m c, inns ps k) :: rows) w') := by
  obtain ⟨X, g, h1, h2, h3, h4, h5, h6, h7, h8, h9, h10⟩ := h
  rw [← h3]
  refine (innS h1 (h2.some_ (by rw [h6]; exact hk))).mono ?_
  rintro e w' ⟨v, rfl, hh⟩
  obtain ⟨r1, r5⟩ := unhide hh
  rw [h2.ps, h7] at r1
  obtain ⟨a, c, e, -⟩ := brow_shape r1
  subst e
  exact ⟨a, _, c, rfl, rfl, KS.more ⟨X, g, h1, h2, rfl, h4, h5, h6, h7, h8, h9, h10⟩ r5 r1⟩
theorem kHas (h : KS w s V ps n rows W) (k : Int) (hk : okN k) : Calls Tryz.prog 16 #[.pointer (some ⟨s, 0, none⟩), .int .i64 k] W fun e w' => e = .returned (.bool (V k)) ∧ w' = W := by
  obtain ⟨X, g, h1, h2, h3, h4, h5, h6, h7, h8, h9, h10⟩ := h
  rw [← h3, ← h6, ← h2.V]
  exact hasS k h1 hk
theorem kEdge (h : KS w s V ps n rows W) {i : Nat} {x : EdgeV} (hi : ps[i]? = some (x, true)) (hn : n ≤ 1000000) : Calls Tryz.prog 15 #[.pointer (some ⟨s, 0, none⟩), .int .i64 ((i : Int) + 1)] W fun e w' => e = .returned (.tuple #[.agg #[.int .i64 x.1, .int .i64 x.2.1, .int .i64 x.2.2.1, .int .u32 x.2.2.2], .int .i64 0]) ∧ Hid (KS w s V ps (n + 1) rows w') := by
  obtain ⟨X, g, h1, h2, h3, h4, h5, h6, h7, h8, h9, h10⟩ := h
  rw [← h3]
  refine (edgeS i h1 (by rw [h2.ps, h7]; exact hi) (by rw [h2.rd]; omega) (by rw [h2.rd]; omega)).mono ?_
  rintro e w' ⟨rfl, hh⟩
  obtain ⟨st, hs, hF⟩ := unhide hh
  refine ⟨rfl, { X with rd := X.rd + 1 }, { g with rd := g.rd + 1 }, st, ⟨h2.V, h2.N, h2.ps, by show X.rd + 1 = _; rw [h2.rd], h2.wr, h2.n⟩, rfl, h4, h5.trans (hF.1.below h5.size (fun b hb => h4 b hb)), h6, h7, ?_, ?_, fun r hr => ?_⟩
  · show 0 ≤ g.rd + 1
    omega
  · show g.rd + 1 ≤ ((n + 1 : Nat) : Int)
    omega
  · obtain ⟨a1, a2⟩ := h10 r hr
    exact ⟨nrow_kept a1 (fun b hb => (hF.old (a1.lt b hb).2 (a2 b hb)).1), a2⟩
/-- Behind Built. -/
theorem ks_of {m : Nat} {X : Sto} {g : Gr} {vv ev : Value} (hG : Game m X g vv ev vs es W) (hL : ∀ b, X.L b ≠ none → w.heap.size ≤ b) (hB : Below w.heap.size w W) : KS w X.s g.V g.ps m [] W ∧ KG g.V g.ps vs es :=
  ⟨⟨X, g, hG.st, hG.sh, rfl, hL, hB, rfl, rfl, hG.bnd.rd0, hG.bnd.rd1, fun r hr => by cases hr⟩, hG.rel.rv, hG.rel.V, hG.rel.re, hG.rel.mem, hG.rel.edge, fun k hk => hG.st.mem.keys k (hG.sh.some_ hk), by have := hG.plen; omega, hG.vlen⟩
end

/-- Of how many edges one says that they leave v, summed over all v. -/
def degs (f : Int → List Int) (vs : List Int) : Nat := (vs.map (fun k => (f k).length)).sum
theorem degs_snoc (f : Int → List Int) (vs : List Int) (k : Int) : degs f (vs ++ [k]) = degs f vs + (f k).length := by simp [degs]
theorem count_parts {α : Type} (p : α → Int) : ∀ (es : List α) (vs : List Int), vs.Nodup → (∀ x ∈ es, p x ∈ vs) → (vs.map (fun k => (es.filter (fun x => decide (p x = k))).length)).sum = es.length
  | [], vs, _, _ => by
    have e : ∀ us : List Int, (us.map (fun _ => 0)).sum = 0 := by
      intro us
      induction us with
      | nil => rfl
      | cons a us ih => rw [List.map_cons, List.sum_cons, ih]
    exact e vs
  | x :: es, vs, hn, hx => by
    have ih := count_parts p es vs hn (fun y hy => hx y (List.mem_cons_of_mem _ hy))
    have e : ∀ us : List Int, us.Nodup → (us.map (fun k => ((x :: es).filter (fun x => decide (p x = k))).length)).sum = (us.map (fun k => (es.filter (fun x => decide (p x = k))).length)).sum + (if p x ∈ us then 1 else 0) := by
      intro us
      induction us with
      | nil => intro _; simp
      | cons a us ih2 =>
        intro hn
        obtain ⟨n1, n2⟩ := List.nodup_cons.1 hn
        have := ih2 n2
        simp only [List.map_cons, List.sum_cons]
        rw [this]
        by_cases ha : p x = a
        · have hna : p x ∉ us := by rw [ha]; exact n1
          rw [if_neg hna]
          simp [ha]; omega
        · by_cases hu : p x ∈ us
          · simp [ha, hu]; omega
          · simp [ha, hu]
    rw [e vs hn, ih, if_pos (hx x (by simp))]
    rfl
theorem KG.rel {V : Int → Bool} {ps : List (EdgeV × Bool)} {vs : List Int} {es : List EdgeV} (h : KG V ps vs es) : RelG ⟨V, vs.length, ps, 0, 0, 0⟩ vs es := ⟨h.rv, h.V, rfl, h.re, h.mem, h.edge⟩
theorem KG.outs_all {V : Int → Bool} {ps : List (EdgeV × Bool)} {vs : List Int} {es : List EdgeV} (h : KG V ps vs es) : degs (outs ps) vs = (numsOf (fun _ => true) ps).length ∧ degs (inns ps) vs = (numsOf (fun _ => true) ps).length := by
  have hR := h.rel
  have hl : (numsOf (fun _ => true) ps).length = es.length := by
    have := hR.all
    rw [show numsOf (fun _ => true) ps = eAll es from this.symm]
    simp [eAll]
  have hn : vs.Nodup := h.rv.nodup linN
  have ho : ∀ k, (outs ps k).length = (es.filter (fun x => decide (x.2.1 = k))).length := fun k => by rw [show outs ps k = eOut es k from (hR.out k).symm]; simp [eOut]
  have hi : ∀ k, (inns ps k).length = (es.filter (fun x => decide (x.2.2.1 = k))).length := fun k => by rw [show inns ps k = eIn es k from (hR.inn k).symm]; simp [eIn]
  constructor
  · unfold degs
    rw [hl, ← count_parts (fun x : EdgeV => x.2.1) es vs hn (fun x hx => ?_)]
    · exact congrArg List.sum (List.map_congr_left (fun k _ => ho k))
    · obtain ⟨i, hi⟩ := (h.mem x).1 hx
      exact (h.V _).1 (h.edge i x hi).2.1
  · unfold degs
    rw [hl, ← count_parts (fun x : EdgeV => x.2.2.1) es vs hn (fun x hx => ?_)]
    · exact congrArg List.sum (List.map_congr_left (fun k _ => hi k))
    · obtain ⟨i, hi⟩ := (h.mem x).1 hx
      exact (h.V _).1 (h.edge i x hi).2.2
end Go.Proofs.YtanbnipndkmnlaaGreat
