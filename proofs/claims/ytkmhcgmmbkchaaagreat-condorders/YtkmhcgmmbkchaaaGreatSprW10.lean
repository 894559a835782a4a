/- spread walked. -/
import Derived.Test.YtkmhcgmmbkchaaaGreatRise9
import Derived.Test.YtkmhcgmmbkchaaaGreatPMath
import Derived.Test.YtkmhcgmmbkchaaaGreatRow9
import Derived.Handy
namespace Go.Proofs.YtkmhcgmmbkchaaaGreat

section
/-- A walk of k arcs. -/
def Wk (A : Int → Int → Prop) : Nat → Int → Int → Prop
  | 0, u, v => u = v
  | k + 1, u, v => ∃ x, A u x ∧ Wk A k x v
/-- There is a walk. -/
def RI (A : Int → Int → Prop) (u v : Int) : Prop := ∃ k, Wk A k u v
section
variable {A B : Int → Int → Prop} {u v x y z a b : Int}
theorem Wk.trans : ∀ {k j : Nat} {u v x : Int}, Wk A k u v → Wk A j v x → Wk A (k + j) u x
  | 0, j, u, v, x, h, h2 => by rw [Nat.zero_add]; rw [show u = v from h]; exact h2
  | k + 1, j, u, v, x, ⟨p, h1, h⟩, h2 => by
    rw [show k + 1 + j = (k + j) + 1 by omega]
    exact ⟨p, h1, Wk.trans h h2⟩
theorem RI.refl (A : Int → Int → Prop) (u : Int) : RI A u u := ⟨0, rfl⟩
theorem RI.trans (h : RI A u v) (h2 : RI A v x) : RI A u x := by
  obtain ⟨k, h⟩ := h
  obtain ⟨j, h2⟩ := h2
  exact ⟨k + j, h.trans h2⟩
theorem RI.arc (h : A u v) : RI A u v := ⟨1, v, h, rfl⟩
theorem RI.step (h : RI A u v) (h2 : A v x) : RI A u x := h.trans (RI.arc h2)
theorem RI.closed {C : Int → Prop} (hC : ∀ p q, C p → A p q → C q) (h : RI A u v) (hu : C u) : C v := by
  obtain ⟨k, h⟩ := h
  induction k generalizing u with
  | zero => rw [← show u = v from h]; exact hu
  | succ k ih =>
    obtain ⟨p, h1, h2⟩ := h
    exact ih (hC _ _ hu h1) h2
theorem RI.mono (hm : ∀ p q, A p q → B p q) (h : RI A u v) : RI B u v := h.closed (C := fun q => RI B u q) (fun p q hp hq => hp.step (hm p q hq)) (RI.refl B u)
theorem RI.same (hm : ∀ p q, A p q ↔ B p q) : RI A u v ↔ RI B u v := ⟨RI.mono (fun p q => (hm p q).1), RI.mono (fun p q => (hm p q).2)⟩
theorem RI.about (h : RI A u v) : RI (fun p q => A q p) v u := h.closed (C := fun q => RI (fun p q => A q p) q u) (fun _ _ hp hq => (RI.arc (A := fun p q => A q p) hq).trans hp) (RI.refl _ u)
end
/-- Both ways. -/
def Mut (A : Int → Int → Prop) (u v : Int) : Prop := RI A u v ∧ RI A v u
section
variable {A B : Int → Int → Prop} {u v x y z a b : Int}
theorem Mut.refl (A : Int → Int → Prop) (u : Int) : Mut A u u := ⟨RI.refl A u, RI.refl A u⟩
theorem Mut.symm (h : Mut A u v) : Mut A v u := ⟨h.2, h.1⟩
theorem Mut.trans (h : Mut A u v) (h2 : Mut A v x) : Mut A u x := ⟨h.1.trans h2.1, h2.2.trans h.2⟩
theorem Mut.mono (hm : ∀ p q, A p q → B p q) (h : Mut A u v) : Mut B u v := ⟨h.1.mono hm, h.2.mono hm⟩
/-- One arc more. -/
def Plus (A : Int → Int → Prop) (u v : Int) : Int → Int → Prop := fun p q => A p q ∨ (p = u ∧ q = v)
theorem plus_reach : RI (Plus A u v) a b ↔ RI A a b ∨ (RI A a u ∧ RI A v b) := by
  constructor
  · intro h
    refine h.closed (C := fun q => RI A a q ∨ (RI A a u ∧ RI A v q)) (fun p q hp hq => ?_) (.inl (RI.refl A a))
    rcases hq with hq | ⟨rfl, rfl⟩
    · rcases hp with hp | ⟨h1, h2⟩
      · exact .inl (hp.step hq)
      · exact .inr ⟨h1, h2.step hq⟩
    · rcases hp with hp | ⟨h1, h2⟩
      · exact .inr ⟨hp, RI.refl A _⟩
      · exact .inr ⟨h1, RI.refl A _⟩
  · have hm : ∀ p q, A p q → Plus A u v p q := fun p q h => .inl h
    rintro (h | ⟨h1, h2⟩)
    · exact h.mono hm
    · exact ((h1.mono hm).step (.inr ⟨rfl, rfl⟩)).trans (h2.mono hm)
/-- On a ring with the new arc. -/
def OnR (A : Int → Int → Prop) (u v x : Int) : Prop := RI A v x ∧ RI A x u
theorem plus_mut : Mut (Plus A u v) a b ↔ Mut A a b ∨ (OnR A u v a ∧ OnR A u v b) := by
  unfold Mut OnR
  rw [plus_reach, plus_reach]
  constructor
  · rintro ⟨h1 | ⟨h1, h2⟩, h3 | ⟨h3, h4⟩⟩
    · exact .inl ⟨h1, h3⟩
    · exact .inr ⟨⟨h4, h1.trans h3⟩, h4.trans h1, h3⟩
    · exact .inr ⟨⟨h2.trans h3, h1⟩, h2, h3.trans h1⟩
    · exact .inr ⟨⟨h4, h1⟩, h2, h3⟩
  · rintro (⟨h1, h2⟩ | ⟨⟨h1, h2⟩, h3, h4⟩)
    · exact ⟨.inl h1, .inl h2⟩
    · exact ⟨.inr ⟨h2, h3⟩, .inr ⟨h4, h1⟩⟩
/-- No ring: nothing changes. -/
theorem plus_none (h : ¬ RI A v u) : Mut (Plus A u v) a b ↔ Mut A a b := by
  rw [plus_mut]
  exact ⟨fun q => q.resolve_right (fun ⟨q1, _⟩ => h (q1.1.trans q1.2)), .inl⟩
/-- Both ends in one component: nothing changes. -/
theorem plus_same (h : Mut A u v) : Mut (Plus A u v) a b ↔ Mut A a b := by
  rw [plus_mut]
  refine ⟨fun q => ?_, .inl⟩
  rcases q with q | ⟨⟨h1, h2⟩, h3, h4⟩
  · exact q
  · exact ⟨(h2.trans h.1).trans h3, (h4.trans h.1).trans h1⟩
/-- The ring holds with each vertex its whole component. -/
theorem OnR.mut (h : OnR A u v x) (hm : Mut A x y) : OnR A u v y := ⟨h.1.trans hm.1, hm.2.trans h.2⟩
/-- From v on, with the new arc as without it. -/
theorem plus_from : RI (Plus A u v) v x ↔ RI A v x := by
  rw [plus_reach]
  exact ⟨fun h => h.elim id (fun h => h.2), .inl⟩
theorem plus_to : RI (Plus A u v) x u ↔ RI A x u := by
  rw [plus_reach]
  exact ⟨fun h => h.elim id (fun h => h.1), .inl⟩
/-- What is found backwards from u among what v reaches: the ring. -/
theorem ring_iff (hu : RI A v u) : RI (fun p q => Plus A u v q p ∧ RI (Plus A u v) v q) u x ↔ OnR A u v x := by
  constructor
  · intro h
    refine h.closed (C := fun q => OnR A u v q) (fun p q hp hq => ?_) ⟨hu, RI.refl A u⟩
    refine ⟨plus_from.1 hq.2, ?_⟩
    rcases hq.1 with h1 | ⟨h1, h2⟩
    · exact (RI.arc h1).trans hp.2
    · rw [h1]; exact RI.refl A u
  · rintro ⟨h1, h2⟩
    -- along the walk from x to u all is reached from v
    obtain ⟨k, h2⟩ := h2
    induction k generalizing x with
    | zero => rw [show x = u from h2]; exact RI.refl _ u
    | succ k ih =>
      obtain ⟨p, h3, h4⟩ := h2
      exact (ih (h1.step h3) h4).step ⟨.inl h3, plus_from.2 h1⟩
/-- One arc less, from a to b within a component: the other components stay. -/
theorem less_other (hA : ∀ p q, A p q ↔ Plus B a b p q) (hab : Mut A a b) (hx : ¬ Mut A x a) : Mut B x y ↔ Mut A x y := by
  have hsame : ∀ p q, RI A p q ↔ RI (Plus B a b) p q := fun p q => RI.same hA
  constructor
  · exact Mut.mono (fun p q h => (hA p q).2 (.inl h))
  · rintro ⟨h1, h2⟩
    have g1 := plus_reach.1 ((hsame _ _).1 h1)
    have g2 := plus_reach.1 ((hsame _ _).1 h2)
    have hm : ∀ p q, B p q → A p q := fun p q h => (hA p q).2 (.inl h)
    refine ⟨g1.elim id (fun ⟨q1, q2⟩ => ?_), g2.elim id (fun ⟨q1, q2⟩ => ?_)⟩
    · exact absurd ⟨q1.mono hm, (hab.1.trans (q2.mono hm)).trans h2⟩ hx
    · exact absurd ⟨h1.trans (q1.mono hm), hab.1.trans (q2.mono hm)⟩ hx
/-- The arcs within a set. -/
def Within (B : Int → Int → Prop) (C : Int → Prop) : Int → Int → Prop := fun p q => B p q ∧ C p ∧ C q
/-- Within the component what is left is told by the arcs within it. -/
theorem less_within {C : Int → Prop} (hm : ∀ p q, B p q → A p q) (hC : ∀ p, C p ↔ Mut A p a) (hx : C x) : Mut B x y ↔ C y ∧ Mut (Within B C) x y := by
  have key : ∀ k x, C x → Wk B k x y → RI B y x → RI (Within B C) x y := by
    intro k
    induction k with
    | zero => intro x _ h _; rw [show x = y from h]; exact RI.refl _ y
    | succ k ih =>
      intro x hx h hb
      obtain ⟨p, h1, h2⟩ := h
      have hp : C p := (hC p).2 (Mut.trans ⟨(RI.mono hm ⟨k, h2⟩).trans (hb.mono hm), RI.arc (hm _ _ h1)⟩ ((hC x).1 hx))
      exact (RI.arc (A := Within B C) ⟨h1, hx, hp⟩).trans (ih p hp h2 (hb.step h1))
  constructor
  · rintro ⟨⟨k, h1⟩, h2⟩
    have hy : C y := (hC y).2 (Mut.trans ⟨h2.mono hm, RI.mono hm ⟨k, h1⟩⟩ ((hC x).1 hx))
    refine ⟨hy, key k x hx h1 h2, ?_⟩
    obtain ⟨j, h2⟩ := h2
    have key2 : ∀ k z, C z → Wk B k z x → RI B x z → RI (Within B C) z x := by
      intro k
      induction k with
      | zero => intro z _ h _; rw [show z = x from h]; exact RI.refl _ x
      | succ k ih =>
        intro z hz h hb
        obtain ⟨p, h3, h4⟩ := h
        have hp : C p := (hC p).2 (Mut.trans ⟨RI.mono hm ⟨k, h4⟩, (hb.step h3).mono hm⟩ ((hC x).1 hx))
        exact (RI.arc (A := Within B C) ⟨h3, hz, hp⟩).trans (ih p hp h4 (hb.step h3))
    exact key2 j y hy h2 ⟨k, h1⟩
  · rintro ⟨-, h⟩
    exact h.mono (fun p q hq => hq.1)
end
end

section
open Go.RowKit Go.Maps
def memF (zs : List Int) : Int → Option Unit := fun v => if v ∈ zs then some () else none
theorem memF_in {zs : List Int} {v : Int} (h : v ∈ zs) : memF zs v = some () := if_pos h
theorem memF_out {zs : List Int} {v : Int} (h : v ∉ zs) : memF zs v = none := if_neg h
theorem memF_some (zs : List Int) (v : Int) : (memF zs v).isSome = decide (v ∈ zs) := by
  by_cases h : v ∈ zs
  · rw [memF_in h, decide_eq_true h]; rfl
  · rw [memF_out h, decide_eq_false h]; rfl
/-- The set that is found, the row that waits, the box: all else stands as it stood. -/
structure SPic (w : World) (c p ma ml me : Nat) (D : Int) (s : Nat) (wv : Value) (zs ks : List Int) (W : World) : Prop where
  tur : Turned (fun b => b = c) w W
  box : W.heap[c]? = some (oC p ma ml me D)
  set : SetAt W s (memF zs) zs.length
  row : BRow w.heap.size W wv ks
  new : w.heap.size ≤ s
  ne : wv.ownBlock ≠ some s
section
variable {w W W' : World} {c p ma ml me s : Nat} {D : Int} {wv : Value} {zs ks : List Int}
theorem SPic.below (h : SPic w c p ma ml me D s wv zs ks W) (hb : Below W.heap.size W W') : SPic w c p ma ml me D s wv zs ks W' :=
  ⟨h.tur.trans (turned_of_below hb), (hb.block c (heap_lt h.box)).trans h.box, h.set.kept (hb.block s h.set.lt), brow_kept h.row (fun b e => hb.block b (h.row.lt b e).2), h.new, h.ne⟩
theorem SPic.grown {r : Nat} (h : SPic w c p ma ml me D s wv zs ks W) (hg : W.grownBy W' (some r)) (hr : w.heap.size ≤ r) (h1 : r ≠ s) (h2 : wv.ownBlock ≠ some r) (hc : c < w.heap.size) : SPic w c p ma ml me D s wv zs ks W' := by
  have ht : Turned (fun b => b = r) W W' := turned_grown hg rfl
  refine ⟨h.tur.then_ ht (fun i hi e => by omega), (ht.block c (heap_lt h.box) (fun e => by omega)).trans h.box, h.set.kept (ht.block s h.set.lt (fun e => h1 e.symm)), brow_kept h.row (fun b e => ht.block b (h.row.lt b e).2 (fun q => h2 (by rw [← q]; exact e))), h.new, h.ne⟩
theorem SPic.counted (h : SPic w c p ma ml me D s wv zs ks W) (hc : c < w.heap.size) (x : Int) : SPic w c p ma ml me x s wv zs ks (W.setCell ⟨c, 4, none⟩ (.int .i64 x)) := by
  have hne : ∀ b, b ≠ c → (W.setCell ⟨c, 4, none⟩ (.int .i64 x)).heap[b]? = W.heap[b]? := fun b q => heap_setCell_other _ _ _ _ q
  exact ⟨h.tur.trans (turned_setCell W ⟨c, 4, none⟩ _ rfl), oC_look h.box x, h.set.kept (hne s (by have := h.new; omega)), brow_kept h.row (fun b e => hne b (by have := (h.row.lt b e).1; omega)), h.new, h.ne⟩
theorem SPic.add (h : SPic w c p ma ml me D s wv zs ks W) (hc : c < w.heap.size) {v : Int} (hv : okN v) (hz : v ∉ zs) (hl : zs.length < 1000000) :
    ∃ W', (Instr.mapUpdate 99 (.map (some s)) (.int .i64 v) (.agg #[])).run Tryz.prog W = .ok () W' ∧ SPic w c p ma ml me D s wv (zs ++ [v]) ks W' ∧ W.mapTurned W' s := by
  obtain ⟨W', r, g1, g2⟩ := h.set.put kitU (t := 99) (e := 106) Tryz.underlying99 (by unfold maxLen; omega) hv ()
  rw [memF_out hz] at g1
  have g1' : MapG edU rdU () W' s (putG (memF zs) v (some ())) (zs.length + 1) := g1
  have ht : Turned (fun b => b = s) W W' := turned_mapT g2 rfl
  refine ⟨W', r, ⟨h.tur.then_ ht (fun i hi e => by have := h.new; omega), (heap_mapT g2 (by have := h.new; omega)).trans h.box, ?_, brow_kept h.row (fun b e => heap_mapT g2 (fun q => h.ne (by rw [← q]; exact e))), h.new, h.ne⟩, g2⟩
  rw [List.length_append]
  refine g1'.congr (fun k _ => ?_)
  unfold putG
  by_cases q : k = v
  · rw [if_pos q, memF_in (List.mem_append.2 (.inr (List.mem_singleton.2 q)))]
  · rw [if_neg q]
    by_cases z : k ∈ zs
    · rw [memF_in z, memF_in (List.mem_append.2 (.inl z))]
    · rw [memF_out z, memF_out (fun y => (List.mem_append.1 y).elim z (fun y => q (List.mem_singleton.1 y)))]
theorem SPic.app (h : SPic w c p ma ml me D s wv zs ks W) (hc : c < w.heap.size) (x : Int) (hl : ks.length ≤ 1000000) :
    ∃ a' n' c' W', (∀ ty, (Builtin.append_ #[25, 25] ty #[wv, .slice (some ⟨W.heap.size, 0, none⟩) 1 1]).run Tryz.prog (W.alloc (.cells #[.int .i64 x] 3)) = .ok (.slice a' n' c') W') ∧ SPic w c p ma ml me D s (.slice a' n' c') zs (ks ++ [x]) W' ∧ Turned (fun b => wv.ownBlock = some b) W W' ∧ ∀ b, (Value.slice a' n' c').ownBlock = some b → wv.ownBlock = some b ∨ W.heap.size ≤ b := by
  have hB : w.heap.size ≤ W.heap.size := h.tur.size
  obtain ⟨a', n', c', W', r, g1, g2, g3⟩ := run_app8 x h.row hB (by omega)
  refine ⟨a', n', c', W', r, ⟨h.tur.then_ g2 (fun i hi e => by have := (h.row.lt i e).1; omega), (g2.block c (heap_lt h.box) (fun e => by have := (h.row.lt c e).1; omega)).trans h.box, h.set.kept (g2.block s h.set.lt h.ne), g1, h.new, fun e => ?_⟩, g2, g3⟩
  rcases g3 s e with q | q
  · exact h.ne q
  · have := h.set.lt; omega
theorem SPic.pop {g n c' : Nat} {x : Int} (h : SPic w c p ma ml me D s (.slice (some ⟨g, 0, none⟩) n c') zs (ks ++ [x]) W) : n = ks.length + 1 ∧ W.cell? ⟨g, ks.length, none⟩ = some (.int .i64 x) ∧ SPic w c p ma ml me D s (.slice (some ⟨g, 0, none⟩) ks.length c') zs ks W := by
  obtain ⟨y, cc, e, -⟩ := brow_shape h.row
  have en : n = (ks ++ [x]).length := by injection e
  have r := brow_take h.row (m := ks.length) (by rw [en]; simp)
  rw [List.take_left' rfl] at r
  refine ⟨by rw [en]; simp, brow_at h.row (by rw [List.getElem?_append_right (Nat.le_refl _), Nat.sub_self]; rfl), h.tur, h.box, h.set, r, h.new, h.ne⟩
end
/-- What the search keeps: B: the arcs; O: the open ones; V: all vertices. -/
structure Srch (B : Int → Int → Prop) (O : Int → Bool) (V : List Int) (x0 : Int) (zs ks : List Int) : Prop where
  nod : zs.Nodup
  nodk : ks.Nodup
  sub : ∀ k ∈ ks, k ∈ zs
  first : x0 ∈ zs
  ok : ∀ z ∈ zs, z ∈ V ∧ okN z ∧ RI (fun p q => B p q ∧ O q = true) x0 z
/-- All that is found, but what waits and at, is done with. -/
def Clsd (B : Int → Int → Prop) (O : Int → Bool) (zs ks : List Int) (at_ : Option Int) : Prop := ∀ p ∈ zs, p ∉ ks → at_ ≠ some p → ∀ q, B p q → O q = true → q ∈ zs
section
variable {B : Int → Int → Prop} {O : Int → Bool} {V zs ks : List Int} {x0 x q : Int}
theorem Srch.len (h : Srch B O V x0 zs ks) (_hV : V.Nodup) : zs.length ≤ V.length := by
  have : ∀ {l hs : List Int}, l.Nodup → (∀ x ∈ l, x ∈ hs) → l.length ≤ hs.length := by
    intro l
    induction l with
    | nil => intro hs _ _; exact Nat.zero_le _
    | cons a l ih =>
      intro hs hn hm
      obtain ⟨h1, h2⟩ := List.nodup_cons.1 hn
      have ha := hm a List.mem_cons_self
      have := ih (hs := hs.erase a) h2 (fun x hx => (List.mem_erase_of_ne (fun e => h1 (by rw [← e]; exact hx))).2 (hm x (List.mem_cons_of_mem _ hx)))
      rw [List.length_erase_of_mem ha] at this
      have h3 : 0 < hs.length := List.length_pos_of_mem ha
      simp; omega
  exact this h.nod (fun z hz => (h.ok z hz).1)
theorem Srch.pop (h : Srch B O V x0 zs (ks ++ [x])) : Srch B O V x0 zs ks ∧ x ∈ zs ∧ x ∉ ks := by
  obtain ⟨n1, n2, n3⟩ := List.pairwise_append.1 h.nodk
  exact ⟨⟨h.nod, n1, fun k hk => h.sub k (List.mem_append.2 (.inl hk)), h.first, h.ok⟩, h.sub x (by simp), fun hx => n3 x hx x (by simp) rfl⟩
theorem Clsd.pop (h : Clsd B O zs (ks ++ [x]) none) : Clsd B O zs ks (some x) := fun p hp hk hx q hb ho =>
  h p hp (fun e => (List.mem_append.1 e).elim hk (fun e => hx (by rw [List.mem_singleton.1 e]))) (by simp) q hb ho
theorem Srch.add (h : Srch B O V x0 zs ks) (hx : x ∈ zs) (hb : B x q) (ho : O q = true) (hq : okN q) (hV : q ∈ V) (hz : q ∉ zs) : Srch B O V x0 (zs ++ [q]) (ks ++ [q]) := by
  refine ⟨List.nodup_append.2 ⟨h.nod, by simp, fun a ha b hb' e => hz (by rw [← List.mem_singleton.1 hb', ← e]; exact ha)⟩, List.nodup_append.2 ⟨h.nodk, by simp, fun a ha b hb' e => hz (h.sub q (by rw [← List.mem_singleton.1 hb', ← e]; exact ha))⟩, fun k hk => ?_, List.mem_append.2 (.inl h.first), fun z hz' => ?_⟩
  · rcases List.mem_append.1 hk with e | e
    · exact List.mem_append.2 (.inl (h.sub k e))
    · exact List.mem_append.2 (.inr e)
  · rcases List.mem_append.1 hz' with e | e
    · exact h.ok z e
    · rw [List.mem_singleton.1 e]
      exact ⟨hV, hq, (h.ok x hx).2.2.step ⟨hb, ho⟩⟩
theorem Clsd.add {at_ : Option Int} (h : Clsd B O zs ks at_) : Clsd B O (zs ++ [q]) (ks ++ [q]) at_ := fun p hp hk hx y hb ho => by
  have hk1 : p ∉ ks := fun e => hk (List.mem_append.2 (.inl e))
  have hp1 : p ∈ zs := (List.mem_append.1 hp).resolve_right (fun e => hk (List.mem_append.2 (.inr e)))
  exact List.mem_append.2 (.inl (h p hp1 hk1 hx y hb ho))
theorem Clsd.done (h : Clsd B O zs ks (some x)) (hx : ∀ q, B x q → O q = true → q ∈ zs) : Clsd B O zs ks none := fun p hp hk _ q hb ho => by
  by_cases e : x = p
  · subst e; exact hx q hb ho
  · exact h p hp hk (fun z => e (Option.some.inj z)) q hb ho
/-- Nothing waits: all is found. -/
theorem Srch.all (h : Srch B O V x0 zs []) (hc : Clsd B O zs [] none) : ∀ z, z ∈ zs ↔ RI (fun p q => B p q ∧ O q = true) x0 z := fun z => by
  refine ⟨fun hz => (h.ok z hz).2.2, fun hr => ?_⟩
  exact hr.closed (C := fun q => q ∈ zs) (fun p q hp hq => hc p hp (by simp) (by simp) q hq.1 hq.2) h.first
end
end

section
open Go.RowKit Go.Maps
/-- The arcs that are told by g. -/
def ArcG (g : Int → Int → Option Int) : Int → Int → Prop := fun p q => ∃ e, okN e ∧ g p e = some q
def SprAns (w : World) (c p ma ml me : Nat) (lk : Int) (g : Int → Int → Option Int) (O : Int → Bool) (V : List Int) (x0 : Int) (r : Ending) (w' : World) : Prop :=
  ∃ s zs, r = .returned (.map (some s)) ∧ (∀ z, z ∈ zs ↔ RI (fun p q => ArcG g p q ∧ O q = true) x0 z) ∧ zs.Nodup ∧ (∀ z ∈ zs, z ∈ V ∧ okN z) ∧ SetAt w' s (memF zs) zs.length ∧ w.heap.size ≤ s ∧ w'.heap[c]? = some (oC p ma ml me (lk + (zs.length : Int))) ∧ Turned (fun b => b = c) w w'
/-- In the midst: d are done with. -/
def SMid (w : World) (c p ma ml me : Nat) (lk : Int) (g : Int → Int → Option Int) (O : Int → Bool) (V : List Int) (x0 : Int) (s : Nat) (wv : Value) (wn kk : Nat) (W : World) : Prop :=
  ∃ zs ks d, wn = ks.length ∧ zs.length = ks.length + d ∧ kk = V.length - d ∧ SPic w c p ma ml me (lk + (d : Int)) s wv zs ks W ∧ Srch (ArcG g) O V x0 zs ks ∧ Clsd (ArcG g) O zs ks none
theorem RangeG.same {X : Type} {ed : X → DataW Unit} {R : Value → Option (DataW Unit × List MemPlace)} {x0 : X} {w w' : World} {m r n c : Nat} {f : Int → Option X} {left : Int → Bool} (h : RangeG ed R x0 m r f n left c w) (h1 : w'.heap[m]? = w.heap[m]?) (h2 : w'.heap[r]? = w.heap[r]?) : RangeG ed R x0 m r f n left c w' := by
  obtain ⟨D, lf, ⟨es, clock, since, seen, c0, hb, F, hs, hD, hr, rest⟩, q2⟩ := h
  exact ⟨D, lf, ⟨es, clock, since, seen, c0, h1.trans hb, F, hs, hD, h2.trans hr, rest⟩, q2⟩
theorem row_cap {B : Nat} {w : World} {a : Option Addr} {n c : Nat} {ks : List Int} (h : BRow B w (.slice a n c) ks) : n ≤ c := by
  obtain ⟨y, cc, e, hc⟩ := brow_shape h
  have e1 : c = cc := by injection e
  have e2 : n = ks.length := by injection e
  omega
theorem slice_len {a a' : Option Addr} {n n' c c' : Nat} (h : Value.slice a n c = .slice a' n' c') : n = n' := by injection h
theorem mapTurned_size {w w' : World} {b : Nat} (h : w.mapTurned w' b) : w.heap.size = w'.heap.size := by
  obtain ⟨es, clock, es', clock', hb, rfl⟩ := h
  simp [ChangeMaps.setBlock]
/-- In the midst of the arcs of x. -/
def SIn (w : World) (c p ma ml me : Nat) (lk : Int) (g : Int → Int → Option Int) (O : Int → Bool) (V : List Int) (x0 : Int) (s : Nat) (x : Int) (b r cx d : Nat) (wv : Value) (kk : Nat) (W : World) : Prop :=
  ∃ zs ks left, zs.length = ks.length + d ∧ x ∈ zs ∧ x ∉ ks ∧ SPic w c p ma ml me (lk + (d : Int)) s wv zs ks W ∧ Srch (ArcG g) O V x0 zs ks ∧ Clsd (ArcG g) O zs ks (some x) ∧ RangeG edI rdI 0 b r (g x) cx left kk W ∧ wv.ownBlock ≠ some r ∧ r < W.heap.size ∧ ∀ e q, okN e → left e = false → g x e = some q → O q = true → q ∈ zs
set_option maxHeartbeats 8000000 in
set_option maxRecDepth 100000 in
theorem kspreadS {L : Nat → Nat} {a m n : Nat} {w : World} {f : Int → Option Nat} {g : Int → Int → Option Int} {cn : Int → Nat} {c p ma ml me : Nat} {lk : Int} (h : EndsAt L a w m f n g cn) (hb : w.heap[c]? = some (oC p ma ml me lk)) (hc : L c ≠ a) {x0 : Int} (hx0 : okN x0) {V : List Int} (hV : V.Nodup) (hxV : x0 ∈ V)
    (hVB : ∀ p e q, okN p → okN e → g p e = some q → q ∈ V ∧ okN q) (hVl : V.length ≤ 100000) (hl : 0 ≤ lk) (hl2 : lk ≤ 100000000) {O : Int → Bool} {fk : Nat} (eg : ∀ args w, (callFunc fk args).run Tryz.prog w = .ok (.enter fk args) w)
    (hO : ∀ v W, Turned (fun b => b = c) w W → okN v → Calls Tryz.prog fk #[.int .i64 v] W fun e w' => e = .returned (.bool (O v)) ∧ Below W.heap.size W w') :
    Calls Tryz.prog 57 #[.pointer (some ⟨c, 0, none⟩), .int .i64 x0, .map (some m), .func (.func fk) #[] #[]] w fun r w' => Hid (SprAns w c p ma ml me lk g O V x0 r w') := by
  have hcl := heap_lt hb
  -- the set with x0, the row with x0
  have hb0 : Below w.heap.size w (w.alloc (.map #[] 0)) := (Below.refl _ _).alloc (Nat.le_refl _) _
  have hmk : SetAt (w.alloc (.map #[] 0)) w.heap.size (memF []) 0 := (mapG_made w).congr (fun _ _ => rfl)
  have hs0 : SPic w c p ma ml me lk w.heap.size (.slice none 0 0) [] [] (w.alloc (.map #[] 0)) := ⟨turned_of_below hb0, (hb0.block c hcl).trans hb, hmk, ⟨rfl, .inl ⟨rfl, rfl⟩⟩, Nat.le_refl _, fun e => by cases e⟩
  obtain ⟨w1, r1, hs1, t1⟩ := hs0.add hcl hx0 (by simp) (by simp)
  have hb1 := below_new w1 (.cells #[.int .i64 x0] 3)
  have hs2 := hs1.below hb1
  have hrow : BRow w.heap.size (w1.alloc (.cells #[.int .i64 x0] 3)) (.slice (some ⟨w1.heap.size, 0, none⟩) 1 1) [x0] := ⟨rfl, .inr ⟨w1.heap.size, 1, #[.int .i64 x0], rfl, hs1.tur.size, heap_alloc_new _ _, Nat.le_refl _, by unfold maxLen; omega, rfl, rfl⟩⟩
  have hs3 : SPic w c p ma ml me (lk + ((0 : Nat) : Int)) w.heap.size (.slice (some ⟨w1.heap.size, 0, none⟩) 1 1) [x0] [x0] (w1.alloc (.cells #[.int .i64 x0] 3)) := by
    have e : lk + ((0 : Nat) : Int) = lk := by omega
    rw [e]
    refine ⟨hs2.tur, hs2.box, hs2.set, hrow, hs2.new, fun e => ?_⟩
    have := own_eq e
    have := hs1.set.lt
    omega
  have hS0 : Srch (ArcG g) O V x0 [x0] [x0] := ⟨by simp, by simp, fun _ h => h, by simp, fun z hz => by rw [List.mem_singleton.1 hz]; exact ⟨hxV, hx0, RI.refl _ _⟩⟩
  have hC0 : Clsd (ArcG g) O [x0] [x0] none := fun p hp hk => absurd hp hk
  have HM0 : Hid (SMid w c p ma ml me lk g O V x0 w.heap.size (.slice (some ⟨w1.heap.size, 0, none⟩) 1 1) 1 V.length (w1.alloc (.cells #[.int .i64 x0] 3))) := ⟨[x0], [x0], 0, rfl, rfl, by omega, hs3, hS0, hC0⟩
  have HX : Hid (EndsAt L a w m f n g cn ∧ L c ≠ a ∧ V.Nodup ∧ (∀ p e q, okN p → okN e → g p e = some q → q ∈ V ∧ okN q) ∧ V.length ≤ 100000 ∧ 0 ≤ lk ∧ lk ≤ 100000000 ∧ c < w.heap.size) := ⟨h, hc, hV, hVB, hVl, hl, hl2, hcl⟩
  have HO := hide hO
  have hmm := @run_makeMap Tryz.prog
  clear h hb hc hx0 hV hxV hVB hVl hl hl2 hO hcl hb0 hmk hs0 hs1 t1 hb1 hs2 hrow hs3 hS0 hC0
  go_enter Tryz.func57, Tryz.ntmps57
  go_upto_region 3 with fail
  clear r1 hmm
  generalize w1.alloc (.cells #[.int .i64 x0] 3) = w2 at *
  generalize w1.heap.size = g0 at *
  generalize hs : w.heap.size = s at *
  have HSS := hide hs
  clear hs w1
  generalize hVn : V.length = Vn at *
  have HVN := hide hVn
  clear hVn
  go_loopg [10, 11, 12, 14] Vn (fun kk s10 s11 s12 s14 W => ∃ (wa : Option Addr) (wn wc : Nat), s10 = .slice wa wn wc ∧ Hid (SMid w c p ma ml me lk g O V x0 s (.slice wa wn wc) wn kk W))
  case atStart => exact ⟨some ⟨g0, 0, none⟩, 1, 1, rfl, unhide HM0⟩
  case round =>
    obtain ⟨wa, wn, wc, rfl, hR⟩ := hrel
    clear HM0
    obtain ⟨zs, ks, d, hwn, hzd, hkk, hP, hS, hC⟩ := unhide hR
    obtain ⟨x1, x2, x3, x4, x5, x6, x7, x8⟩ := unhide HX
    rcases List.eq_nil_or_concat ks with rfl | ⟨ks', x, rfl⟩
    · have hwz : wn = 0 := hwn
      subst hwz
      have HE : Hid (SprAns w c p ma ml me lk g O V x0 (.returned (.map (some s))) wr) := ⟨s, zs, rfl, hS.all hC, hS.nod, fun z hz => ⟨(hS.ok z hz).1, (hS.ok z hz).2.1⟩, hP.set, hP.new, by have := hP.box; rw [show d = zs.length by simp at hzd; omega] at this; exact this, hP.tur⟩
      clear hR hkk hP hS hC x1 x2 x3 x4 x5 x6 x7 x8 hzd hwn
      go_wp2_with fail
      go_ret
      exact unhide HE
    · rw [List.concat_eq_append] at hwn hzd hP hS hC
      obtain ⟨k, hk⟩ : ∃ k, k = ks'.length := ⟨_, rfl⟩
      have hwn1 : wn = k + 1 := by rw [hwn, hk]; simp
      have hzd1 : zs.length = k + 1 + d := by rw [hzd, hk]; simp
      obtain ⟨gw, hgw⟩ := brow_some hP.row (by simp)
      subst hgw
      have hcap2 : wn ≤ wc := row_cap hP.row
      obtain ⟨-, q1, hP1⟩ := hP.pop
      obtain ⟨hS1, hxz, hxk⟩ := hS.pop
      have hC1 := hC.pop
      have hxo := (hS.ok x hxz).2.1
      have hzl := hS.len x3
      rw [← hk] at q1 hP1
      have hE1 : EndsAt L a wr m f n g cn := x1.kept (fun b hbl hla => hP1.tur.block b hbl (fun e => x2 (by rw [← e]; exact hla)))
      obtain ⟨D1, hD1⟩ : ∃ D1, D1 = lk + (d : Int) := ⟨_, rfl⟩
      rw [← hD1] at hP1
      have CL := hide (klookS hE1 hP1.box x2 hxo (by omega) (by have := unhide HVN; omega))
      obtain ⟨d1, hd1⟩ : ∃ d1, d1 = d + 1 := ⟨_, rfl⟩
      have hD2 : D1 + 1 = lk + (d1 : Int) := by omega
      rw [hD2] at CL
      have hxc : c < w.heap.size := by rw [unhide HSS]; exact x8
      have hP2 := hP1.counted hxc (lk + (d1 : Int))
      obtain ⟨w3, hw3⟩ : ∃ w3, w3 = wr.setCell ⟨c, 4, none⟩ (.int .i64 (lk + (d1 : Int))) := ⟨_, rfl⟩
      rw [← hw3] at CL hP2
      have hE3 : EndsAt L a w3 m f n g cn := x1.kept (fun b hbl hla => hP2.tur.block b hbl (fun e => x2 (by rw [← e]; exact hla)))
      have HG : Hid (gk = V.length - d ∧ d1 = d + 1 ∧ zs.length = k + d1 ∧ zs.length ≤ V.length) := ⟨hkk, hd1, by omega, hzl⟩
      have HP2 : Hid (SPic w c p ma ml me (lk + (d1 : Int)) s (.slice (some ⟨gw, 0, none⟩) k wc) zs ks' w3 ∧ Srch (ArcG g) O V x0 zs ks' ∧ Clsd (ArcG g) O zs ks' (some x) ∧ x ∈ zs ∧ x ∉ ks' ∧ okN x ∧ k = ks'.length) := ⟨hP2, hS1, hC1, hxz, hxk, hxo, hk⟩
      have HE3 := hide hE3
      have z1 : (0 : Int) < (wn : Int) := by omega
      have z2 : wrap64 ((wn : Int) - 1) = (k : Int) := by have := unhide HVN; unfold wrap64; omega
      have z3 : (k : Int) < (wn : Int) := by omega
      have z4 : (k : Int) ≤ (wc : Int) := by omega
      have z5 : ¬ wc = 0 := by omega
      clear hR hkk hP hS hC x1 x2 x3 x4 x5 x6 x7 x8 hzd hwn hwn1 hzd1 hP1 hS1 hxz hxk hC1 hxo hzl hcap2 hE1 hD1 hd1 hD2 hxc hP2 hw3 hE3 hk
      go_wp2_with fail
      refine (unhide CL).mono ?_
      rintro e w4 ⟨rfl, rfl⟩
      clear CL z2
      cases hf : f x with
      | none =>
        have hrg := run_range_nilMap (P := Tryz.prog) w4 88 3 3 Tryz.underlying88
        have hnx : ∀ ty, (Instr.next (.pointer (some ⟨w4.heap.size, 0, none⟩)) false ty).run Tryz.prog (w4.alloc (.mapIter none 0 #[] 0)) = .ok (.tuple #[.bool false]) (w4.alloc (.mapIter none 0 #[] 0)) := fun ty => run_next_nilMap w4 ty 0 0 #[]
        have HD : Hid (SMid w c p ma ml me lk g O V x0 s (.slice (some ⟨gw, 0, none⟩) k wc) k (V.length - d1) (w4.alloc (.mapIter none 0 #[] 0))) := by
          obtain ⟨q1, q2, q3, q4, q5, q6, q7⟩ := unhide HP2
          obtain ⟨y1, y2, y3, y4⟩ := unhide HG
          refine ⟨zs, ks', d1, q7, by omega, rfl, q1.below (below_new _ _), q2, q3.done (fun q hq _ => ?_)⟩
          obtain ⟨e, he, hge⟩ := hq
          rw [(unhide HE3).non x q6 hf e he] at hge
          cases hge
        have HMS : Hid (V.length - d1 < gk) := by obtain ⟨y1, y2, y3, y4⟩ := unhide HG; show V.length - d1 < gk; omega
        clear hf HP2 HG HE3
        go_wp2_with fail
        refine wp_loop_rounds 1 ?_
        rw [rounds_succ]
        go_wp2_with fail
        go_roundg (V.length - d1)
        case measure => exact unhide HMS
        case rel => exact ⟨_, _, _, rfl, HD⟩
      | some b =>
        obtain ⟨q1, q2, q3, q4, q5, q6, q7⟩ := unhide HP2
        have hin := (unhide HE3).inn x b q6 hf
        obtain ⟨w5, hrg, hR5, hgr, hsz⟩ := hin.range (t := 88) (e := 3) Tryz.underlying88
        have hb5 : Below w4.heap.size w4 w5 := ⟨hgr.os, hgr.tape, hgr.output, hgr.size, fun k hk => hgr.block k hk (by simp)⟩
        obtain ⟨r, hr⟩ : ∃ r, r = w4.heap.size := ⟨_, rfl⟩
        rw [← hr] at hrg hR5
        have hbl : b < s ∧ b ≠ c := by
          have h5 := (unhide HX).1.inn x b q6 hf
          refine ⟨by have := h5.lt; have := unhide HSS; omega, fun e => (unhide HX).2.1 (by rw [← e]; exact (unhide HX).1.lb x b q6 hf)⟩
        have HI0 : Hid (SIn w c p ma ml me lk g O V x0 s x b r (cn x) d1 (.slice (some ⟨gw, 0, none⟩) k wc) (cn x) w5) := by
          refine ⟨zs, ks', _, by have := unhide HG; omega, q4, q5, q1.below hb5, q2, q3, hR5, fun e => ?_, by omega, fun e q he hl hg => ?_⟩
          · have := (q1.row.lt r e).2; omega
          · rw [hg] at hl; cases hl
        have HRS : Hid (s ≤ r ∧ okN x ∧ b < s ∧ b ≠ c ∧ w.heap.size = s ∧ c < s ∧ s < r) := ⟨by have := q1.tur.size; have := unhide HSS; omega, q6, hbl.1, hbl.2, unhide HSS, (unhide HX).2.2.2.2.2.2.2, by have := q1.set.lt; omega⟩
        have HMS : Hid (V.length - d1 < gk) := by obtain ⟨y1, y2, y3, y4⟩ := unhide HG; show V.length - d1 < gk; omega
        have HHR := hide hr
        clear hf HP2 HG HE3 q1 q2 q3 q4 q5 q6 q7 hin hR5 hgr hsz hb5 hbl
        rw [hr] at hrg
        clear hr
        generalize cn x = cx at *
        go_wp2_with fail
        rw [← unhide HHR]
        clear hrg HHR
        go_loopg [10, 14] cx (fun kk s10 s14 W => ∃ (wa : Option Addr) (wn wc : Nat), s10 = .slice wa wn wc ∧ Hid (SIn w c p ma ml me lk g O V x0 s x b r cx d1 (.slice wa wn wc) kk W))
        case atStart => exact ⟨_, _, _, rfl, unhide HI0⟩
        case round =>
          obtain ⟨wa, wn2, wc2, rfl, hR⟩ := hrel
          clear HI0
          obtain ⟨zs1, ks1, left, hzd, hxz, hxk, hP, hS, hC, hRg, hwr, hrl, hlf⟩ := unhide hR
          obtain ⟨y1, y2, y3, y4, y5, y6, y7⟩ := unhide HRS
          rcases hRg.next kitI 0 with ⟨hc0, hall, hrun⟩ | ⟨e, q, w6, c6, hoe, hle, hge, hrun, hen, hRg6, hlt, hgr, hsz⟩
          · have HD : Hid (SMid w c p ma ml me lk g O V x0 s (.slice wa wn2 wc2) wn2 (V.length - d1) wr) := by
              refine ⟨zs1, ks1, d1, ?_, hzd, rfl, hP, hS, hC.done (fun q hq ho => ?_)⟩
              · obtain ⟨yy, cc, ee, -⟩ := brow_shape hP.row
                exact slice_len ee
              · obtain ⟨e, he, hge⟩ := hq
                exact hlf e q he (hall e he) hge ho
            clear hR hzd hxz hxk hP hS hC hRg hwr hrl hlf y1 y2 y3 y4 y5 y6 y7 hall hc0
            go_wp2_with fail
            go_roundg (V.length - d1)
            case measure => exact unhide HMS
            case rel => exact ⟨_, _, _, rfl, HD⟩
          · replace hrun : (Instr.next (.pointer (some ⟨r, 0, none⟩)) false 0).run Tryz.prog wr = .ok (.tuple #[.bool true, .int .i64 e, .int .i64 q]) w6 := hrun
            replace hen : (Instr.entry (.pointer (some ⟨r, 0, none⟩))).run Tryz.prog w6 = .ok (.tuple #[.int .i64 e, .int .i64 q]) w6 := hen
            obtain ⟨hqV, hqo⟩ := (unhide HX).2.2.2.1 x e q y2 hoe hge
            have hP6 : SPic w c p ma ml me (lk + (d1 : Int)) s (.slice wa wn2 wc2) zs1 ks1 w6 := hP.grown hgr (by omega) (by omega) hwr (by omega)
            have CH := hide (kshasS hP6.set hqo)
            rw [memF_some] at CH
            have HIn : Hid (∀ W, SPic w c p ma ml me (lk + (d1 : Int)) s (.slice wa wn2 wc2) zs1 ks1 W → Below w6.heap.size w6 W → (q ∈ zs1 ∨ O q = false) → SIn w c p ma ml me lk g O V x0 s x b r cx d1 (.slice wa wn2 wc2) c6 W) := fun W hW hbW hq => by
              refine ⟨zs1, ks1, _, hzd, hxz, hxk, hW, hS, hC, hRg6.same (hbW.block b (by have := hP6.tur.size; omega)) (hbW.block r (by omega)), hwr, by have := hbW.size; omega, fun e' q' he' hl' hg' ho' => ?_⟩
              by_cases z : e' = e
              · subst z
                obtain rfl : q' = q := Option.some.inj (hg'.symm.trans hge)
                rcases hq with hq | hq
                · exact hq
                · rw [hq] at ho'; cases ho'
              · refine hlf e' q' he' ?_ hg' ho'
                have : (left e' && decide (e' ≠ e)) = false := hl'
                rw [decide_eq_true z, Bool.and_true] at this
                exact this
            have HAdd : Hid (∀ W W' a' n' c', SPic w c p ma ml me (lk + (d1 : Int)) s (.slice a' n' c') (zs1 ++ [q]) (ks1 ++ [q]) W' → Below w6.heap.size w6 W → q ∉ zs1 → O q = true → W'.heap[b]? = W.heap[b]? → W'.heap[r]? = W.heap[r]? → W.heap.size ≤ W'.heap.size → (Value.slice a' n' c').ownBlock ≠ some r → SIn w c p ma ml me lk g O V x0 s x b r cx d1 (.slice a' n' c') c6 W') := fun W W' a' n' c' hW hbW hq ho h1 h2 h3 h4 => by
              have hqx : q ≠ x := fun z => hq (by rw [z]; exact hxz)
              refine ⟨zs1 ++ [q], ks1 ++ [q], _, by simp; omega, List.mem_append.2 (.inl hxz), fun z => (List.mem_append.1 z).elim hxk (fun z => hqx (List.mem_singleton.1 z).symm), hW, hS.add hxz ⟨e, hoe, hge⟩ ho hqo hqV hq, hC.add, hRg6.same (h1.trans (hbW.block b (by have := hP6.tur.size; omega))) (h2.trans (hbW.block r (by omega))), h4, by have := hbW.size; omega, fun e' q' he' hl' hg' ho' => ?_⟩
              by_cases z : e' = e
              · subst z
                obtain rfl : q' = q := Option.some.inj (hg'.symm.trans hge)
                exact List.mem_append.2 (.inr (by simp))
              · refine List.mem_append.2 (.inl (hlf e' q' he' ?_ hg' ho'))
                have : (left e' && decide (e' ≠ e)) = false := hl'
                rw [decide_eq_true z, Bool.and_true] at this
                exact this
            have HP6 : Hid (SPic w c p ma ml me (lk + (d1 : Int)) s (.slice wa wn2 wc2) zs1 ks1 w6 ∧ okN q ∧ zs1.length ≤ V.length ∧ (Value.slice wa wn2 wc2).ownBlock ≠ some r ∧ ks1.length ≤ zs1.length ∧ r < w6.heap.size) := ⟨hP6, hqo, hS.len (unhide HX).2.2.1, hwr, by omega, by omega⟩
            have HC6 := hide hlt
            clear hR hzd hxz hxk hP hS hC hRg hwr hrl hlf y1 y2 y3 y4 y5 y6 y7 hoe hle hge hRg6 hlt hgr hsz hqV hqo hP6
            by_cases hqz : q ∈ zs1
            · rw [decide_eq_true hqz] at CH
              go_wp2_with fail
              refine (unhide CH).mono ?_
              rintro e7 w7 ⟨rfl, hb7⟩
              have HD := hide (unhide HIn w7 ((unhide HP6).1.below hb7) hb7 (.inl hqz))
              clear CH HIn HAdd HP6 hb7 hqz
              go_wp2_with fail
              go_roundg c6
              case measure => exact unhide HC6
              case rel => exact ⟨_, _, _, rfl, HD⟩
            · rw [decide_eq_false hqz] at CH
              go_wp2_with fail
              refine (unhide CH).mono ?_
              rintro e7 w7 ⟨rfl, hb7⟩
              have CO := hide (unhide HO q w7 ((unhide HP6).1.below hb7).tur (unhide HP6).2.1)
              have HB7 := hide hb7
              have HQZ := hide hqz
              clear CH hb7 hqz
              go_wp2_with fail
              refine (unhide CO).mono ?_
              rintro e8 w8 ⟨rfl, hb8⟩
              have hb68 := (unhide HB7).trans (hb8.mono (unhide HB7).size)
              have hP8 := (unhide HP6).1.below hb68
              clear CO
              cases hoq : O q with
              | false =>
                have HD := hide (unhide HIn w8 hP8 hb68 (.inr hoq))
                clear HIn HAdd HP6 hb8 hb68 hP8 HB7 HQZ
                go_wp2_with fail
                go_roundg c6
                case measure => exact unhide HC6
                case rel => exact ⟨_, _, _, rfl, HD⟩
              | true =>
                obtain ⟨t1, t2, t3, t4, t5, t6⟩ := unhide HP6
                have y := unhide HRS
                have hcw : c < w.heap.size := by omega
                have hvl := (unhide HX).2.2.2.2.1
                have hvn := unhide HVN
                obtain ⟨w9, r9, hP9, t9⟩ := hP8.add hcw t2 (unhide HQZ) (by omega)
                obtain ⟨a', n', c', w10, r10, hP10, t10, g10⟩ := hP9.app hcw q (by omega)
                have HR10 := hide r10
                have hs8 := hb68.size
                have hw9 : w8.heap.size = w9.heap.size := mapTurned_size t9
                have hne : (Value.slice a' n' c').ownBlock ≠ some r := fun z => by
                  rcases g10 r z with q1 | q1
                  · exact t4 q1
                  · omega
                have hbk : ∀ k, k < w8.heap.size → k ≠ s → (Value.slice wa wn2 wc2).ownBlock ≠ some k → w10.heap[k]? = w8.heap[k]? := fun k h1 h2 h3 => (t10.block k (by omega) h3).trans (heap_mapT t9 h2)
                have hbw : (Value.slice wa wn2 wc2).ownBlock ≠ some b := fun z => by have := (hP8.row.lt b z).1; omega
                have HD := hide (unhide HAdd w8 w10 a' n' c' hP10 hb68 (unhide HQZ) hoq (hbk b (by omega) (by omega) hbw) (hbk r (by omega) (by omega) t4) (by have := t10.size; omega) hne)
                clear HIn HAdd HP6 hb8 hb68 hP8 HB7 HQZ t1 t2 t3 t4 t5 t6 y hcw hvl hvn hP9 t9 r10 hP10 t10 g10 hs8 hw9 hne hbk hbw
                go_wp2_with (at_builtin; refine Lib.wpList_append_run _ rfl _ _ 25 25 rfl _ _ rfl rfl _ _ (unhide HR10 _) ?_)
                go_roundg c6
                case measure => exact unhide HC6
                case rel => exact ⟨_, _, _, rfl, HD⟩
end

end Go.Proofs.YtkmhcgmmbkchaaaGreat
