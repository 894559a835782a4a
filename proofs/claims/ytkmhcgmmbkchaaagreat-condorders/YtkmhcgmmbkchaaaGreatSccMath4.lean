/- The order of the components: the least free one, again and again. -/
import Derived.Test.YtkmhcgmmbkchaaaGreatSccMath3
namespace Go.Proofs.YtkmhcgmmbkchaaaGreat
namespace T9
theorem countP_strict {p q : Nat → Bool} : ∀ {l : List Nat}, (∀ x, p x = true → q x = true) → (∃ x ∈ l, q x = true ∧ p x = false) → l.countP p < l.countP q
  | [], _, ⟨_, hx, _⟩ => by cases hx
  | y :: l, h, ⟨x, hx, hq, hp⟩ => by
    have mono : l.countP p ≤ l.countP q := List.countP_mono_left (fun x _ => h x)
    rw [List.countP_cons, List.countP_cons]
    rcases List.mem_cons.1 hx with e | e
    · rw [← e, hq, hp]; simp; omega
    · have ih := countP_strict (l := l) h ⟨x, e, hq, hp⟩
      by_cases c : p y = true
      · rw [c, h y c]; simp; omega
      · have c' : p y = false := by simpa using c
        rw [c']; simp; omega
/-- Free: of those to be told, not told, and no arc leads into it from one not told. -/
def Free (hs : List Nat) (ar : List (Nat × Nat)) (told : List Nat) (m : Nat) : Prop := m ∈ hs ∧ m ∉ told ∧ ∀ u, (u, m) ∈ ar → u ∈ told
/-- Arcs between heads: each is one arc on, and none comes back. -/
def Onward (hs : List Nat) (ar : List (Nat × Nat)) (R : Nat → Nat → Prop) : Prop := (∀ x y z, R x y → R y z → R x z) ∧ (∀ x, R x x) ∧ ∀ u v, (u, v) ∈ ar → u ∈ hs ∧ v ∈ hs ∧ R u v ∧ ¬ R v u
section
variable {hs : List Nat} {ar : List (Nat × Nat)} {R : Nat → Nat → Prop}
open Classical in
/-- While some aren't told, one is free. -/
theorem Onward.free (H : Onward hs ar R) {told : List Nat} (hx : ∃ m ∈ hs, m ∉ told) : ∃ m, Free hs ar told m := by
  obtain ⟨tr, rf, ho⟩ := H
  obtain ⟨m, hm, hn⟩ := hx
  have key : ∀ (k m : Nat), hs.countP (fun x => decide (R x m)) ≤ k → m ∈ hs → m ∉ told → ∃ m, Free hs ar told m := by
    intro k
    induction k with
    | zero =>
      intro m hc hm hn
      have := (List.countP_pos_iff (p := fun x => decide (R x m)) (l := hs)).2 ⟨m, hm, by simp [rf m]⟩
      omega
    | succ k ih =>
      intro m hc hm hn
      by_cases c : ∀ u, (u, m) ∈ ar → u ∈ told
      · exact ⟨m, hm, hn, c⟩
      · have ⟨u, hu⟩ := Classical.not_forall.1 c
        have ⟨hu1, hu2⟩ := Classical.not_imp.1 hu
        obtain ⟨o1, o2, o3, o4⟩ := ho u m hu1
        refine ih u ?_ o1 hu2
        have := countP_strict (l := hs) (p := fun x => decide (R x u)) (q := fun x => decide (R x m)) (fun x h => by simp only [decide_eq_true_eq] at h ⊢; exact tr _ _ _ h o3) ⟨m, o2, by simp [rf m], by simp [o4]⟩
        omega
  exact key _ m (Nat.le_refl _) hm hn
/-- How many arcs lead into it from what isn't told. -/
def waits (ar : List (Nat × Nat)) (told : List Nat) (m : Nat) : Nat := ar.countP (fun a => decide (a.2 = m ∧ a.1 ∉ told))
theorem waits_zero {told : List Nat} {m : Nat} : waits ar told m = 0 ↔ ∀ u, (u, m) ∈ ar → u ∈ told := by
  unfold waits
  rw [List.countP_eq_zero]
  constructor
  · intro h u hu
    have := h (u, m) hu
    simpa using this
  · rintro h ⟨u, v⟩ hu
    simp only [decide_eq_true_eq, not_and, Classical.not_not]
    intro e; subst e; exact h u hu
/-- One more told: those to which arcs lead from it wait for so many less. -/
theorem waits_tell {told : List Nat} {u m : Nat} (hu : u ∉ told) : waits ar (told ++ [u]) m + ar.countP (fun a => decide (a = (u, m))) = waits ar told m := by
  unfold waits
  induction ar with
  | nil => rfl
  | cons a l ih =>
    obtain ⟨x, y⟩ := a
    rw [List.countP_cons, List.countP_cons, List.countP_cons]
    by_cases e1 : y = m
    · by_cases e2 : x = u
      · subst e1; subst e2; simp [hu] at ih ⊢; omega
      · subst e1; simp [e2] at ih ⊢; omega
    · simp [e1] at ih ⊢; omega
/-- What is told, the latest first: the least free one comes next. -/
def ToldR (hs : List Nat) (ar : List (Nat × Nat)) : List Nat → Prop
  | [] => True
  | m :: r => ToldR hs ar r ∧ Free hs ar r.reverse m ∧ ∀ x, Free hs ar r.reverse x → m ≤ x
/-- .. and in its order. -/
def Told (hs : List Nat) (ar : List (Nat × Nat)) (T : List Nat) : Prop := ToldR hs ar T.reverse
theorem Told.nil : Told hs ar [] := trivial
theorem Told.next {told : List Nat} {m : Nat} (h : Told hs ar told) (hf : Free hs ar told m) (hl : ∀ x, Free hs ar told x → m ≤ x) : Told hs ar (told ++ [m]) := by
  unfold Told
  rw [show (told ++ [m]).reverse = m :: told.reverse by simp]
  refine ⟨h, ?_, ?_⟩
  · rw [List.reverse_reverse]; exact hf
  · rw [List.reverse_reverse]; exact hl
theorem Told.ind {P : List Nat → Prop} (h0 : P []) (h1 : ∀ (told : List Nat) (m : Nat), Told hs ar told → Free hs ar told m → (∀ x, Free hs ar told x → m ≤ x) → P told → P (told ++ [m])) {T : List Nat} (h : Told hs ar T) : P T := by
  have key : ∀ r : List Nat, ToldR hs ar r → P r.reverse := by
    intro r
    induction r with
    | nil => intro _; exact h0
    | cons m r ih =>
      rintro ⟨a, b, c⟩
      rw [List.reverse_cons]
      exact h1 r.reverse m (by unfold Told; rw [List.reverse_reverse]; exact a) b c (ih a)
  have := key T.reverse h
  rwa [List.reverse_reverse] at this
theorem Told.cases {T : List Nat} (h : Told hs ar T) : T = [] ∨ ∃ told m, T = told ++ [m] ∧ Told hs ar told ∧ Free hs ar told m ∧ ∀ x, Free hs ar told x → m ≤ x :=
  Told.ind (P := fun T => T = [] ∨ ∃ told m, T = told ++ [m] ∧ Told hs ar told ∧ Free hs ar told m ∧ ∀ x, Free hs ar told x → m ≤ x) (.inl rfl) (fun told m a b c _ => .inr ⟨told, m, rfl, a, b, c⟩) h
theorem Told.nodup {told : List Nat} (h : Told hs ar told) : told.Nodup ∧ ∀ x ∈ told, x ∈ hs := by
  refine Told.ind (P := fun told => told.Nodup ∧ ∀ x ∈ told, x ∈ hs) ⟨List.nodup_nil, fun x hx => by cases hx⟩ (fun told m h hf _ ih => ?_) h
  refine ⟨List.nodup_append.2 ⟨ih.1, List.nodup_cons.2 ⟨by simp, List.nodup_nil⟩, ?_⟩, ?_⟩
  · intro a ha b hb e
    rw [List.mem_singleton] at hb
    exact hf.2.1 (by rw [← hb, ← e]; exact ha)
  · intro x hx
    rcases List.mem_append.1 hx with q | q
    · exact ih.2 x q
    · rw [List.mem_singleton] at q; rw [q]; exact hf.1
/-- Two that tell as many tell the same. -/
theorem Told.one {a : List Nat} (h : Told hs ar a) : ∀ {b : List Nat}, Told hs ar b → a.length = b.length → a = b := by
  refine Told.ind (P := fun a => ∀ {b : List Nat}, Told hs ar b → a.length = b.length → a = b) ?_ (fun told m h hf hl ih => ?_) h
  · intro b hb e
    exact (List.eq_nil_of_length_eq_zero e.symm).symm
  · intro b hb e
    rcases hb.cases with rfl | ⟨told', m', rfl, hb', hf', hl'⟩
    · simp at e
    · have e' := ih hb' (by simpa using e)
      subst e'
      rw [Nat.le_antisymm (hl _ hf') (hl' _ hf)]
/-- An arc's beginning is told ahead of its end. -/
theorem Told.ahead {told : List Nat} (h : Told hs ar told) : ∀ u v, (u, v) ∈ ar → v ∈ told → ∃ l1 l2, told = l1 ++ v :: l2 ∧ u ∈ l1 := by
  refine Told.ind (P := fun told => ∀ u v, (u, v) ∈ ar → v ∈ told → ∃ l1 l2, told = l1 ++ v :: l2 ∧ u ∈ l1) (fun u v _ hv => by cases hv) (fun told m h hf hl ih => ?_) h
  intro u v ha hv
  rcases List.mem_append.1 hv with q | q
  · obtain ⟨l1, l2, e, hu⟩ := ih u v ha q
    exact ⟨l1, l2 ++ [m], by rw [e]; simp, hu⟩
  · rw [List.mem_singleton] at q
    rw [q] at ha ⊢
    exact ⟨told, [], rfl, hf.2.2 u ha⟩
/-- When none is free all are told. -/
theorem Onward.all (H : Onward hs ar R) {told : List Nat} (hn : ∀ m, ¬ Free hs ar told m) : ∀ m ∈ hs, m ∈ told := by
  intro m hm
  by_cases c : m ∈ told
  · exact c
  · obtain ⟨x, hx⟩ := H.free ⟨m, hm, c⟩
    exact absurd hx (hn x)
end
/-- The arcs between heads: of each place's arcs those that leave its component. -/
def arcsOf (h : Nat → Nat) (nx : Nat → List Nat) (n : Nat) : List (Nat × Nat) := (List.range n).flatMap (fun p => ((nx p).map (fun q => (h p, h q))).filter (fun a => decide (a.1 ≠ a.2)))
theorem mem_arcsOf {h : Nat → Nat} {nx : Nat → List Nat} {n u v : Nat} : (u, v) ∈ arcsOf h nx n ↔ u ≠ v ∧ ∃ p < n, ∃ q ∈ nx p, h p = u ∧ h q = v := by
  unfold arcsOf
  simp only [List.mem_flatMap, List.mem_range, List.mem_filter, List.mem_map, Prod.mk.injEq, decide_eq_true_eq]
  constructor
  · rintro ⟨p, hp, ⟨q, hq, e1, e2⟩, e3⟩
    exact ⟨e3, p, hp, q, hq, e1, e2⟩
  · rintro ⟨e3, p, hp, q, hq, e1, e2⟩
    exact ⟨p, hp, ⟨q, hq, e1, e2⟩, e3⟩
theorem Heads.onward {nx : Nat → List Nat} {n : Nat} {h : Nat → Nat} (H : Heads nx n h) (hn : ∀ p < n, ∀ q ∈ nx p, q < n) : Onward (headsTo h n) (arcsOf h nx n) (Reach nx) := by
  refine ⟨fun x y z => Reach.trans, Reach.refl nx, fun u v ha => ?_⟩
  obtain ⟨hne, p, hp, q, hq, e1, e2⟩ := mem_arcsOf.1 ha
  have hq' := hn p hp q hq
  obtain ⟨p1, p2, -⟩ := H p hp
  obtain ⟨q1, q2, -⟩ := H q hq'
  have hu : u < n := by rw [← e1]; exact H.lt hp
  have hv : v < n := by rw [← e2]; exact H.lt hq'
  have iu : h u = u := by rw [← e1]; exact H.idem hp
  have iv : h v = v := by rw [← e2]; exact H.idem hq'
  rw [e1] at p1 p2
  rw [e2] at q1 q2
  have huv : Reach nx u v := (p2.trans (Reach.arc hq)).trans q1
  exact ⟨mem_headsTo.2 ⟨hu, iu⟩, mem_headsTo.2 ⟨hv, iv⟩, huv, fun w => hne (by rw [← iu, ← iv]; exact (H.same hu hv).2 ⟨huv, w⟩)⟩
end T9
end Go.Proofs.YtkmhcgmmbkchaaaGreat
