/- Tarjan's search, as plain mathematics: places, arcs, the search's state and what is always so of it. -/
import Derived.RowKit3
namespace Go.Proofs.YtkmhcgmmbkchaaaGreat
namespace T9

/-- By k arcs from p to q. -/
def Rch (nx : Nat → List Nat) : Nat → Nat → Nat → Prop
  | 0, p, q => p = q
  | k + 1, p, q => ∃ r ∈ nx p, Rch nx k r q
def Reach (nx : Nat → List Nat) (p q : Nat) : Prop := ∃ k, Rch nx k p q
theorem Rch.trans {nx : Nat → List Nat} : ∀ {k m p q r : Nat}, Rch nx k p q → Rch nx m q r → Rch nx (k + m) p r
  | 0, m, p, q, r, h, h2 => by have h' : p = q := h; rw [h', Nat.zero_add]; exact h2
  | k + 1, m, p, q, r, h, h2 => by
    obtain ⟨x, hx, h3⟩ := h
    rw [show k + 1 + m = (k + m) + 1 by omega]
    exact ⟨x, hx, Rch.trans h3 h2⟩
theorem Reach.refl (nx : Nat → List Nat) (p : Nat) : Reach nx p p := ⟨0, rfl⟩
theorem Reach.trans {nx : Nat → List Nat} {p q r : Nat} (h : Reach nx p q) (h2 : Reach nx q r) : Reach nx p r := by
  obtain ⟨k, h⟩ := h
  obtain ⟨m, h2⟩ := h2
  exact ⟨k + m, h.trans h2⟩
theorem Reach.arc {nx : Nat → List Nat} {p q : Nat} (h : q ∈ nx p) : Reach nx p q := ⟨1, q, h, rfl⟩
/-- What is closed under arcs is closed under reaching. -/
theorem Reach.closed {nx : Nat → List Nat} {C : Nat → Prop} (hC : ∀ p, C p → ∀ q ∈ nx p, C q) {p q : Nat} (h : Reach nx p q) (hp : C p) : C q := by
  obtain ⟨k, h⟩ := h
  induction k generalizing p with
  | zero => have h' : p = q := h; rw [← h']; exact hp
  | succ k ih =>
    obtain ⟨r, hr, h2⟩ := h
    exact ih (hC p hp r hr) h2

/-- The search: when each place was come to, its low, how many of its arcs were tried, its head; the trail and the open places, the latest first. -/
structure St where
  tu : Nat → Nat
  lo : Nat → Nat
  tried : Nat → Nat
  hd : Nat → Option Nat
  turn : Nat
  tl : List Nat
  op : List Nat
structure Inv (nx : Nat → List Nat) (s : St) : Prop where
  open_ : ∀ p, p ∈ s.op ↔ s.tu p ≠ 0 ∧ s.hd p = none
  down : s.op.Pairwise (fun x y => s.tu y < s.tu x)
  sub : s.tl.Sublist s.op
  le : ∀ p, s.tu p ≤ s.turn
  one : ∀ p q, s.tu p = s.tu q → s.tu p ≠ 0 → p = q
  fin : ∀ p, s.tu p ≠ 0 → p ∉ s.tl → s.tried p = (nx p).length
  few : ∀ p, s.tried p ≤ (nx p).length
  seen : ∀ p i q, i < s.tried p → (nx p)[i]? = some q → s.tu q ≠ 0
  new : ∀ p, s.tu p = 0 → s.tried p = 0 ∧ s.hd p = none
  r1 : ∀ t ∈ s.tl, ∀ p, s.tu p ≠ 0 → s.tu t ≤ s.tu p → Reach nx t p
  r2 : ∀ p ∈ s.op, p ∉ s.tl → ∃ q ∈ s.op, s.tu q < s.tu p ∧ Reach nx p q
  low : ∀ p ∈ s.op, s.lo p ≤ s.tu p ∧ ∃ q ∈ s.op, s.tu q = s.lo p ∧ Reach nx p q
  l2 : ∀ p ∈ s.op, ∀ i q, i < s.tried p → (nx p)[i]? = some q → q ∈ s.op → s.lo p ≤ s.tu q
  l1 : ∀ p ∈ s.op, p ∉ s.tl → ∀ t ∈ s.tl, s.tu t < s.tu p → (∀ t' ∈ s.tl, s.tu t' < s.tu p → s.tu t' ≤ s.tu t) → s.lo t ≤ s.lo p
  k1 : ∀ p h, s.hd p = some h → ∀ q ∈ nx p, ∃ h', s.hd q = some h'
  k2 : ∀ p h, s.hd p = some h → s.tu p ≠ 0 ∧ (∀ q, Reach nx p q → Reach nx q p → h ≤ q) ∧ Reach nx p h ∧ Reach nx h p
/-- Nothing was come to. -/
def St.start : St := ⟨fun _ => 0, fun _ => 0, fun _ => 0, fun _ => none, 0, [], []⟩
theorem Inv.start (nx : Nat → List Nat) : Inv nx St.start := by
  refine ⟨?_, ?_, ?_, ?_, ?_, ?_, ?_, ?_, ?_, ?_, ?_, ?_, ?_, ?_, ?_, ?_⟩
  · intro p; simp [St.start]
  · exact List.Pairwise.nil
  · exact List.Sublist.refl _
  · intro p; exact Nat.le_refl _
  · intro p q _ h; exact absurd rfl h
  · intro p h; exact absurd rfl h
  · intro p; exact Nat.zero_le _
  · intro p i q h; exact absurd h (Nat.not_lt_zero _)
  · intro p _; exact ⟨rfl, rfl⟩
  · intro t h; cases h
  · intro p h; cases h
  · intro p h; cases h
  · intro p h; cases h
  · intro p h; cases h
  · intro p h e; cases e
  · intro p h e; cases e

/-- Two lists that fall and have the same places are one. -/
theorem falling_ext (f : Nat → Nat) : ∀ {l l' : List Nat}, (∀ x y, x ∈ l → y ∈ l → f x = f y → x = y) → l.Pairwise (fun x y => f y < f x) → l'.Pairwise (fun x y => f y < f x) → (∀ x, x ∈ l ↔ x ∈ l') → l = l'
  | [], [], _, _, _, _ => rfl
  | [], b :: l', _, _, _, h => by have := (h b).2 (by simp); cases this
  | a :: l, [], _, _, _, h => by have := (h a).1 (by simp); cases this
  | a :: l, b :: l', hi, h1, h2, h => by
    obtain ⟨p1, p2⟩ := List.pairwise_cons.1 h1
    obtain ⟨q1, q2⟩ := List.pairwise_cons.1 h2
    have hab : a = b := by
      rcases List.mem_cons.1 ((h a).1 (by simp)) with e | e
      · exact e
      · rcases List.mem_cons.1 ((h b).2 (by simp)) with e' | e'
        · exact e'.symm
        · have := q1 a e; have := p1 b e'; omega
    subst hab
    rw [falling_ext f (fun x y hx hy => hi x y (List.mem_cons_of_mem _ hx) (List.mem_cons_of_mem _ hy)) p2 q2 (fun x => ?_)]
    have hx := h x
    simp only [List.mem_cons] at hx
    constructor
    · intro hm
      rcases hx.1 (.inr hm) with e | e
      · subst e; have := p1 x hm; omega
      · exact e
    · intro hm
      rcases hx.2 (.inr hm) with e | e
      · subst e; have := q1 x hm; omega
      · exact e
def up (f : Nat → Nat) (k v : Nat) : Nat → Nat := fun x => if x = k then v else f x
theorem up_same (f : Nat → Nat) (k v : Nat) : up f k v k = v := if_pos rfl
theorem up_ne (f : Nat → Nat) {k x : Nat} (v : Nat) (h : x ≠ k) : up f k v x = f x := if_neg h
/-- A place is come to. -/
def St.enter (s : St) (p : Nat) : St := { s with turn := s.turn + 1, tu := up s.tu p (s.turn + 1), lo := up s.lo p (s.turn + 1), tl := p :: s.tl, op := p :: s.op }
section
variable {nx : Nat → List Nat} {s : St}

theorem Inv.enter (h : Inv nx s) {p : Nat} (hp : s.tu p = 0) (hr : ∀ t ∈ s.tl, Reach nx t p) : Inv nx (s.enter p) := by
  have hpo : p ∉ s.op := fun e => ((h.open_ p).1 e).1 hp
  have hpt : p ∉ s.tl := fun e => hpo (h.sub.subset e)
  have hne : ∀ x, s.tu x ≠ 0 → x ≠ p := fun x hx e => hx (by rw [e]; exact hp)
  have hno : ∀ x, x ∈ s.op → x ≠ p := fun x hx e => hpo (e ▸ hx)
  have htu : ∀ x, x ≠ p → (s.enter p).tu x = s.tu x := fun x hx => up_ne _ _ hx
  have hlo : ∀ x, x ≠ p → (s.enter p).lo x = s.lo x := fun x hx => up_ne _ _ hx
  have htp : (s.enter p).tu p = s.turn + 1 := up_same _ _ _
  have hlp : (s.enter p).lo p = s.turn + 1 := up_same _ _ _
  have hop : ∀ x, x ∈ (s.enter p).op ↔ x = p ∨ x ∈ s.op := fun x => List.mem_cons
  have htl : ∀ x, x ∈ (s.enter p).tl ↔ x = p ∨ x ∈ s.tl := fun x => List.mem_cons
  refine ⟨?_, ?_, ?_, ?_, ?_, ?_, h.few, ?_, ?_, ?_, ?_, ?_, ?_, ?_, h.k1, ?_⟩
  · intro x
    rw [hop]
    by_cases e : x = p
    · subst e
      rw [htp]
      simp [St.enter, (h.new x hp).2]
    · rw [htu x e]
      simp only [e, false_or]
      exact h.open_ x
  · refine List.pairwise_cons.2 ⟨fun y hy => ?_, ?_⟩
    · rw [htp, htu y (hno y hy)]
      have := h.le y; omega
    · exact h.down.imp_of_mem (fun {x y} hx hy hxy => by rw [htu x (hno x hx), htu y (hno y hy)]; exact hxy)
  · exact h.sub.cons_cons p
  · intro x
    by_cases e : x = p
    · rw [e, htp]; exact Nat.le_refl _
    · rw [htu x e]; have := h.le x; show s.tu x ≤ s.turn + 1; omega
  · intro x y hxy hx
    by_cases e : x = p
    · by_cases e2 : y = p
      · rw [e, e2]
      · rw [e, htp, htu y e2] at hxy
        have := h.le y; omega
    · by_cases e2 : y = p
      · rw [e2, htp, htu x e] at hxy
        have := h.le x; omega
      · rw [htu x e, htu y e2] at hxy
        rw [htu x e] at hx
        exact h.one x y hxy hx
  · intro x hx hxt
    have e : x ≠ p := fun e => hxt ((htl x).2 (.inl e))
    rw [htu x e] at hx
    exact h.fin x hx (fun q => hxt ((htl x).2 (.inr q)))
  · intro x i q hi hq
    by_cases e : q = p
    · rw [e, htp]; omega
    · rw [htu q e]; exact h.seen x i q hi hq
  · intro x hx
    have e : x ≠ p := fun e => by rw [e, htp] at hx; omega
    rw [htu x e] at hx
    exact h.new x hx
  · intro t ht x hx hle
    by_cases e : x = p
    · subst e
      rcases (htl t).1 ht with q | q
      · rw [q]; exact Reach.refl _ _
      · exact hr t q
    · rw [htu x e] at hx hle
      rcases (htl t).1 ht with q | q
      · rw [q, htp] at hle
        have := h.le x; omega
      · rw [htu t (fun e2 => hpt (e2 ▸ q))] at hle
        exact h.r1 t q x hx hle
  · intro x hx hxt
    have e : x ≠ p := fun e => hxt ((htl x).2 (.inl e))
    have hx' : x ∈ s.op := ((hop x).1 hx).resolve_left e
    obtain ⟨q, q1, q2, q3⟩ := h.r2 x hx' (fun q => hxt ((htl x).2 (.inr q)))
    exact ⟨q, (hop q).2 (.inr q1), by rw [htu q (hno q q1), htu x e]; exact q2, q3⟩
  · intro x hx
    by_cases e : x = p
    · subst e
      rw [hlp, htp]
      exact ⟨Nat.le_refl _, x, hx, htp, Reach.refl _ _⟩
    · have hx' : x ∈ s.op := ((hop x).1 hx).resolve_left e
      obtain ⟨q1, q, q2, q3, q4⟩ := h.low x hx'
      rw [hlo x e, htu x e]
      exact ⟨q1, q, (hop q).2 (.inr q2), by rw [htu q (hno q q2)]; exact q3, q4⟩
  · intro x hx i q hi hq hqo
    by_cases e : x = p
    · subst e
      have hi' : i < s.tried x := hi
      rw [(h.new x hp).1] at hi'
      omega
    · have hx' : x ∈ s.op := ((hop x).1 hx).resolve_left e
      have hqv := h.seen x i q hi hq
      have e2 := hne q hqv
      rw [hlo x e, htu q e2]
      exact h.l2 x hx' i q hi hq (((hop q).1 hqo).resolve_left e2)
  · intro x hx hxt t ht hlt hmax
    have e : x ≠ p := fun e => hxt ((htl x).2 (.inl e))
    have hx' : x ∈ s.op := ((hop x).1 hx).resolve_left e
    have hxv := ((h.open_ x).1 hx').1
    rcases (htl t).1 ht with q | q
    · rw [q, htp, htu x e] at hlt
      have := h.le x; omega
    · have et : t ≠ p := fun e2 => hpt (e2 ▸ q)
      rw [htu t et, htu x e] at hlt
      rw [hlo t et, hlo x e]
      refine h.l1 x hx' (fun q => hxt ((htl x).2 (.inr q))) t q hlt (fun t' ht' hlt' => ?_)
      have et' : t' ≠ p := fun e2 => hpt (e2 ▸ ht')
      have := hmax t' ((htl t').2 (.inr ht')) (by rw [htu t' et', htu x e]; exact hlt')
      rwa [htu t' et', htu t et] at this
  · intro x hh hx
    obtain ⟨q1, q2⟩ := h.k2 x hh hx
    exact ⟨by rw [htu x (hne x q1)]; exact q1, q2⟩
/-- One arc more was tried. -/
def St.tick (s : St) (a : Nat) : St := { s with tried := up s.tried a (s.tried a + 1) }
theorem Inv.tick (h : Inv nx s) {a q : Nat} (ha : a ∈ s.tl) (hq : (nx a)[s.tried a]? = some q) (hv : s.tu q ≠ 0) (hl : q ∈ s.op → s.lo a ≤ s.tu q) : Inv nx (s.tick a) := by
  have hav := ((h.open_ a).1 (h.sub.subset ha)).1
  have htr : ∀ x, x ≠ a → (s.tick a).tried x = s.tried x := fun x hx => up_ne _ _ hx
  have hta : (s.tick a).tried a = s.tried a + 1 := up_same _ _ _
  refine ⟨h.open_, h.down, h.sub, h.le, h.one, ?_, ?_, ?_, ?_, h.r1, h.r2, h.low, ?_, h.l1, h.k1, h.k2⟩
  · intro x hx hxt
    rw [htr x (fun e => hxt (e ▸ ha))]
    exact h.fin x hx hxt
  · intro x
    by_cases e : x = a
    · subst e
      rw [hta]
      exact (List.getElem?_eq_some_iff.1 hq).1
    · rw [htr x e]; exact h.few x
  · intro x i y hi hy
    by_cases e : x = a
    · subst e
      rw [hta] at hi
      rcases Nat.lt_or_ge i (s.tried x) with g | g
      · exact h.seen x i y g hy
      · obtain rfl : i = s.tried x := by omega
        rw [hq] at hy
        injection hy with hy
        rw [← hy]; exact hv
    · rw [htr x e] at hi; exact h.seen x i y hi hy
  · intro x hx
    have e : x ≠ a := fun e => hav (by rw [← e]; exact hx)
    rw [htr x e]; exact h.new x hx
  · intro x hx i y hi hy hyo
    by_cases e : x = a
    · subst e
      rw [hta] at hi
      rcases Nat.lt_or_ge i (s.tried x) with g | g
      · exact h.l2 x hx i y g hy hyo
      · obtain rfl : i = s.tried x := by omega
        rw [hq] at hy
        injection hy with hy
        rw [← hy] at hyo ⊢
        exact hl hyo
    · rw [htr x e] at hi; exact h.l2 x hx i y hi hy hyo
/-- A low is lowered. -/
def St.lower (s : St) (a v : Nat) : St := { s with lo := up s.lo a v }
theorem Inv.lower (h : Inv nx s) {a v : Nat} (ha : a ∈ s.tl) (hv : v ≤ s.lo a) (hq : ∃ q ∈ s.op, s.tu q = v ∧ Reach nx a q) : Inv nx (s.lower a v) := by
  have hlo : ∀ x, x ≠ a → (s.lower a v).lo x = s.lo x := fun x hx => up_ne _ _ hx
  have hla : (s.lower a v).lo a = v := up_same _ _ _
  have hle : ∀ x, (s.lower a v).lo x ≤ s.lo x := fun x => by
    by_cases e : x = a
    · rw [e, hla]; exact hv
    · rw [hlo x e]; exact Nat.le_refl _
  refine ⟨h.open_, h.down, h.sub, h.le, h.one, h.fin, h.few, h.seen, h.new, h.r1, h.r2, ?_, ?_, ?_, h.k1, h.k2⟩
  · intro x hx
    by_cases e : x = a
    · subst e
      rw [hla]
      exact ⟨Nat.le_trans hv (h.low x hx).1, hq⟩
    · rw [hlo x e]; exact h.low x hx
  · intro x hx i y hi hy hyo
    exact Nat.le_trans (hle x) (h.l2 x hx i y hi hy hyo)
  · intro x hx hxt t ht hlt hmax
    rw [hlo x (fun e => hxt (e ▸ ha))]
    exact Nat.le_trans (hle t) (h.l1 x hx hxt t ht hlt hmax)
/-- Each open place reaches one on the trail that was come to no later. -/
theorem Inv.base (h : Inv nx s) : ∀ (k p : Nat), s.tu p ≤ k → p ∈ s.op → ∃ t ∈ s.tl, s.tu t ≤ s.tu p ∧ Reach nx p t := by
  intro k
  induction k with
  | zero => intro p hk hp; exact absurd (Nat.le_zero.1 hk) ((h.open_ p).1 hp).1
  | succ k ih =>
    intro p hk hp
    by_cases ht : p ∈ s.tl
    · exact ⟨p, ht, Nat.le_refl _, Reach.refl _ _⟩
    · obtain ⟨q, q1, q2, q3⟩ := h.r2 p hp ht
      obtain ⟨t, t1, t2, t3⟩ := ih q (by omega) q1
      exact ⟨t, t1, by omega, q3.trans t3⟩
theorem Inv.top (h : Inv nx s) {a : Nat} {rest : List Nat} (ht : s.tl = a :: rest) : ∀ t ∈ s.tl, s.tu t ≤ s.tu a := by
  have hp : s.tl.Pairwise (fun x y => s.tu y < s.tu x) := h.down.sublist h.sub
  rw [ht] at hp ⊢
  intro t hm
  rcases List.mem_cons.1 hm with e | e
  · rw [e]; exact Nat.le_refl _
  · exact Nat.le_of_lt ((List.pairwise_cons.1 hp).1 t e)
/-- Back to the place before; the low goes with it. -/
def St.back (s : St) (b v : Nat) (rest : List Nat) : St := { s with tl := b :: rest, lo := up s.lo b v }
theorem Inv.back (h : Inv nx s) {a b : Nat} {rest : List Nat} (ht : s.tl = a :: b :: rest) (hf : s.tried a = (nx a).length) (hlt : s.lo a < s.tu a) : Inv nx (s.back b (min (s.lo b) (s.lo a)) rest) := by
  have hpt : s.tl.Pairwise (fun x y => s.tu y < s.tu x) := h.down.sublist h.sub
  rw [ht] at hpt
  obtain ⟨p1, p2⟩ := List.pairwise_cons.1 hpt
  obtain ⟨p3, p4⟩ := List.pairwise_cons.1 p2
  have hao : a ∈ s.op := h.sub.subset (by rw [ht]; simp)
  have hbo : b ∈ s.op := h.sub.subset (by rw [ht]; simp)
  have hat : a ∈ s.tl := by rw [ht]; simp
  have hbt : b ∈ s.tl := by rw [ht]; simp
  have hab : s.tu b < s.tu a := p1 b (by simp)
  have hna : a ∉ (b :: rest) := fun e => by have := p1 a e; omega
  have hmem : ∀ x, x ∈ s.tl ↔ x = a ∨ x ∈ (b :: rest) := fun x => by rw [ht]; exact List.mem_cons
  have hlo : ∀ x, x ≠ b → (s.back b (min (s.lo b) (s.lo a)) rest).lo x = s.lo x := fun x hx => up_ne _ _ hx
  have hlb : (s.back b (min (s.lo b) (s.lo a)) rest).lo b = min (s.lo b) (s.lo a) := up_same _ _ _
  have hle : ∀ x, (s.back b (min (s.lo b) (s.lo a)) rest).lo x ≤ s.lo x := fun x => by
    by_cases e : x = b
    · rw [e, hlb]; exact Nat.min_le_left _ _
    · rw [hlo x e]; exact Nat.le_refl _
  have hba : Reach nx b a := h.r1 b hbt a ((h.open_ a).1 hao).1 (Nat.le_of_lt hab)
  refine ⟨h.open_, h.down, ?_, h.le, h.one, ?_, h.few, h.seen, h.new, ?_, ?_, ?_, ?_, ?_, h.k1, h.k2⟩
  · have := h.sub
    rw [ht] at this
    exact (List.sublist_cons_self a (b :: rest)).trans this
  · intro x hx hxt
    by_cases e : x = a
    · rw [e]; exact hf
    · exact h.fin x hx (fun q => hxt (((hmem x).1 q).resolve_left e))
  · intro t htt x hx hle'
    exact h.r1 t ((hmem t).2 (.inr htt)) x hx hle'
  · intro x hx hxt
    by_cases e : x = a
    · subst e
      obtain ⟨q1, q, q2, q3, q4⟩ := h.low x hx
      exact ⟨q, q2, by rw [show (s.back b (min (s.lo b) (s.lo x)) rest).tu q = s.tu q from rfl, q3]; exact hlt, q4⟩
    · exact h.r2 x hx (fun q => hxt (((hmem x).1 q).resolve_left e))
  · intro x hx
    by_cases e : x = b
    · subst e
      rw [hlb]
      refine ⟨Nat.le_trans (Nat.min_le_left _ _) (h.low x hx).1, ?_⟩
      rcases Nat.le_total (s.lo x) (s.lo a) with g | g
      · rw [Nat.min_eq_left g]; exact (h.low x hx).2
      · rw [Nat.min_eq_right g]
        obtain ⟨q1, q, q2, q3, q4⟩ := h.low a hao
        exact ⟨q, q2, q3, hba.trans q4⟩
    · rw [hlo x e]; exact h.low x hx
  · intro x hx i y hi hy hyo
    exact Nat.le_trans (hle x) (h.l2 x hx i y hi hy hyo)
  · intro x hx hxt t htt hlt' hmax
    have htt' : t ∈ s.tl := (hmem t).2 (.inr htt)
    by_cases e : x = a
    · subst e
      have hxb : x ≠ b := fun e => by rw [e] at hab; omega
      rw [hlo x hxb]
      have h1 := hmax b (by show b ∈ b :: rest; simp) hab
      have h2 : s.tu t ≤ s.tu b := by
        rcases List.mem_cons.1 htt with q | q
        · rw [q]; exact Nat.le_refl _
        · exact Nat.le_of_lt (p3 t q)
      have h1' : s.tu b ≤ s.tu t := h1
      obtain rfl : t = b := h.one t b (by omega) ((h.open_ t).1 (h.sub.subset htt')).1
      rw [hlb]; exact Nat.min_le_right _ _
    · have hxt' : x ∉ s.tl := fun q => hxt (((hmem x).1 q).resolve_left e)
      have hxb : x ≠ b := fun e => hxt (by rw [e]; show b ∈ b :: rest; simp)
      rw [hlo x hxb]
      by_cases hax : s.tu a < s.tu x
      · have h1 : s.lo a ≤ s.lo x := h.l1 x hx hxt' a hat hax (fun t' ht' _ => h.top ht t' ht')
        have h2' : s.tu b ≤ s.tu t := hmax b (by show b ∈ b :: rest; simp) (by show s.tu b < s.tu x; omega)
        have h2 : s.tu t ≤ s.tu b := by
          rcases List.mem_cons.1 htt with q | q
          · rw [q]; exact Nat.le_refl _
          · exact Nat.le_of_lt (p3 t q)
        obtain rfl : t = b := h.one t b (by omega) ((h.open_ t).1 (h.sub.subset htt')).1
        rw [hlb]; exact Nat.le_trans (Nat.min_le_right _ _) h1
      · refine Nat.le_trans (hle t) (h.l1 x hx hxt' t htt' hlt' (fun t' ht' hlt2 => ?_))
        rcases (hmem t').1 ht' with q | q
        · rw [q] at hlt2; exact absurd hlt2 hax
        · exact hmax t' q hlt2
/-- A component is closed: all open places from a on get the head m. -/
def St.shut (s : St) (a m : Nat) (rest op' : List Nat) : St := { s with tl := rest, op := op', hd := fun x => if x ∈ s.op ∧ s.tu a ≤ s.tu x then some m else s.hd x }
theorem Inv.shut (h : Inv nx s) {a m : Nat} {rest op' : List Nat} (ht : s.tl = a :: rest) (hf : s.tried a = (nx a).length) (hla : s.lo a = s.tu a) (hop : ∀ x, x ∈ op' ↔ x ∈ s.op ∧ s.tu x < s.tu a) (hsub : op'.Sublist s.op) (hm1 : m ∈ s.op) (hm2 : s.tu a ≤ s.tu m) (hm3 : ∀ x ∈ s.op, s.tu a ≤ s.tu x → m ≤ x) : Inv nx (s.shut a m rest op') := by
  have hpt : s.tl.Pairwise (fun x y => s.tu y < s.tu x) := h.down.sublist h.sub
  rw [ht] at hpt
  obtain ⟨p1, p2⟩ := List.pairwise_cons.1 hpt
  have hat : a ∈ s.tl := by rw [ht]; simp
  have hao : a ∈ s.op := h.sub.subset hat
  have hmem : ∀ x, x ∈ s.tl ↔ x = a ∨ x ∈ rest := fun x => by rw [ht]; exact List.mem_cons
  have hhd : ∀ x, x ∈ s.op → s.tu a ≤ s.tu x → (s.shut a m rest op').hd x = some m := fun x h1 h2 => if_pos ⟨h1, h2⟩
  have hhn : ∀ x, ¬ (x ∈ s.op ∧ s.tu a ≤ s.tu x) → (s.shut a m rest op').hd x = s.hd x := fun x h1 => if_neg h1
  -- all of the component but a are off the trail, and done
  have hoff : ∀ x, x ∈ s.op → s.tu a ≤ s.tu x → x = a ∨ x ∉ s.tl := fun x h1 h2 => by
    by_cases e : x ∈ s.tl
    · rcases (hmem x).1 e with q | q
      · exact .inl q
      · have := p1 x q; omega
    · exact .inr e
  have hdone : ∀ x, x ∈ s.op → s.tu a ≤ s.tu x → s.tried x = (nx x).length := fun x h1 h2 => by
    rcases hoff x h1 h2 with e | e
    · rw [e]; exact hf
    · exact h.fin x ((h.open_ x).1 h1).1 e
  have hlow : ∀ x, x ∈ s.op → s.tu a ≤ s.tu x → s.tu a ≤ s.lo x := fun x h1 h2 => by
    rcases hoff x h1 h2 with e | e
    · rw [e, hla]; exact Nat.le_refl _
    · have hne : x ≠ a := fun e2 => e (e2 ▸ hat)
      have hlt : s.tu a < s.tu x := by
        rcases Nat.lt_or_eq_of_le h2 with q | q
        · exact q
        · exact absurd (h.one a x q ((h.open_ a).1 hao).1).symm hne
      have := h.l1 x h1 e a hat hlt (fun t' ht' _ => h.top ht t' ht')
      rwa [hla] at this
  -- an arc out of the component leads into it, or to what is closed
  have harc : ∀ x, x ∈ s.op → s.tu a ≤ s.tu x → ∀ q ∈ nx x, (q ∈ s.op ∧ s.tu a ≤ s.tu q) ∨ ∃ h', s.hd q = some h' := fun x h1 h2 q hq => by
    obtain ⟨i, hi⟩ := List.mem_iff_getElem?.1 hq
    have hil : i < s.tried x := by rw [hdone x h1 h2]; exact (List.getElem?_eq_some_iff.1 hi).1
    have hv := h.seen x i q hil hi
    cases e : s.hd q with
    | some h' => exact .inr ⟨h', rfl⟩
    | none =>
      have hqo := (h.open_ q).2 ⟨hv, e⟩
      exact .inl ⟨hqo, Nat.le_trans (hlow x h1 h2) (h.l2 x h1 i q hil hi hqo)⟩
  have hto : ∀ x, x ∈ s.op → s.tu a ≤ s.tu x → Reach nx x a := fun x h1 h2 => by
    obtain ⟨t, t1, t2, t3⟩ := h.base (s.tu x) x (Nat.le_refl _) h1
    exact t3.trans (h.r1 t t1 a ((h.open_ a).1 hao).1 (h.top ht t t1))
  have hfrom : ∀ x, x ∈ s.op → s.tu a ≤ s.tu x → Reach nx a x := fun x h1 h2 => h.r1 a hat x ((h.open_ x).1 h1).1 h2
  have hclosed : ∀ p, (∃ h', s.hd p = some h') → ∀ q, Reach nx p q → ∃ h', s.hd q = some h' := fun p hp q hr => Reach.closed (C := fun x => ∃ h', s.hd x = some h') (fun x ⟨h', hx⟩ => h.k1 x h' hx) hr hp
  have hin : ∀ x, x ∈ s.op → s.tu a ≤ s.tu x → ∀ q, Reach nx x q → Reach nx q x → q ∈ s.op ∧ s.tu a ≤ s.tu q := fun x h1 h2 q hr hb => by
    have hq := Reach.closed (C := fun y => (y ∈ s.op ∧ s.tu a ≤ s.tu y) ∨ ∃ h', s.hd y = some h') (fun y hy z hz => by
      rcases hy with ⟨y1, y2⟩ | ⟨h', y1⟩
      · exact harc y y1 y2 z hz
      · exact .inr (h.k1 y h' y1 z hz)) hr (.inl ⟨h1, h2⟩)
    rcases hq with g | g
    · exact g
    · obtain ⟨h', hx⟩ := hclosed q g x hb
      rw [((h.open_ x).1 h1).2] at hx; cases hx
  refine ⟨?_, h.down.sublist hsub, ?_, h.le, h.one, ?_, h.few, h.seen, ?_, ?_, ?_, ?_, ?_, ?_, ?_, ?_⟩
  · intro x
    show x ∈ op' ↔ _
    rw [hop]
    constructor
    · rintro ⟨h1, h2⟩
      exact ⟨((h.open_ x).1 h1).1, by rw [hhn x (fun g => by omega)]; exact ((h.open_ x).1 h1).2⟩
    · rintro ⟨h1, h2⟩
      by_cases g : x ∈ s.op ∧ s.tu a ≤ s.tu x
      · rw [hhd x g.1 g.2] at h2; cases h2
      · rw [hhn x g] at h2
        have hx := (h.open_ x).2 ⟨h1, h2⟩
        exact ⟨hx, by
          rcases Nat.lt_or_ge (s.tu x) (s.tu a) with q | q
          · exact q
          · exact absurd ⟨hx, q⟩ g⟩
  · -- the trail lies in what is still open
    have hsub2 := h.sub
    rw [ht] at hsub2
    have hrs : rest.Sublist s.op := (List.sublist_cons_self a rest).trans hsub2
    have hfil : ∀ (l l' : List Nat), l.Sublist l' → (l.filter (fun x => decide (s.tu x < s.tu a))).Sublist (l'.filter (fun x => decide (s.tu x < s.tu a))) := fun l l' hh => hh.filter _
    have e1 : rest.filter (fun x => decide (s.tu x < s.tu a)) = rest := List.filter_eq_self.2 (fun x hx => decide_eq_true (p1 x hx))
    have e2 : (s.op.filter (fun x => decide (s.tu x < s.tu a))).Sublist op' := by
      have hd1 : op'.Pairwise (fun x y => s.tu y < s.tu x) := h.down.sublist hsub
      have hd2 : (s.op.filter (fun x => decide (s.tu x < s.tu a))).Pairwise (fun x y => s.tu y < s.tu x) := h.down.filter _
      have : s.op.filter (fun x => decide (s.tu x < s.tu a)) = op' := falling_ext s.tu (fun x y hx hy e => h.one x y e ((h.open_ x).1 (List.mem_filter.1 hx).1).1) hd2 hd1 (fun x => by rw [List.mem_filter, hop]; simp)
      rw [this]; exact List.Sublist.refl _
    have := hfil rest s.op hrs
    rw [e1] at this
    exact this.trans e2
  · intro x hx hxt
    by_cases e : x = a
    · rw [e]; exact hf
    · exact h.fin x hx (fun q => hxt (((hmem x).1 q).resolve_left e))
  · intro x hx
    obtain ⟨q1, q2⟩ := h.new x hx
    exact ⟨q1, by rw [hhn x (fun g => ((h.open_ x).1 g.1).1 hx)]; exact q2⟩
  · intro t htt x hx hle
    exact h.r1 t ((hmem t).2 (.inr htt)) x hx hle
  · intro x hx hxt
    obtain ⟨x1, x2⟩ := (hop x).1 hx
    have hxa : x ≠ a := fun e => by rw [e] at x2; omega
    obtain ⟨q, q1, q2, q3⟩ := h.r2 x x1 (fun q => hxt (((hmem x).1 q).resolve_left hxa))
    have q2' : s.tu q < s.tu x := q2
    exact ⟨q, (hop q).2 ⟨q1, by omega⟩, q2, q3⟩
  · intro x hx
    obtain ⟨x1, x2⟩ := (hop x).1 hx
    obtain ⟨q1, q, q2, q3, q4⟩ := h.low x x1
    exact ⟨q1, q, (hop q).2 ⟨q2, by omega⟩, q3, q4⟩
  · intro x hx i y hi hy hyo
    exact h.l2 x ((hop x).1 hx).1 i y hi hy ((hop y).1 hyo).1
  · intro x hx hxt t htt hlt hmax
    obtain ⟨x1, x2⟩ := (hop x).1 hx
    have hxa : x ≠ a := fun e => by rw [e] at x2; omega
    refine h.l1 x x1 (fun q => hxt (((hmem x).1 q).resolve_left hxa)) t ((hmem t).2 (.inr htt)) hlt (fun t' ht' hlt' => ?_)
    rcases (hmem t').1 ht' with q | q
    · rw [q] at hlt'; omega
    · exact hmax t' q hlt'
  · intro x hh hx q hq
    by_cases g : x ∈ s.op ∧ s.tu a ≤ s.tu x
    · rcases harc x g.1 g.2 q hq with ⟨q1, q2⟩ | ⟨h', q1⟩
      · exact ⟨m, hhd q q1 q2⟩
      · exact ⟨h', by rw [hhn q (fun g2 => by rw [((h.open_ q).1 g2.1).2] at q1; cases q1)]; exact q1⟩
    · rw [hhn x g] at hx
      obtain ⟨h', q1⟩ := h.k1 x hh hx q hq
      exact ⟨h', by rw [hhn q (fun g2 => by rw [((h.open_ q).1 g2.1).2] at q1; cases q1)]; exact q1⟩
  · intro x hh hx
    by_cases g : x ∈ s.op ∧ s.tu a ≤ s.tu x
    · rw [hhd x g.1 g.2] at hx
      injection hx with hx
      subst hx
      refine ⟨((h.open_ x).1 g.1).1, fun q hr hb => ?_, (hto x g.1 g.2).trans (hfrom m hm1 hm2), (hto m hm1 hm2).trans (hfrom x g.1 g.2)⟩
      obtain ⟨q1, q2⟩ := hin x g.1 g.2 q hr hb
      exact hm3 q q1 q2
    · rw [hhn x g] at hx
      exact h.k2 x hh hx
/-- When the trail is gone nothing is open. -/
theorem Inv.none_open (h : Inv nx s) (ht : s.tl = []) : s.op = [] := by
  cases e : s.op with
  | nil => rfl
  | cons p l =>
    obtain ⟨t, t1, -⟩ := h.base (s.tu p) p (Nat.le_refl _) (by rw [e]; simp)
    rw [ht] at t1; cases t1
/-- At the end: each place that was come to has the least place of its component for its head. -/
theorem Inv.heads (h : Inv nx s) (ht : s.tl = []) {p : Nat} (hp : s.tu p ≠ 0) : ∃ m, s.hd p = some m ∧ Reach nx p m ∧ Reach nx m p ∧ ∀ q, Reach nx p q → Reach nx q p → m ≤ q := by
  cases e : s.hd p with
  | none =>
    have := (h.open_ p).2 ⟨hp, e⟩
    rw [h.none_open ht] at this; cases this
  | some m =>
    obtain ⟨-, q2, q3, q4⟩ := h.k2 p m e
    exact ⟨m, rfl, q3, q4, q2⟩
end
end T9
end Go.Proofs.YtkmhcgmmbkchaaaGreat
