/- The graph that is read, by places; what changes nothing; the ring. -/
import Derived.RowKit3
namespace Go.Proofs.Ytdpdghhieokcfaa

section
namespace T9

/-- By k arcs from p to q. -/
def Rch (nx : Nat → List Nat) : Nat → Nat → Nat → Prop
  | 0, p, q => p = q
  | k + 1, p, q => ∃ r ∈ nx p, Rch nx k r q
def Reach (nx : Nat → List Nat) (p q : Nat) : Prop := ∃ k, Rch nx k p q
theorem Rch.trans {nx : Nat → List Nat} : ∀ {k m p q r : Nat}, Rch nx k p q → Rch nx m q r → Rch nx (k + m) p r
  | 0, m, p, q, r, h, h2 => by have h' : p = q := h; rw [h', Nat.zero_add]; exact h2
  | k + 1, m, p, q, r, h, h2 => by
    obtain ⟨x, hx, h3⟩ := h
    rw [show k + 1 + m = (k + m) + 1 by omega]
    exact ⟨x, hx, Rch.trans h3 h2⟩
theorem Reach.refl (nx : Nat → List Nat) (p : Nat) : Reach nx p p := ⟨0, rfl⟩
theorem Reach.trans {nx : Nat → List Nat} {p q r : Nat} (h : Reach nx p q) (h2 : Reach nx q r) : Reach nx p r := by
  obtain ⟨k, h⟩ := h
  obtain ⟨m, h2⟩ := h2
  exact ⟨k + m, h.trans h2⟩
theorem Reach.arc {nx : Nat → List Nat} {p q : Nat} (h : q ∈ nx p) : Reach nx p q := ⟨1, q, h, rfl⟩
/-- What is closed under arcs is closed under reaching. -/
theorem Reach.closed {nx : Nat → List Nat} {C : Nat → Prop} (hC : ∀ p, C p → ∀ q ∈ nx p, C q) {p q : Nat} (h : Reach nx p q) (hp : C p) : C q := by
  obtain ⟨k, h⟩ := h
  induction k generalizing p with
  | zero => have h' : p = q := h; rw [← h']; exact hp
  | succ k ih =>
    obtain ⟨r, hr, h2⟩ := h
    exact ih (hC p hp r hr) h2

/-- The search: when each place was come to, its low, how many of its arcs were tried, its head; the trail and the open places, the latest first. -/
structure St where
  tu : Nat → Nat
  lo : Nat → Nat
  tried : Nat → Nat
  hd : Nat → Option Nat
  turn : Nat
  tl : List Nat
  op : List Nat
structure Inv (nx : Nat → List Nat) (s : St) : Prop where
  open_ : ∀ p, p ∈ s.op ↔ s.tu p ≠ 0 ∧ s.hd p = none
  down : s.op.Pairwise (fun x y => s.tu y < s.tu x)
  sub : s.tl.Sublist s.op
  le : ∀ p, s.tu p ≤ s.turn
  one : ∀ p q, s.tu p = s.tu q → s.tu p ≠ 0 → p = q
  fin : ∀ p, s.tu p ≠ 0 → p ∉ s.tl → s.tried p = (nx p).length
  few : ∀ p, s.tried p ≤ (nx p).length
  seen : ∀ p i q, i < s.tried p → (nx p)[i]? = some q → s.tu q ≠ 0
  new : ∀ p, s.tu p = 0 → s.tried p = 0 ∧ s.hd p = none
  r1 : ∀ t ∈ s.tl, ∀ p, s.tu p ≠ 0 → s.tu t ≤ s.tu p → Reach nx t p
  r2 : ∀ p ∈ s.op, p ∉ s.tl → ∃ q ∈ s.op, s.tu q < s.tu p ∧ Reach nx p q
  low : ∀ p ∈ s.op, s.lo p ≤ s.tu p ∧ ∃ q ∈ s.op, s.tu q = s.lo p ∧ Reach nx p q
  l2 : ∀ p ∈ s.op, ∀ i q, i < s.tried p → (nx p)[i]? = some q → q ∈ s.op → s.lo p ≤ s.tu q
  l1 : ∀ p ∈ s.op, p ∉ s.tl → ∀ t ∈ s.tl, s.tu t < s.tu p → (∀ t' ∈ s.tl, s.tu t' < s.tu p → s.tu t' ≤ s.tu t) → s.lo t ≤ s.lo p
  k1 : ∀ p h, s.hd p = some h → ∀ q ∈ nx p, ∃ h', s.hd q = some h'
  k2 : ∀ p h, s.hd p = some h → s.tu p ≠ 0 ∧ (∀ q, Reach nx p q → Reach nx q p → h ≤ q) ∧ Reach nx p h ∧ Reach nx h p
/-- Nothing was come to. -/
def St.start : St := ⟨fun _ => 0, fun _ => 0, fun _ => 0, fun _ => none, 0, [], []⟩
theorem Inv.start (nx : Nat → List Nat) : Inv nx St.start := by
  refine ⟨?_, ?_, ?_, ?_, ?_, ?_, ?_, ?_, ?_, ?_, ?_, ?_, ?_, ?_, ?_, ?_⟩
  · intro p; simp [St.start]
  · exact List.Pairwise.nil
  · exact List.Sublist.refl _
  · intro p; exact Nat.le_refl _
  · intro p q _ h; exact absurd rfl h
  · intro p h; exact absurd rfl h
  · intro p; exact Nat.zero_le _
  · intro p i q h; exact absurd h (Nat.not_lt_zero _)
  · intro p _; exact ⟨rfl, rfl⟩
  · intro t h; cases h
  · intro p h; cases h
  · intro p h; cases h
  · intro p h; cases h
  · intro p h; cases h
  · intro p h e; cases e
  · intro p h e; cases e

/-- Two lists that fall and have the same places are one. -/
theorem falling_ext (f : Nat → Nat) : ∀ {l l' : List Nat}, (∀ x y, x ∈ l → y ∈ l → f x = f y → x = y) → l.Pairwise (fun x y => f y < f x) → l'.Pairwise (fun x y => f y < f x) → (∀ x, x ∈ l ↔ x ∈ l') → l = l'
  | [], [], _, _, _, _ => rfl
  | [], b :: l', _, _, _, h => by have := (h b).2 (by simp); cases this
  | a :: l, [], _, _, _, h => by have := (h a).1 (by simp); cases this
  | a :: l, b :: l', hi, h1, h2, h => by
    obtain ⟨p1, p2⟩ := List.pairwise_cons.1 h1
    obtain ⟨q1, q2⟩ := List.pairwise_cons.1 h2
    have hab : a = b := by
      rcases List.mem_cons.1 ((h a).1 (by simp)) with e | e
      · exact e
      · rcases List.mem_cons.1 ((h b).2 (by simp)) with e' | e'
        · exact e'.symm
        · have := q1 a e; have := p1 b e'; omega
    subst hab
    rw [falling_ext f (fun x y hx hy => hi x y (List.mem_cons_of_mem _ hx) (List.mem_cons_of_mem _ hy)) p2 q2 (fun x => ?_)]
    have hx := h x
    simp only [List.mem_cons] at hx
    constructor
    · intro hm
      rcases hx.1 (.inr hm) with e | e
      · subst e; have := p1 x hm; omega
      · exact e
    · intro hm
      rcases hx.2 (.inr hm) with e | e
      · subst e; have := q1 x hm; omega
      · exact e
def up (f : Nat → Nat) (k v : Nat) : Nat → Nat := fun x => if x = k then v else f x
theorem up_same (f : Nat → Nat) (k v : Nat) : up f k v k = v := if_pos rfl
theorem up_ne (f : Nat → Nat) {k x : Nat} (v : Nat) (h : x ≠ k) : up f k v x = f x := if_neg h
/-- A place is come to. -/
def St.enter (s : St) (p : Nat) : St := { s with turn := s.turn + 1, tu := up s.tu p (s.turn + 1), lo := up s.lo p (s.turn + 1), tl := p :: s.tl, op := p :: s.op }
section
variable {nx : Nat → List Nat} {s : St}

theorem Inv.enter (h : Inv nx s) {p : Nat} (hp : s.tu p = 0) (hr : ∀ t ∈ s.tl, Reach nx t p) : Inv nx (s.enter p) := by
  have hpo : p ∉ s.op := fun e => ((h.open_ p).1 e).1 hp
  have hpt : p ∉ s.tl := fun e => hpo (h.sub.subset e)
  have hne : ∀ x, s.tu x ≠ 0 → x ≠ p := fun x hx e => hx (by rw [e]; exact hp)
  have hno : ∀ x, x ∈ s.op → x ≠ p := fun x hx e => hpo (e ▸ hx)
  have htu : ∀ x, x ≠ p → (s.enter p).tu x = s.tu x := fun x hx => up_ne _ _ hx
  have hlo : ∀ x, x ≠ p → (s.enter p).lo x = s.lo x := fun x hx => up_ne _ _ hx
  have htp : (s.enter p).tu p = s.turn + 1 := up_same _ _ _
  have hlp : (s.enter p).lo p = s.turn + 1 := up_same _ _ _
  have hop : ∀ x, x ∈ (s.enter p).op ↔ x = p ∨ x ∈ s.op := fun x => List.mem_cons
  have htl : ∀ x, x ∈ (s.enter p).tl ↔ x = p ∨ x ∈ s.tl := fun x => List.mem_cons
  refine ⟨?_, ?_, ?_, ?_, ?_, ?_, h.few, ?_, ?_, ?_, ?_, ?_, ?_, ?_, h.k1, ?_⟩
  · intro x
    rw [hop]
    by_cases e : x = p
    · subst e
      rw [htp]
      simp [St.enter, (h.new x hp).2]
    · rw [htu x e]
      simp only [e, false_or]
      exact h.open_ x
  · refine List.pairwise_cons.2 ⟨fun y hy => ?_, ?_⟩
    · rw [htp, htu y (hno y hy)]
      have := h.le y; omega
    · exact h.down.imp_of_mem (fun {x y} hx hy hxy => by rw [htu x (hno x hx), htu y (hno y hy)]; exact hxy)
  · exact h.sub.cons_cons p
  · intro x
    by_cases e : x = p
    · rw [e, htp]; exact Nat.le_refl _
    · rw [htu x e]; have := h.le x; show s.tu x ≤ s.turn + 1; omega
  · intro x y hxy hx
    by_cases e : x = p
    · by_cases e2 : y = p
      · rw [e, e2]
      · rw [e, htp, htu y e2] at hxy
        have := h.le y; omega
    · by_cases e2 : y = p
      · rw [e2, htp, htu x e] at hxy
        have := h.le x; omega
      · rw [htu x e, htu y e2] at hxy
        rw [htu x e] at hx
        exact h.one x y hxy hx
  · intro x hx hxt
    have e : x ≠ p := fun e => hxt ((htl x).2 (.inl e))
    rw [htu x e] at hx
    exact h.fin x hx (fun q => hxt ((htl x).2 (.inr q)))
  · intro x i q hi hq
    by_cases e : q = p
    · rw [e, htp]; omega
    · rw [htu q e]; exact h.seen x i q hi hq
  · intro x hx
    have e : x ≠ p := fun e => by rw [e, htp] at hx; omega
    rw [htu x e] at hx
    exact h.new x hx
  · intro t ht x hx hle
    by_cases e : x = p
    · subst e
      rcases (htl t).1 ht with q | q
      · rw [q]; exact Reach.refl _ _
      · exact hr t q
    · rw [htu x e] at hx hle
      rcases (htl t).1 ht with q | q
      · rw [q, htp] at hle
        have := h.le x; omega
      · rw [htu t (fun e2 => hpt (e2 ▸ q))] at hle
        exact h.r1 t q x hx hle
  · intro x hx hxt
    have e : x ≠ p := fun e => hxt ((htl x).2 (.inl e))
    have hx' : x ∈ s.op := ((hop x).1 hx).resolve_left e
    obtain ⟨q, q1, q2, q3⟩ := h.r2 x hx' (fun q => hxt ((htl x).2 (.inr q)))
    exact ⟨q, (hop q).2 (.inr q1), by rw [htu q (hno q q1), htu x e]; exact q2, q3⟩
  · intro x hx
    by_cases e : x = p
    · subst e
      rw [hlp, htp]
      exact ⟨Nat.le_refl _, x, hx, htp, Reach.refl _ _⟩
    · have hx' : x ∈ s.op := ((hop x).1 hx).resolve_left e
      obtain ⟨q1, q, q2, q3, q4⟩ := h.low x hx'
      rw [hlo x e, htu x e]
      exact ⟨q1, q, (hop q).2 (.inr q2), by rw [htu q (hno q q2)]; exact q3, q4⟩
  · intro x hx i q hi hq hqo
    by_cases e : x = p
    · subst e
      have hi' : i < s.tried x := hi
      rw [(h.new x hp).1] at hi'
      omega
    · have hx' : x ∈ s.op := ((hop x).1 hx).resolve_left e
      have hqv := h.seen x i q hi hq
      have e2 := hne q hqv
      rw [hlo x e, htu q e2]
      exact h.l2 x hx' i q hi hq (((hop q).1 hqo).resolve_left e2)
  · intro x hx hxt t ht hlt hmax
    have e : x ≠ p := fun e => hxt ((htl x).2 (.inl e))
    have hx' : x ∈ s.op := ((hop x).1 hx).resolve_left e
    have hxv := ((h.open_ x).1 hx').1
    rcases (htl t).1 ht with q | q
    · rw [q, htp, htu x e] at hlt
      have := h.le x; omega
    · have et : t ≠ p := fun e2 => hpt (e2 ▸ q)
      rw [htu t et, htu x e] at hlt
      rw [hlo t et, hlo x e]
      refine h.l1 x hx' (fun q => hxt ((htl x).2 (.inr q))) t q hlt (fun t' ht' hlt' => ?_)
      have et' : t' ≠ p := fun e2 => hpt (e2 ▸ ht')
      have := hmax t' ((htl t').2 (.inr ht')) (by rw [htu t' et', htu x e]; exact hlt')
      rwa [htu t' et', htu t et] at this
  · intro x hh hx
    obtain ⟨q1, q2⟩ := h.k2 x hh hx
    exact ⟨by rw [htu x (hne x q1)]; exact q1, q2⟩
/-- One arc more was tried. -/
def St.tick (s : St) (a : Nat) : St := { s with tried := up s.tried a (s.tried a + 1) }
theorem Inv.tick (h : Inv nx s) {a q : Nat} (ha : a ∈ s.tl) (hq : (nx a)[s.tried a]? = some q) (hv : s.tu q ≠ 0) (hl : q ∈ s.op → s.lo a ≤ s.tu q) : Inv nx (s.tick a) := by
  have hav := ((h.open_ a).1 (h.sub.subset ha)).1
  have htr : ∀ x, x ≠ a → (s.tick a).tried x = s.tried x := fun x hx => up_ne _ _ hx
  have hta : (s.tick a).tried a = s.tried a + 1 := up_same _ _ _
  refine ⟨h.open_, h.down, h.sub, h.le, h.one, ?_, ?_, ?_, ?_, h.r1, h.r2, h.low, ?_, h.l1, h.k1, h.k2⟩
  · intro x hx hxt
    rw [htr x (fun e => hxt (e ▸ ha))]
    exact h.fin x hx hxt
  · intro x
    by_cases e : x = a
    · subst e
      rw [hta]
      exact (List.getElem?_eq_some_iff.1 hq).1
    · rw [htr x e]; exact h.few x
  · intro x i y hi hy
    by_cases e : x = a
    · subst e
      rw [hta] at hi
      rcases Nat.lt_or_ge i (s.tried x) with g | g
      · exact h.seen x i y g hy
      · obtain rfl : i = s.tried x := by omega
        rw [hq] at hy
        injection hy with hy
        rw [← hy]; exact hv
    · rw [htr x e] at hi; exact h.seen x i y hi hy
  · intro x hx
    have e : x ≠ a := fun e => hav (by rw [← e]; exact hx)
    rw [htr x e]; exact h.new x hx
  · intro x hx i y hi hy hyo
    by_cases e : x = a
    · subst e
      rw [hta] at hi
      rcases Nat.lt_or_ge i (s.tried x) with g | g
      · exact h.l2 x hx i y g hy hyo
      · obtain rfl : i = s.tried x := by omega
        rw [hq] at hy
        injection hy with hy
        rw [← hy] at hyo ⊢
        exact hl hyo
    · rw [htr x e] at hi; exact h.l2 x hx i y hi hy hyo
/-- A low is lowered. -/
def St.lower (s : St) (a v : Nat) : St := { s with lo := up s.lo a v }
theorem Inv.lower (h : Inv nx s) {a v : Nat} (ha : a ∈ s.tl) (hv : v ≤ s.lo a) (hq : ∃ q ∈ s.op, s.tu q = v ∧ Reach nx a q) : Inv nx (s.lower a v) := by
  have hlo : ∀ x, x ≠ a → (s.lower a v).lo x = s.lo x := fun x hx => up_ne _ _ hx
  have hla : (s.lower a v).lo a = v := up_same _ _ _
  have hle : ∀ x, (s.lower a v).lo x ≤ s.lo x := fun x => by
    by_cases e : x = a
    · rw [e, hla]; exact hv
    · rw [hlo x e]; exact Nat.le_refl _
  refine ⟨h.open_, h.down, h.sub, h.le, h.one, h.fin, h.few, h.seen, h.new, h.r1, h.r2, ?_, ?_, ?_, h.k1, h.k2⟩
  · intro x hx
    by_cases e : x = a
    · subst e
      rw [hla]
      exact ⟨Nat.le_trans hv (h.low x hx).1, hq⟩
    · rw [hlo x e]; exact h.low x hx
  · intro x hx i y hi hy hyo
    exact Nat.le_trans (hle x) (h.l2 x hx i y hi hy hyo)
  · intro x hx hxt t ht hlt hmax
    rw [hlo x (fun e => hxt (e ▸ ha))]
    exact Nat.le_trans (hle t) (h.l1 x hx hxt t ht hlt hmax)
/-- Each open place reaches one on the trail that was come to no later. -/
theorem Inv.base (h : Inv nx s) : ∀ (k p : Nat), s.tu p ≤ k → p ∈ s.op → ∃ t ∈ s.tl, s.tu t ≤ s.tu p ∧ Reach nx p t := by
  intro k
  induction k with
  | zero => intro p hk hp; exact absurd (Nat.le_zero.1 hk) ((h.open_ p).1 hp).1
  | succ k ih =>
    intro p hk hp
    by_cases ht : p ∈ s.tl
    · exact ⟨p, ht, Nat.le_refl _, Reach.refl _ _⟩
    · obtain ⟨q, q1, q2, q3⟩ := h.r2 p hp ht
      obtain ⟨t, t1, t2, t3⟩ := ih q (by omega) q1
      exact ⟨t, t1, by omega, q3.trans t3⟩
theorem Inv.top (h : Inv nx s) {a : Nat} {rest : List Nat} (ht : s.tl = a :: rest) : ∀ t ∈ s.tl, s.tu t ≤ s.tu a := by
  have hp : s.tl.Pairwise (fun x y => s.tu y < s.tu x) := h.down.sublist h.sub
  rw [ht] at hp ⊢
  intro t hm
  rcases List.mem_cons.1 hm with e | e
  · rw [e]; exact Nat.le_refl _
  · exact Nat.le_of_lt ((List.pairwise_cons.1 hp).1 t e)
/-- Back to the place before; the low goes with it. -/
def St.back (s : St) (b v : Nat) (rest : List Nat) : St := { s with tl := b :: rest, lo := up s.lo b v }
theorem Inv.back (h : Inv nx s) {a b : Nat} {rest : List Nat} (ht : s.tl = a :: b :: rest) (hf : s.tried a = (nx a).length) (hlt : s.lo a < s.tu a) : Inv nx (s.back b (min (s.lo b) (s.lo a)) rest) := by
  have hpt : s.tl.Pairwise (fun x y => s.tu y < s.tu x) := h.down.sublist h.sub
  rw [ht] at hpt
  obtain ⟨p1, p2⟩ := List.pairwise_cons.1 hpt
  obtain ⟨p3, p4⟩ := List.pairwise_cons.1 p2
  have hao : a ∈ s.op := h.sub.subset (by rw [ht]; simp)
  have hbo : b ∈ s.op := h.sub.subset (by rw [ht]; simp)
  have hat : a ∈ s.tl := by rw [ht]; simp
  have hbt : b ∈ s.tl := by rw [ht]; simp
  have hab : s.tu b < s.tu a := p1 b (by simp)
  have hna : a ∉ (b :: rest) := fun e => by have := p1 a e; omega
  have hmem : ∀ x, x ∈ s.tl ↔ x = a ∨ x ∈ (b :: rest) := fun x => by rw [ht]; exact List.mem_cons
  have hlo : ∀ x, x ≠ b → (s.back b (min (s.lo b) (s.lo a)) rest).lo x = s.lo x := fun x hx => up_ne _ _ hx
  have hlb : (s.back b (min (s.lo b) (s.lo a)) rest).lo b = min (s.lo b) (s.lo a) := up_same _ _ _
  have hle : ∀ x, (s.back b (min (s.lo b) (s.lo a)) rest).lo x ≤ s.lo x := fun x => by
    by_cases e : x = b
    · rw [e, hlb]; exact Nat.min_le_left _ _
    · rw [hlo x e]; exact Nat.le_refl _
  have hba : Reach nx b a := h.r1 b hbt a ((h.open_ a).1 hao).1 (Nat.le_of_lt hab)
  refine ⟨h.open_, h.down, ?_, h.le, h.one, ?_, h.few, h.seen, h.new, ?_, ?_, ?_, ?_, ?_, h.k1, h.k2⟩
  · have := h.sub
    rw [ht] at this
    exact (List.sublist_cons_self a (b :: rest)).trans this
  · intro x hx hxt
    by_cases e : x = a
    · rw [e]; exact hf
    · exact h.fin x hx (fun q => hxt (((hmem x).1 q).resolve_left e))
  · intro t htt x hx hle'
    exact h.r1 t ((hmem t).2 (.inr htt)) x hx hle'
  · intro x hx hxt
    by_cases e : x = a
    · subst e
      obtain ⟨q1, q, q2, q3, q4⟩ := h.low x hx
      exact ⟨q, q2, by rw [show (s.back b (min (s.lo b) (s.lo x)) rest).tu q = s.tu q from rfl, q3]; exact hlt, q4⟩
    · exact h.r2 x hx (fun q => hxt (((hmem x).1 q).resolve_left e))
  · intro x hx
    by_cases e : x = b
    · subst e
      rw [hlb]
      refine ⟨Nat.le_trans (Nat.min_le_left _ _) (h.low x hx).1, ?_⟩
      rcases Nat.le_total (s.lo x) (s.lo a) with g | g
      · rw [Nat.min_eq_left g]; exact (h.low x hx).2
      · rw [Nat.min_eq_right g]
        obtain ⟨q1, q, q2, q3, q4⟩ := h.low a hao
        exact ⟨q, q2, q3, hba.trans q4⟩
    · rw [hlo x e]; exact h.low x hx
  · intro x hx i y hi hy hyo
    exact Nat.le_trans (hle x) (h.l2 x hx i y hi hy hyo)
  · intro x hx hxt t htt hlt' hmax
    have htt' : t ∈ s.tl := (hmem t).2 (.inr htt)
    by_cases e : x = a
    · subst e
      have hxb : x ≠ b := fun e => by rw [e] at hab; omega
      rw [hlo x hxb]
      have h1 := hmax b (by show b ∈ b :: rest; simp) hab
      have h2 : s.tu t ≤ s.tu b := by
        rcases List.mem_cons.1 htt with q | q
        · rw [q]; exact Nat.le_refl _
        · exact Nat.le_of_lt (p3 t q)
      have h1' : s.tu b ≤ s.tu t := h1
      obtain rfl : t = b := h.one t b (by omega) ((h.open_ t).1 (h.sub.subset htt')).1
      rw [hlb]; exact Nat.min_le_right _ _
    · have hxt' : x ∉ s.tl := fun q => hxt (((hmem x).1 q).resolve_left e)
      have hxb : x ≠ b := fun e => hxt (by rw [e]; show b ∈ b :: rest; simp)
      rw [hlo x hxb]
      by_cases hax : s.tu a < s.tu x
      · have h1 : s.lo a ≤ s.lo x := h.l1 x hx hxt' a hat hax (fun t' ht' _ => h.top ht t' ht')
        have h2' : s.tu b ≤ s.tu t := hmax b (by show b ∈ b :: rest; simp) (by show s.tu b < s.tu x; omega)
        have h2 : s.tu t ≤ s.tu b := by
          rcases List.mem_cons.1 htt with q | q
          · rw [q]; exact Nat.le_refl _
          · exact Nat.le_of_lt (p3 t q)
        obtain rfl : t = b := h.one t b (by omega) ((h.open_ t).1 (h.sub.subset htt')).1
        rw [hlb]; exact Nat.le_trans (Nat.min_le_right _ _) h1
      · refine Nat.le_trans (hle t) (h.l1 x hx hxt' t htt' hlt' (fun t' ht' hlt2 => ?_))
        rcases (hmem t').1 ht' with q | q
        · rw [q] at hlt2; exact absurd hlt2 hax
        · exact hmax t' q hlt2
/-- A component is closed: all open places from a on get the head m. -/
def St.shut (s : St) (a m : Nat) (rest op' : List Nat) : St := { s with tl := rest, op := op', hd := fun x => if x ∈ s.op ∧ s.tu a ≤ s.tu x then some m else s.hd x }
theorem Inv.shut (h : Inv nx s) {a m : Nat} {rest op' : List Nat} (ht : s.tl = a :: rest) (hf : s.tried a = (nx a).length) (hla : s.lo a = s.tu a) (hop : ∀ x, x ∈ op' ↔ x ∈ s.op ∧ s.tu x < s.tu a) (hsub : op'.Sublist s.op) (hm1 : m ∈ s.op) (hm2 : s.tu a ≤ s.tu m) (hm3 : ∀ x ∈ s.op, s.tu a ≤ s.tu x → m ≤ x) : Inv nx (s.shut a m rest op') := by
  have hpt : s.tl.Pairwise (fun x y => s.tu y < s.tu x) := h.down.sublist h.sub
  rw [ht] at hpt
  obtain ⟨p1, p2⟩ := List.pairwise_cons.1 hpt
  have hat : a ∈ s.tl := by rw [ht]; simp
  have hao : a ∈ s.op := h.sub.subset hat
  have hmem : ∀ x, x ∈ s.tl ↔ x = a ∨ x ∈ rest := fun x => by rw [ht]; exact List.mem_cons
  have hhd : ∀ x, x ∈ s.op → s.tu a ≤ s.tu x → (s.shut a m rest op').hd x = some m := fun x h1 h2 => if_pos ⟨h1, h2⟩
  have hhn : ∀ x, ¬ (x ∈ s.op ∧ s.tu a ≤ s.tu x) → (s.shut a m rest op').hd x = s.hd x := fun x h1 => if_neg h1
  -- all of the component but a are off the trail, and done
  have hoff : ∀ x, x ∈ s.op → s.tu a ≤ s.tu x → x = a ∨ x ∉ s.tl := fun x h1 h2 => by
    by_cases e : x ∈ s.tl
    · rcases (hmem x).1 e with q | q
      · exact .inl q
      · have := p1 x q; omega
    · exact .inr e
  have hdone : ∀ x, x ∈ s.op → s.tu a ≤ s.tu x → s.tried x = (nx x).length := fun x h1 h2 => by
    rcases hoff x h1 h2 with e | e
    · rw [e]; exact hf
    · exact h.fin x ((h.open_ x).1 h1).1 e
  have hlow : ∀ x, x ∈ s.op → s.tu a ≤ s.tu x → s.tu a ≤ s.lo x := fun x h1 h2 => by
    rcases hoff x h1 h2 with e | e
    · rw [e, hla]; exact Nat.le_refl _
    · have hne : x ≠ a := fun e2 => e (e2 ▸ hat)
      have hlt : s.tu a < s.tu x := by
        rcases Nat.lt_or_eq_of_le h2 with q | q
        · exact q
        · exact absurd (h.one a x q ((h.open_ a).1 hao).1).symm hne
      have := h.l1 x h1 e a hat hlt (fun t' ht' _ => h.top ht t' ht')
      rwa [hla] at this
  -- an arc out of the component leads into it, or to what is closed
  have harc : ∀ x, x ∈ s.op → s.tu a ≤ s.tu x → ∀ q ∈ nx x, (q ∈ s.op ∧ s.tu a ≤ s.tu q) ∨ ∃ h', s.hd q = some h' := fun x h1 h2 q hq => by
    obtain ⟨i, hi⟩ := List.mem_iff_getElem?.1 hq
    have hil : i < s.tried x := by rw [hdone x h1 h2]; exact (List.getElem?_eq_some_iff.1 hi).1
    have hv := h.seen x i q hil hi
    cases e : s.hd q with
    | some h' => exact .inr ⟨h', rfl⟩
    | none =>
      have hqo := (h.open_ q).2 ⟨hv, e⟩
      exact .inl ⟨hqo, Nat.le_trans (hlow x h1 h2) (h.l2 x h1 i q hil hi hqo)⟩
  have hto : ∀ x, x ∈ s.op → s.tu a ≤ s.tu x → Reach nx x a := fun x h1 h2 => by
    obtain ⟨t, t1, t2, t3⟩ := h.base (s.tu x) x (Nat.le_refl _) h1
    exact t3.trans (h.r1 t t1 a ((h.open_ a).1 hao).1 (h.top ht t t1))
  have hfrom : ∀ x, x ∈ s.op → s.tu a ≤ s.tu x → Reach nx a x := fun x h1 h2 => h.r1 a hat x ((h.open_ x).1 h1).1 h2
  have hclosed : ∀ p, (∃ h', s.hd p = some h') → ∀ q, Reach nx p q → ∃ h', s.hd q = some h' := fun p hp q hr => Reach.closed (C := fun x => ∃ h', s.hd x = some h') (fun x ⟨h', hx⟩ => h.k1 x h' hx) hr hp
  have hin : ∀ x, x ∈ s.op → s.tu a ≤ s.tu x → ∀ q, Reach nx x q → Reach nx q x → q ∈ s.op ∧ s.tu a ≤ s.tu q := fun x h1 h2 q hr hb => by
    have hq := Reach.closed (C := fun y => (y ∈ s.op ∧ s.tu a ≤ s.tu y) ∨ ∃ h', s.hd y = some h') (fun y hy z hz => by
      rcases hy with ⟨y1, y2⟩ | ⟨h', y1⟩
      · exact harc y y1 y2 z hz
      · exact .inr (h.k1 y h' y1 z hz)) hr (.inl ⟨h1, h2⟩)
    rcases hq with g | g
    · exact g
    · obtain ⟨h', hx⟩ := hclosed q g x hb
      rw [((h.open_ x).1 h1).2] at hx; cases hx
  refine ⟨?_, h.down.sublist hsub, ?_, h.le, h.one, ?_, h.few, h.seen, ?_, ?_, ?_, ?_, ?_, ?_, ?_, ?_⟩
  · intro x
    show x ∈ op' ↔ _
    rw [hop]
    constructor
    · rintro ⟨h1, h2⟩
      exact ⟨((h.open_ x).1 h1).1, by rw [hhn x (fun g => by omega)]; exact ((h.open_ x).1 h1).2⟩
    · rintro ⟨h1, h2⟩
      by_cases g : x ∈ s.op ∧ s.tu a ≤ s.tu x
      · rw [hhd x g.1 g.2] at h2; cases h2
      · rw [hhn x g] at h2
        have hx := (h.open_ x).2 ⟨h1, h2⟩
        exact ⟨hx, by
          rcases Nat.lt_or_ge (s.tu x) (s.tu a) with q | q
          · exact q
          · exact absurd ⟨hx, q⟩ g⟩
  · -- the trail lies in what is still open
    have hsub2 := h.sub
    rw [ht] at hsub2
    have hrs : rest.Sublist s.op := (List.sublist_cons_self a rest).trans hsub2
    have hfil : ∀ (l l' : List Nat), l.Sublist l' → (l.filter (fun x => decide (s.tu x < s.tu a))).Sublist (l'.filter (fun x => decide (s.tu x < s.tu a))) := fun l l' hh => hh.filter _
    have e1 : rest.filter (fun x => decide (s.tu x < s.tu a)) = rest := List.filter_eq_self.2 (fun x hx => decide_eq_true (p1 x hx))
    have e2 : (s.op.filter (fun x => decide (s.tu x < s.tu a))).Sublist op' := by
      have hd1 : op'.Pairwise (fun x y => s.tu y < s.tu x) := h.down.sublist hsub
      have hd2 : (s.op.filter (fun x => decide (s.tu x < s.tu a))).Pairwise (fun x y => s.tu y < s.tu x) := h.down.filter _
      have : s.op.filter (fun x => decide (s.tu x < s.tu a)) = op' := falling_ext s.tu (fun x y hx hy e => h.one x y e ((h.open_ x).1 (List.mem_filter.1 hx).1).1) hd2 hd1 (fun x => by rw [List.mem_filter, hop]; simp)
      rw [this]; exact List.Sublist.refl _
    have := hfil rest s.op hrs
    rw [e1] at this
    exact this.trans e2
  · intro x hx hxt
    by_cases e : x = a
    · rw [e]; exact hf
    · exact h.fin x hx (fun q => hxt (((hmem x).1 q).resolve_left e))
  · intro x hx
    obtain ⟨q1, q2⟩ := h.new x hx
    exact ⟨q1, by rw [hhn x (fun g => ((h.open_ x).1 g.1).1 hx)]; exact q2⟩
  · intro t htt x hx hle
    exact h.r1 t ((hmem t).2 (.inr htt)) x hx hle
  · intro x hx hxt
    obtain ⟨x1, x2⟩ := (hop x).1 hx
    have hxa : x ≠ a := fun e => by rw [e] at x2; omega
    obtain ⟨q, q1, q2, q3⟩ := h.r2 x x1 (fun q => hxt (((hmem x).1 q).resolve_left hxa))
    have q2' : s.tu q < s.tu x := q2
    exact ⟨q, (hop q).2 ⟨q1, by omega⟩, q2, q3⟩
  · intro x hx
    obtain ⟨x1, x2⟩ := (hop x).1 hx
    obtain ⟨q1, q, q2, q3, q4⟩ := h.low x x1
    exact ⟨q1, q, (hop q).2 ⟨q2, by omega⟩, q3, q4⟩
  · intro x hx i y hi hy hyo
    exact h.l2 x ((hop x).1 hx).1 i y hi hy ((hop y).1 hyo).1
  · intro x hx hxt t htt hlt hmax
    obtain ⟨x1, x2⟩ := (hop x).1 hx
    have hxa : x ≠ a := fun e => by rw [e] at x2; omega
    refine h.l1 x x1 (fun q => hxt (((hmem x).1 q).resolve_left hxa)) t ((hmem t).2 (.inr htt)) hlt (fun t' ht' hlt' => ?_)
    rcases (hmem t').1 ht' with q | q
    · rw [q] at hlt'; omega
    · exact hmax t' q hlt'
  · intro x hh hx q hq
    by_cases g : x ∈ s.op ∧ s.tu a ≤ s.tu x
    · rcases harc x g.1 g.2 q hq with ⟨q1, q2⟩ | ⟨h', q1⟩
      · exact ⟨m, hhd q q1 q2⟩
      · exact ⟨h', by rw [hhn q (fun g2 => by rw [((h.open_ q).1 g2.1).2] at q1; cases q1)]; exact q1⟩
    · rw [hhn x g] at hx
      obtain ⟨h', q1⟩ := h.k1 x hh hx q hq
      exact ⟨h', by rw [hhn q (fun g2 => by rw [((h.open_ q).1 g2.1).2] at q1; cases q1)]; exact q1⟩
  · intro x hh hx
    by_cases g : x ∈ s.op ∧ s.tu a ≤ s.tu x
    · rw [hhd x g.1 g.2] at hx
      injection hx with hx
      subst hx
      refine ⟨((h.open_ x).1 g.1).1, fun q hr hb => ?_, (hto x g.1 g.2).trans (hfrom m hm1 hm2), (hto m hm1 hm2).trans (hfrom x g.1 g.2)⟩
      obtain ⟨q1, q2⟩ := hin x g.1 g.2 q hr hb
      exact hm3 q q1 q2
    · rw [hhn x g] at hx
      exact h.k2 x hh hx
/-- When the trail is gone nothing is open. -/
theorem Inv.none_open (h : Inv nx s) (ht : s.tl = []) : s.op = [] := by
  cases e : s.op with
  | nil => rfl
  | cons p l =>
    obtain ⟨t, t1, -⟩ := h.base (s.tu p) p (Nat.le_refl _) (by rw [e]; simp)
    rw [ht] at t1; cases t1
/-- At the end: each place that was come to has the least place of its component for its head. -/
theorem Inv.heads (h : Inv nx s) (ht : s.tl = []) {p : Nat} (hp : s.tu p ≠ 0) : ∃ m, s.hd p = some m ∧ Reach nx p m ∧ Reach nx m p ∧ ∀ q, Reach nx p q → Reach nx q p → m ≤ q := by
  cases e : s.hd p with
  | none =>
    have := (h.open_ p).2 ⟨hp, e⟩
    rw [h.none_open ht] at this; cases this
  | some m =>
    obtain ⟨-, q2, q3, q4⟩ := h.k2 p m e
    exact ⟨m, rfl, q3, q4, q2⟩
end
end T9
end

section
namespace T9
section
variable {nx : Nat → List Nat} {s : St}
/-- The open places stand by their turns: so they fall apart at any of them. -/
theorem Inv.split (h : Inv nx s) {a : Nat} {l1 op' : List Nat} (e : s.op = l1 ++ a :: op') : (∀ x, x ∈ op' ↔ x ∈ s.op ∧ s.tu x < s.tu a) ∧ (∀ x, x ∈ l1 ++ [a] ↔ x ∈ s.op ∧ s.tu a ≤ s.tu x) := by
  have hd := h.down
  rw [e, List.pairwise_append] at hd
  obtain ⟨-, hd2, hd3⟩ := hd
  rw [List.pairwise_cons] at hd2
  have g1 : ∀ x ∈ l1, s.tu a < s.tu x := fun x hx => hd3 x hx a (by simp)
  have g2 : ∀ x ∈ op', s.tu x < s.tu a := hd2.1
  constructor
  · intro x
    rw [e]
    constructor
    · intro hx; exact ⟨by simp [hx], g2 x hx⟩
    · rintro ⟨hx, hl⟩
      rcases List.mem_append.1 hx with q | q
      · have := g1 x q; omega
      · rcases List.mem_cons.1 q with q | q
        · rw [q] at hl; omega
        · exact q
  · intro x
    rw [e]
    constructor
    · intro hx
      rcases List.mem_append.1 hx with q | q
      · exact ⟨by simp [q], by have := g1 x q; omega⟩
      · rw [List.mem_singleton] at q; rw [q]; exact ⟨by simp, Nat.le_refl _⟩
    · rintro ⟨hx, hl⟩
      rcases List.mem_append.1 hx with q | q
      · exact List.mem_append.2 (.inl q)
      · rcases List.mem_cons.1 q with q | q
        · exact List.mem_append.2 (.inr (by rw [q]; simp))
        · have := g2 x q; omega
/-- A component closed as the program does it. -/
def St.close (s : St) (m : Nat) (rest cl op' : List Nat) : St := { s with tl := rest, op := op', hd := fun x => if x ∈ cl then some m else s.hd x }
theorem Inv.close (h : Inv nx s) {a m : Nat} {rest l1 op' : List Nat} (ht : s.tl = a :: rest) (hf : s.tried a = (nx a).length) (hla : s.lo a = s.tu a) (e : s.op = l1 ++ a :: op') (hm : m ∈ l1 ++ [a]) (hl : ∀ x ∈ l1 ++ [a], m ≤ x) : Inv nx (s.close m rest (l1 ++ [a]) op') := by
  obtain ⟨g1, g2⟩ := h.split e
  obtain ⟨m1, m2⟩ := (g2 m).1 hm
  have := h.shut (m := m) (op' := op') ht hf hla g1 (by rw [e]; exact ((List.sublist_cons_self a op').trans (List.sublist_append_right l1 _))) m1 m2 (fun x hx hy => hl x ((g2 x).2 ⟨hx, hy⟩))
  have ee : s.close m rest (l1 ++ [a]) op' = s.shut a m rest op' := by
    unfold St.close St.shut
    congr 1
    funext x
    by_cases q : x ∈ l1 ++ [a]
    · rw [if_pos q, if_pos ((g2 x).1 q)]
    · rw [if_neg q, if_neg (fun w => q ((g2 x).2 w))]
  rw [ee]; exact this
/-- The first of a trail is never left with a lower low. -/
theorem Inv.first (h : Inv nx s) {a : Nat} (ht : s.tl = [a]) : s.lo a = s.tu a := by
  have ha : a ∈ s.op := h.sub.subset (by rw [ht]; simp)
  obtain ⟨q1, q, hq, hq2, -⟩ := h.low a ha
  obtain ⟨t, t1, t2, -⟩ := h.base (s.tu q) q (Nat.le_refl _) hq
  rw [ht, List.mem_singleton] at t1
  rw [t1] at t2; omega
/-- An arc tried that leads to a place not yet come to. -/
theorem Inv.tryNew (h : Inv nx s) {a q : Nat} {rest : List Nat} (ht : s.tl = a :: rest) (hq : (nx a)[s.tried a]? = some q) (hv : s.tu q = 0) : Inv nx ((s.tick a).enter q) := by
  have ha : a ∈ s.tl := by rw [ht]; simp
  have hao : a ∈ s.op := h.sub.subset ha
  have hne : a ≠ q := fun e => ((h.open_ a).1 hao).1 (by rw [e]; exact hv)
  have hmem : q ∈ nx a := List.mem_of_getElem? hq
  have hr : ∀ t ∈ s.tl, Reach nx t q := fun t hx => (h.r1 t hx a ((h.open_ a).1 hao).1 (h.top ht t hx)).trans (Reach.arc hmem)
  have h1 := h.enter hv hr
  have h2 := h1.tick (a := a) (q := q) (by show a ∈ q :: s.tl; simp [ha]) hq (by show up s.tu q (s.turn + 1) q ≠ 0; rw [up_same]; omega) (by
    intro _
    show up s.lo q (s.turn + 1) a ≤ up s.tu q (s.turn + 1) q
    rw [up_ne _ _ hne, up_same]
    have := (h.low a hao).1
    have := h.le a
    omega)
  exact h2
/-- An arc tried that leads to an open place. -/
theorem Inv.tryOpen (h : Inv nx s) {a q : Nat} {rest : List Nat} (ht : s.tl = a :: rest) (hq : (nx a)[s.tried a]? = some q) (hv : s.tu q ≠ 0) (hn : s.hd q = none) : Inv nx ((s.tick a).lower a (min (s.lo a) (s.tu q))) := by
  have ha : a ∈ s.tl := by rw [ht]; simp
  have hao : a ∈ s.op := h.sub.subset ha
  have hqo : q ∈ s.op := (h.open_ q).2 ⟨hv, hn⟩
  have hmem : q ∈ nx a := List.mem_of_getElem? hq
  have h1 : Inv nx (s.lower a (min (s.lo a) (s.tu q))) := by
    refine h.lower ha (Nat.min_le_left _ _) ?_
    by_cases c : s.lo a ≤ s.tu q
    · obtain ⟨-, q', g1, g2, g3⟩ := h.low a hao
      exact ⟨q', g1, by rw [g2, Nat.min_eq_left c], g3⟩
    · exact ⟨q, hqo, by rw [Nat.min_eq_right (by omega)], Reach.arc hmem⟩
  exact h1.tick (a := a) (q := q) ha hq hv (by
    intro _
    show up s.lo a (min (s.lo a) (s.tu q)) a ≤ s.tu q
    rw [up_same]; exact Nat.min_le_right _ _)
/-- An arc tried that leads to a place of a closed component. -/
theorem Inv.tryShut (h : Inv nx s) {a q : Nat} {rest : List Nat} (ht : s.tl = a :: rest) (hq : (nx a)[s.tried a]? = some q) (hv : s.tu q ≠ 0) (hn : s.hd q ≠ none) : Inv nx (s.tick a) :=
  h.tick (a := a) (q := q) (by rw [ht]; simp) hq hv (fun w => absurd ((h.open_ q).1 w).2 hn)
/-- A place left for the one before it. -/
theorem Inv.leave (h : Inv nx s) {a b : Nat} {rest : List Nat} (ht : s.tl = a :: b :: rest) (hf : s.tried a = (nx a).length) (hne : s.lo a ≠ s.tu a) : Inv nx (s.back b (min (s.lo b) (s.lo a)) rest) :=
  h.back ht hf (by have := (h.low a (h.sub.subset (by rw [ht]; simp))).1; omega)

/-- Sums over the first places. -/
def sumN (f : Nat → Nat) : Nat → Nat
  | 0 => 0
  | n + 1 => sumN f n + f n
theorem sumN_congr {f g : Nat → Nat} : ∀ {n : Nat}, (∀ x < n, f x = g x) → sumN f n = sumN g n
  | 0, _ => rfl
  | n + 1, h => by
    show sumN f n + f n = sumN g n + g n
    rw [sumN_congr (fun x hx => h x (by omega)), h n (by omega)]
theorem sumN_one {f g : Nat → Nat} {a : Nat} (d : Nat) : ∀ {n : Nat}, a < n → (∀ x < n, x ≠ a → f x = g x) → f a + d = g a → sumN f n + d = sumN g n
  | 0, h, _, _ => by omega
  | n + 1, h, hx, ha => by
    show sumN f n + f n + d = sumN g n + g n
    by_cases e : a = n
    · rw [sumN_congr (f := f) (g := g) (fun x hx' => hx x (by omega) (by omega)), ← e]; omega
    · have := sumN_one d (n := n) (by omega) (fun x hx' => hx x (by omega)) ha
      have := hx n (by omega) (by omega)
      omega
/-- How many places were not come to; how many arcs are to be tried; what is left to do. -/
def St.unseen (s : St) (n : Nat) : Nat := sumN (fun x => if s.tu x = 0 then 1 else 0) n
def St.arcs (nx : Nat → List Nat) (s : St) (n : Nat) : Nat := sumN (fun x => (nx x).length - s.tried x) n
def St.todo (nx : Nat → List Nat) (s : St) (n : Nat) : Nat := s.arcs nx n + 2 * s.unseen n + s.tl.length
theorem unseen_enter {n p : Nat} (hp : p < n) (hv : s.tu p = 0) : (s.enter p).unseen n + 1 = s.unseen n := by
  refine sumN_one 1 hp (fun x _ hne => ?_) ?_
  · show (if up s.tu p (s.turn + 1) x = 0 then 1 else 0) = _
    rw [up_ne _ _ hne]
  · show (if up s.tu p (s.turn + 1) p = 0 then 1 else 0) + 1 = (if s.tu p = 0 then 1 else 0)
    rw [up_same, if_pos hv, if_neg (by omega)]
theorem arcs_tick {n a : Nat} (ha : a < n) (hl : s.tried a < (nx a).length) : (s.tick a).arcs nx n + 1 = s.arcs nx n := by
  refine sumN_one 1 ha (fun x _ hne => ?_) ?_
  · show (nx x).length - up s.tried a (s.tried a + 1) x = _
    rw [up_ne _ _ hne]
  · show (nx a).length - up s.tried a (s.tried a + 1) a + 1 = (nx a).length - s.tried a
    rw [up_same]; omega
theorem todo_enter {n p : Nat} (hp : p < n) (hv : s.tu p = 0) : (s.enter p).todo nx n + 1 = s.todo nx n := by
  have h1 := unseen_enter (s := s) hp hv
  show s.arcs nx n + 2 * (s.enter p).unseen n + (s.tl.length + 1) + 1 = s.arcs nx n + 2 * s.unseen n + s.tl.length
  omega
theorem todo_tick {n a : Nat} (ha : a < n) (hl : s.tried a < (nx a).length) : (s.tick a).todo nx n + 1 = s.todo nx n := by
  have h1 := arcs_tick (s := s) ha hl
  show (s.tick a).arcs nx n + 2 * s.unseen n + s.tl.length + 1 = s.arcs nx n + 2 * s.unseen n + s.tl.length
  omega
theorem todo_lower {n a v : Nat} : (s.lower a v).todo nx n = s.todo nx n := rfl
theorem todo_back {n a b v : Nat} {rest : List Nat} (ht : s.tl = a :: b :: rest) : (s.back b v rest).todo nx n + 1 = s.todo nx n := by
  show s.arcs nx n + 2 * s.unseen n + (b :: rest).length + 1 = s.arcs nx n + 2 * s.unseen n + s.tl.length
  rw [ht]; simp only [List.length_cons]; omega
theorem todo_close {n a m : Nat} {rest cl op' : List Nat} (ht : s.tl = a :: rest) : (s.close m rest cl op').todo nx n + 1 = s.todo nx n := by
  show s.arcs nx n + 2 * s.unseen n + rest.length + 1 = s.arcs nx n + 2 * s.unseen n + s.tl.length
  rw [ht]; simp only [List.length_cons]; omega
/-- Turns count what was come to. -/
def St.Cnt (s : St) (n : Nat) : Prop := s.turn + s.unseen n = n ∧ ∀ p, s.tu p ≠ 0 → p < n
theorem cnt_start (n : Nat) : St.start.Cnt n := by
  refine ⟨?_, fun p hp => absurd rfl hp⟩
  show 0 + sumN (fun _ => if (0 : Nat) = 0 then 1 else 0) n = n
  rw [Nat.zero_add]
  induction n with
  | zero => rfl
  | succ n ih => show sumN _ n + _ = n + 1; rw [ih]; rfl
theorem cnt_enter {n p : Nat} (h : s.Cnt n) (hp : p < n) (hv : s.tu p = 0) : (s.enter p).Cnt n := by
  have h1 := unseen_enter (s := s) hp hv
  obtain ⟨h2, h3⟩ := h
  refine ⟨?_, fun x hx => ?_⟩
  · show s.turn + 1 + (s.enter p).unseen n = n; omega
  · by_cases e : x = p
    · rw [e]; exact hp
    · exact h3 x (by have hx' : up s.tu p (s.turn + 1) x ≠ 0 := hx; rwa [up_ne _ _ e] at hx')
theorem Inv.opened (h : Inv nx s) {n : Nat} (hc : s.Cnt n) : ∀ p ∈ s.op, p < n := fun p hp => hc.2 p ((h.open_ p).1 hp).1
theorem Inv.trailed (h : Inv nx s) {n : Nat} (hc : s.Cnt n) : ∀ p ∈ s.tl, p < n := fun p hp => h.opened hc p (h.sub.subset hp)
/-- Neither the open places nor the trail are more than what was come to. -/
theorem Inv.fewOpen (h : Inv nx s) : s.op.length ≤ s.turn ∧ s.tl.length ≤ s.op.length := by
  refine ⟨?_, h.sub.length_le⟩
  have key : ∀ (l : List Nat) (k : Nat), l.Pairwise (fun x y => s.tu y < s.tu x) → (∀ x ∈ l, s.tu x ≤ k ∧ s.tu x ≠ 0) → l.length ≤ k := by
    intro l
    induction l with
    | nil => intro k _ _; exact Nat.zero_le _
    | cons x l ih =>
      intro k hp hk
      rw [List.pairwise_cons] at hp
      obtain ⟨q1, q2⟩ := hk x (by simp)
      have := ih (s.tu x - 1) hp.2 (fun y hy => ⟨by have := hp.1 y hy; omega, (hk y (by simp [hy])).2⟩)
      simp only [List.length_cons]; omega
  exact key s.op s.turn h.down (fun x hx => ⟨h.le x, ((h.open_ x).1 hx).1⟩)
end
end T9
end

section
namespace T9
/-- The heads among the first k places, rising. -/
def headsTo (h : Nat → Nat) (k : Nat) : List Nat := (List.range k).filter (fun p => decide (h p = p))
/-- Of the first k places, those with this head, rising. -/
def partTo (h : Nat → Nat) (k m : Nat) : List Nat := (List.range k).filter (fun p => decide (h p = m))
def compsTo (h : Nat → Nat) (k : Nat) : List (List Nat) := (headsTo h k).map (partTo h k)
section
variable {h : Nat → Nat}
theorem headsTo_new {k : Nat} (hk : h k = k) : headsTo h (k + 1) = headsTo h k ++ [k] := by
  unfold headsTo; rw [List.range_succ, List.filter_append]; simp [hk]
theorem headsTo_old {k : Nat} (hk : h k ≠ k) : headsTo h (k + 1) = headsTo h k := by
  unfold headsTo; rw [List.range_succ, List.filter_append]; simp [hk]
theorem partTo_in {k m : Nat} (hk : h k = m) : partTo h (k + 1) m = partTo h k m ++ [k] := by
  unfold partTo; rw [List.range_succ, List.filter_append]; simp [hk]
theorem partTo_out {k m : Nat} (hk : h k ≠ m) : partTo h (k + 1) m = partTo h k m := by
  unfold partTo; rw [List.range_succ, List.filter_append]; simp [hk]
theorem mem_headsTo {k m : Nat} : m ∈ headsTo h k ↔ m < k ∧ h m = m := by
  unfold headsTo; rw [List.mem_filter, List.mem_range]; simp
theorem mem_partTo {k m p : Nat} : p ∈ partTo h k m ↔ p < k ∧ h p = m := by
  unfold partTo; rw [List.mem_filter, List.mem_range]; simp
/-- A place that is a head opens a list of its own. -/
theorem compsTo_new (hle : ∀ p, h p ≤ p) {k : Nat} (hk : h k = k) : compsTo h (k + 1) = compsTo h k ++ [[k]] := by
  unfold compsTo
  rw [headsTo_new hk, List.map_append]
  congr 1
  · refine List.map_congr_left (fun m hm => partTo_out ?_)
    have := (mem_headsTo.1 hm).1
    omega
  · show [partTo h (k + 1) k] = [[k]]
    have : partTo h k k = [] := by
      refine List.filter_eq_nil_iff.2 (fun p hp => ?_)
      have := List.mem_range.1 hp
      have := hle p
      simp; omega
    rw [partTo_in hk, this]; rfl
/-- Where a head stands among the heads. -/
theorem headsTo_split {k m : Nat} (hm : m < k) (hh : h m = m) : ∃ t, headsTo h k = headsTo h m ++ m :: t ∧ ∀ x ∈ t, m < x := by
  have e : List.range k = List.range m ++ (List.range (k - m)).map (m + ·) := by
    rw [← List.range_add]; congr 1; omega
  obtain ⟨j, hj⟩ : ∃ j, k - m = j + 1 := ⟨k - m - 1, by omega⟩
  rw [hj, List.range_succ_eq_map] at e
  refine ⟨(((List.range j).map Nat.succ).map (m + ·)).filter (fun p => decide (h p = p)), ?_, ?_⟩
  · unfold headsTo
    rw [e, List.filter_append, List.map_cons, List.filter_cons, if_pos (by simp [hh])]
    rfl
  · intro x hx
    have := (List.mem_filter.1 hx).1
    simp only [List.mem_map, List.mem_range] at this
    obtain ⟨a, ⟨b, -, rfl⟩, rfl⟩ := this
    omega
/-- Any other place goes to the end of its head's list. -/
theorem compsTo_old (hle : ∀ p, h p ≤ p) {k : Nat} (hk : h k ≠ k) (hh : h (h k) = h k) : ∃ l1 l2, compsTo h k = l1 ++ partTo h k (h k) :: l2 ∧ l1.length = (headsTo h (h k)).length ∧ compsTo h (k + 1) = l1 ++ (partTo h k (h k) ++ [k]) :: l2 := by
  have hm : h k < k := by have := hle k; omega
  obtain ⟨t, ht, hgt⟩ := headsTo_split hm hh
  refine ⟨(headsTo h (h k)).map (partTo h k), t.map (partTo h k), ?_, by rw [List.length_map], ?_⟩
  · unfold compsTo; rw [ht, List.map_append, List.map_cons]
  · unfold compsTo
    rw [headsTo_old hk, ht, List.map_append, List.map_cons, partTo_in rfl]
    congr 1
    · refine List.map_congr_left (fun m hm' => partTo_out ?_)
      have := (mem_headsTo.1 hm').1
      omega
    · congr 1
      refine List.map_congr_left (fun m hm' => partTo_out ?_)
      have := hgt m hm'
      omega
theorem compsTo_length (h : Nat → Nat) (k : Nat) : (compsTo h k).length = (headsTo h k).length := List.length_map _
end
/-- What a head function is, of a graph's components. -/
def Heads (nx : Nat → List Nat) (n : Nat) (h : Nat → Nat) : Prop := ∀ p < n, Reach nx p (h p) ∧ Reach nx (h p) p ∧ ∀ q, Reach nx p q → Reach nx q p → h p ≤ q
section
variable {nx : Nat → List Nat} {n : Nat} {h : Nat → Nat}
theorem Heads.le (H : Heads nx n h) {p : Nat} (hp : p < n) : h p ≤ p := (H p hp).2.2 p (Reach.refl nx p) (Reach.refl nx p)
theorem Heads.lt (H : Heads nx n h) {p : Nat} (hp : p < n) : h p < n := Nat.lt_of_le_of_lt (H.le hp) hp
/-- Two places have one head just if each reaches the other. -/
theorem Heads.same (H : Heads nx n h) {p q : Nat} (hp : p < n) (hq : q < n) : h p = h q ↔ Reach nx p q ∧ Reach nx q p := by
  obtain ⟨a1, a2, a3⟩ := H p hp
  obtain ⟨b1, b2, b3⟩ := H q hq
  constructor
  · intro e
    rw [e] at a1 a2
    exact ⟨a1.trans b2, b1.trans a2⟩
  · rintro ⟨c1, c2⟩
    exact Nat.le_antisymm (a3 _ (c1.trans b1) (b2.trans c2)) (b3 _ (c2.trans a1) (a2.trans c1))
theorem Heads.idem (H : Heads nx n h) {p : Nat} (hp : p < n) : h (h p) = h p := by
  obtain ⟨a1, a2, -⟩ := H p hp
  exact (H.same (H.lt hp) hp).2 ⟨a2, a1⟩
/-- Heads are heads of any arcs that lead as far. -/
theorem Heads.ext (H : Heads nx n h) {nx' : Nat → List Nat} {h' : Nat → Nat} (H' : Heads nx' n h') (he : ∀ p q, p < n → q < n → ((Reach nx p q ∧ Reach nx q p) ↔ (Reach nx' p q ∧ Reach nx' q p))) : ∀ p < n, h p = h' p := by
  intro p hp
  obtain ⟨a1, a2, a3⟩ := H p hp
  obtain ⟨b1, b2, b3⟩ := H' p hp
  obtain ⟨c1, c2⟩ := (he p _ hp (H.lt hp)).1 ⟨a1, a2⟩
  obtain ⟨d1, d2⟩ := (he p _ hp (H'.lt hp)).2 ⟨b1, b2⟩
  exact Nat.le_antisymm (a3 _ d1 d2) (b3 _ c1 c2)
/-- What the search tells when it has come to all. -/
theorem Inv.done {s : St} (H : Inv nx s) (ht : s.tl = []) (hv : ∀ p < n, s.tu p ≠ 0) {h : Nat → Nat} (hh : ∀ p < n, s.hd p = some (h p)) : Heads nx n h := by
  intro p hp
  obtain ⟨m, e, a1, a2, a3⟩ := H.heads ht (hv p hp)
  rw [hh p hp] at e
  have e := Option.some.inj e
  rw [e]; exact ⟨a1, a2, a3⟩
end
end T9
end

section
open Classical in
namespace T9
theorem countP_strict {p q : Nat → Bool} : ∀ {l : List Nat}, (∀ x, p x = true → q x = true) → (∃ x ∈ l, q x = true ∧ p x = false) → l.countP p < l.countP q
  | [], _, ⟨_, hx, _⟩ => by cases hx
  | y :: l, h, ⟨x, hx, hq, hp⟩ => by
    have mono : l.countP p ≤ l.countP q := List.countP_mono_left (fun x _ => h x)
    rw [List.countP_cons, List.countP_cons]
    rcases List.mem_cons.1 hx with e | e
    · rw [← e, hq, hp]; simp; omega
    · have ih := countP_strict (l := l) h ⟨x, e, hq, hp⟩
      by_cases c : p y = true
      · rw [c, h y c]; simp; omega
      · have c' : p y = false := by simpa using c
        rw [c']; simp; omega
/-- Free: of those to be told, not told, and no arc leads into it from one not told. -/
def Free (hs : List Nat) (ar : List (Nat × Nat)) (told : List Nat) (m : Nat) : Prop := m ∈ hs ∧ m ∉ told ∧ ∀ u, (u, m) ∈ ar → u ∈ told
/-- Arcs between heads: each is one arc on, and none comes back. -/
def Onward (hs : List Nat) (ar : List (Nat × Nat)) (R : Nat → Nat → Prop) : Prop := (∀ x y z, R x y → R y z → R x z) ∧ (∀ x, R x x) ∧ ∀ u v, (u, v) ∈ ar → u ∈ hs ∧ v ∈ hs ∧ R u v ∧ ¬ R v u
section
variable {hs : List Nat} {ar : List (Nat × Nat)} {R : Nat → Nat → Prop}
/-- While some aren't told, one is free. -/
theorem Onward.free (H : Onward hs ar R) {told : List Nat} (hx : ∃ m ∈ hs, m ∉ told) : ∃ m, Free hs ar told m := by
  obtain ⟨tr, rf, ho⟩ := H
  obtain ⟨m, hm, hn⟩ := hx
  have key : ∀ (k m : Nat), hs.countP (fun x => decide (R x m)) ≤ k → m ∈ hs → m ∉ told → ∃ m, Free hs ar told m := by
    intro k
    induction k with
    | zero =>
      intro m hc hm hn
      have := (List.countP_pos_iff (p := fun x => decide (R x m)) (l := hs)).2 ⟨m, hm, by simp [rf m]⟩
      omega
    | succ k ih =>
      intro m hc hm hn
      by_cases c : ∀ u, (u, m) ∈ ar → u ∈ told
      · exact ⟨m, hm, hn, c⟩
      · have ⟨u, hu⟩ := Classical.not_forall.1 c
        have ⟨hu1, hu2⟩ := Classical.not_imp.1 hu
        obtain ⟨o1, o2, o3, o4⟩ := ho u m hu1
        refine ih u ?_ o1 hu2
        have := countP_strict (l := hs) (p := fun x => decide (R x u)) (q := fun x => decide (R x m)) (fun x h => by simp only [decide_eq_true_eq] at h ⊢; exact tr _ _ _ h o3) ⟨m, o2, by simp [rf m], by simp [o4]⟩
        omega
  exact key _ m (Nat.le_refl _) hm hn
/-- How many arcs lead into it from what isn't told. -/
def waits (ar : List (Nat × Nat)) (told : List Nat) (m : Nat) : Nat := ar.countP (fun a => decide (a.2 = m ∧ a.1 ∉ told))
theorem waits_zero {told : List Nat} {m : Nat} : waits ar told m = 0 ↔ ∀ u, (u, m) ∈ ar → u ∈ told := by
  unfold waits
  rw [List.countP_eq_zero]
  constructor
  · intro h u hu
    have := h (u, m) hu
    simpa using this
  · rintro h ⟨u, v⟩ hu
    simp only [decide_eq_true_eq, not_and, Classical.not_not]
    intro e; subst e; exact h u hu
/-- One more told: those to which arcs lead from it wait for so many less. -/
theorem waits_tell {told : List Nat} {u m : Nat} (hu : u ∉ told) : waits ar (told ++ [u]) m + ar.countP (fun a => decide (a = (u, m))) = waits ar told m := by
  unfold waits
  induction ar with
  | nil => rfl
  | cons a l ih =>
    obtain ⟨x, y⟩ := a
    rw [List.countP_cons, List.countP_cons, List.countP_cons]
    by_cases e1 : y = m
    · by_cases e2 : x = u
      · subst e1; subst e2; simp [hu] at ih ⊢; omega
      · subst e1; simp [e2] at ih ⊢; omega
    · simp [e1] at ih ⊢; omega
/-- What is told, the latest first: the least free one comes next. -/
def ToldR (hs : List Nat) (ar : List (Nat × Nat)) : List Nat → Prop
  | [] => True
  | m :: r => ToldR hs ar r ∧ Free hs ar r.reverse m ∧ ∀ x, Free hs ar r.reverse x → m ≤ x
/-- .. and in its order. -/
def Told (hs : List Nat) (ar : List (Nat × Nat)) (T : List Nat) : Prop := ToldR hs ar T.reverse
theorem Told.nil : Told hs ar [] := trivial
theorem Told.next {told : List Nat} {m : Nat} (h : Told hs ar told) (hf : Free hs ar told m) (hl : ∀ x, Free hs ar told x → m ≤ x) : Told hs ar (told ++ [m]) := by
  unfold Told
  rw [show (told ++ [m]).reverse = m :: told.reverse by simp]
  refine ⟨h, ?_, ?_⟩
  · rw [List.reverse_reverse]; exact hf
  · rw [List.reverse_reverse]; exact hl
theorem Told.ind {P : List Nat → Prop} (h0 : P []) (h1 : ∀ (told : List Nat) (m : Nat), Told hs ar told → Free hs ar told m → (∀ x, Free hs ar told x → m ≤ x) → P told → P (told ++ [m])) {T : List Nat} (h : Told hs ar T) : P T := by
  have key : ∀ r : List Nat, ToldR hs ar r → P r.reverse := by
    intro r
    induction r with
    | nil => intro _; exact h0
    | cons m r ih =>
      rintro ⟨a, b, c⟩
      rw [List.reverse_cons]
      exact h1 r.reverse m (by unfold Told; rw [List.reverse_reverse]; exact a) b c (ih a)
  have := key T.reverse h
  rwa [List.reverse_reverse] at this
theorem Told.cases {T : List Nat} (h : Told hs ar T) : T = [] ∨ ∃ told m, T = told ++ [m] ∧ Told hs ar told ∧ Free hs ar told m ∧ ∀ x, Free hs ar told x → m ≤ x :=
  Told.ind (P := fun T => T = [] ∨ ∃ told m, T = told ++ [m] ∧ Told hs ar told ∧ Free hs ar told m ∧ ∀ x, Free hs ar told x → m ≤ x) (.inl rfl) (fun told m a b c _ => .inr ⟨told, m, rfl, a, b, c⟩) h
theorem Told.nodup {told : List Nat} (h : Told hs ar told) : told.Nodup ∧ ∀ x ∈ told, x ∈ hs := by
  refine Told.ind (P := fun told => told.Nodup ∧ ∀ x ∈ told, x ∈ hs) ⟨List.nodup_nil, fun x hx => by cases hx⟩ (fun told m h hf _ ih => ?_) h
  refine ⟨List.nodup_append.2 ⟨ih.1, List.nodup_cons.2 ⟨by simp, List.nodup_nil⟩, ?_⟩, ?_⟩
  · intro a ha b hb e
    rw [List.mem_singleton] at hb
    exact hf.2.1 (by rw [← hb, ← e]; exact ha)
  · intro x hx
    rcases List.mem_append.1 hx with q | q
    · exact ih.2 x q
    · rw [List.mem_singleton] at q; rw [q]; exact hf.1
/-- Two that tell as many tell the same. -/
theorem Told.one {a : List Nat} (h : Told hs ar a) : ∀ {b : List Nat}, Told hs ar b → a.length = b.length → a = b := by
  refine Told.ind (P := fun a => ∀ {b : List Nat}, Told hs ar b → a.length = b.length → a = b) ?_ (fun told m h hf hl ih => ?_) h
  · intro b hb e
    exact (List.eq_nil_of_length_eq_zero e.symm).symm
  · intro b hb e
    rcases hb.cases with rfl | ⟨told', m', rfl, hb', hf', hl'⟩
    · simp at e
    · have e' := ih hb' (by simpa using e)
      subst e'
      rw [Nat.le_antisymm (hl _ hf') (hl' _ hf)]
/-- An arc's beginning is told ahead of its end. -/
theorem Told.ahead {told : List Nat} (h : Told hs ar told) : ∀ u v, (u, v) ∈ ar → v ∈ told → ∃ l1 l2, told = l1 ++ v :: l2 ∧ u ∈ l1 := by
  refine Told.ind (P := fun told => ∀ u v, (u, v) ∈ ar → v ∈ told → ∃ l1 l2, told = l1 ++ v :: l2 ∧ u ∈ l1) (fun u v _ hv => by cases hv) (fun told m h hf hl ih => ?_) h
  intro u v ha hv
  rcases List.mem_append.1 hv with q | q
  · obtain ⟨l1, l2, e, hu⟩ := ih u v ha q
    exact ⟨l1, l2 ++ [m], by rw [e]; simp, hu⟩
  · rw [List.mem_singleton] at q
    rw [q] at ha ⊢
    exact ⟨told, [], rfl, hf.2.2 u ha⟩
/-- When none is free all are told. -/
theorem Onward.all (H : Onward hs ar R) {told : List Nat} (hn : ∀ m, ¬ Free hs ar told m) : ∀ m ∈ hs, m ∈ told := by
  intro m hm
  by_cases c : m ∈ told
  · exact c
  · obtain ⟨x, hx⟩ := H.free ⟨m, hm, c⟩
    exact absurd hx (hn x)
end
/-- The arcs between heads: of each place's arcs those that leave its component. -/
def arcsOf (h : Nat → Nat) (nx : Nat → List Nat) (n : Nat) : List (Nat × Nat) := (List.range n).flatMap (fun p => ((nx p).map (fun q => (h p, h q))).filter (fun a => decide (a.1 ≠ a.2)))
theorem mem_arcsOf {h : Nat → Nat} {nx : Nat → List Nat} {n u v : Nat} : (u, v) ∈ arcsOf h nx n ↔ u ≠ v ∧ ∃ p < n, ∃ q ∈ nx p, h p = u ∧ h q = v := by
  unfold arcsOf
  simp only [List.mem_flatMap, List.mem_range, List.mem_filter, List.mem_map, Prod.mk.injEq, decide_eq_true_eq]
  constructor
  · rintro ⟨p, hp, ⟨q, hq, e1, e2⟩, e3⟩
    exact ⟨e3, p, hp, q, hq, e1, e2⟩
  · rintro ⟨e3, p, hp, q, hq, e1, e2⟩
    exact ⟨p, hp, ⟨q, hq, e1, e2⟩, e3⟩
theorem Heads.onward {nx : Nat → List Nat} {n : Nat} {h : Nat → Nat} (H : Heads nx n h) (hn : ∀ p < n, ∀ q ∈ nx p, q < n) : Onward (headsTo h n) (arcsOf h nx n) (Reach nx) := by
  refine ⟨fun x y z => Reach.trans, Reach.refl nx, fun u v ha => ?_⟩
  obtain ⟨hne, p, hp, q, hq, e1, e2⟩ := mem_arcsOf.1 ha
  have hq' := hn p hp q hq
  obtain ⟨p1, p2, -⟩ := H p hp
  obtain ⟨q1, q2, -⟩ := H q hq'
  have hu : u < n := by rw [← e1]; exact H.lt hp
  have hv : v < n := by rw [← e2]; exact H.lt hq'
  have iu : h u = u := by rw [← e1]; exact H.idem hp
  have iv : h v = v := by rw [← e2]; exact H.idem hq'
  rw [e1] at p1 p2
  rw [e2] at q1 q2
  have huv : Reach nx u v := (p2.trans (Reach.arc hq)).trans q1
  exact ⟨mem_headsTo.2 ⟨hu, iu⟩, mem_headsTo.2 ⟨hv, iv⟩, huv, fun w => hne (by rw [← iu, ← iv]; exact (H.same hu hv).2 ⟨huv, w⟩)⟩
end T9
end

section
namespace T9
section
variable {nx nx' : Nat → List Nat}
theorem Reach.step {p q r : Nat} (h : Reach nx p q) (hr : r ∈ nx q) : Reach nx p r := h.trans (Reach.arc hr)
theorem Reach.mono (h : ∀ p q, q ∈ nx p → q ∈ nx' p) {p q : Nat} (hr : Reach nx p q) : Reach nx' p q :=
  Reach.closed (C := fun x => Reach nx' p x) (fun x hx y hy => hx.step (h x y hy)) hr (Reach.refl nx' p)
/-- Only which arcs there are counts. -/
theorem Reach.same (h : ∀ p q, q ∈ nx p ↔ q ∈ nx' p) {p q : Nat} : Reach nx p q ↔ Reach nx' p q := ⟨Reach.mono (fun p q => (h p q).1), Reach.mono (fun p q => (h p q).2)⟩
theorem Reach.about1 (h : ∀ p q, q ∈ nx p → p ∈ nx' q) {p q : Nat} (hr : Reach nx p q) : Reach nx' q p :=
  Reach.closed (C := fun x => Reach nx' x p) (fun x hx y hy => (Reach.arc (h x y hy)).trans hx) hr (Reach.refl nx' p)
/-- All arcs turned about. -/
theorem Reach.about (h : ∀ p q, q ∈ nx p ↔ p ∈ nx' q) {p q : Nat} : Reach nx p q ↔ Reach nx' q p := ⟨Reach.about1 (fun p q => (h p q).1), Reach.about1 (fun p q => (h q p).2)⟩
theorem Heads.same_arcs {n : Nat} {h h' : Nat → Nat} (H : Heads nx n h) (H' : Heads nx' n h') (he : ∀ p q, q ∈ nx p ↔ q ∈ nx' p) : ∀ p < n, h p = h' p :=
  H.ext H' (fun p q _ _ => by rw [Reach.same he, Reach.same he])
theorem Heads.about_arcs {n : Nat} {h h' : Nat → Nat} (H : Heads nx n h) (H' : Heads nx' n h') (he : ∀ p q, q ∈ nx p ↔ p ∈ nx' q) : ∀ p < n, h p = h' p :=
  H.ext H' (fun p q _ _ => by rw [Reach.about he, Reach.about he, And.comm])
end
theorem headsTo_congr {h h' : Nat → Nat} {n : Nat} (e : ∀ p < n, h p = h' p) : headsTo h n = headsTo h' n :=
  List.filter_congr (fun p hp => by rw [e p (List.mem_range.1 hp)])
theorem partTo_congr {h h' : Nat → Nat} {n m : Nat} (e : ∀ p < n, h p = h' p) : partTo h n m = partTo h' n m :=
  List.filter_congr (fun p hp => by rw [e p (List.mem_range.1 hp)])
theorem compsTo_congr {h h' : Nat → Nat} {n : Nat} (e : ∀ p < n, h p = h' p) : compsTo h n = compsTo h' n := by
  unfold compsTo
  rw [headsTo_congr e]
  exact List.map_congr_left (fun m _ => partTo_congr e)
theorem Free.congr {hs : List Nat} {ar ar' : List (Nat × Nat)} (e : ∀ a, a ∈ ar ↔ a ∈ ar') {told : List Nat} {m : Nat} : Free hs ar told m ↔ Free hs ar' told m := by
  unfold Free
  constructor
  · rintro ⟨a, b, c⟩; exact ⟨a, b, fun u hu => c u ((e _).2 hu)⟩
  · rintro ⟨a, b, c⟩; exact ⟨a, b, fun u hu => c u ((e _).1 hu)⟩
theorem Told.congr {hs : List Nat} {ar ar' : List (Nat × Nat)} (e : ∀ a, a ∈ ar ↔ a ∈ ar') {told : List Nat} (h : Told hs ar told) : Told hs ar' told :=
  Told.ind (P := fun told => Told hs ar' told) Told.nil (fun _ _ _ hf hl ih => ih.next ((Free.congr e).1 hf) (fun x hx => hl x ((Free.congr e).2 hx))) h
/-- All told are all, each once: so as many as there are heads. -/
theorem Told.length_all {hs : List Nat} {ar : List (Nat × Nat)} {told : List Nat} (h : Told hs ar told) (hn : hs.Nodup) (ha : ∀ m ∈ hs, m ∈ told) : told.length = hs.length := by
  have h1 : told.Perm hs := by
    rw [List.perm_ext_iff_of_nodup h.nodup.1 hn]
    exact fun x => ⟨fun q => h.nodup.2 x q, ha x⟩
  exact h1.length_eq
theorem headsTo_nodup (h : Nat → Nat) (n : Nat) : (headsTo h n).Nodup := List.Nodup.sublist List.filter_sublist List.nodup_range
/-- Each place is in one component: the lists' lengths are all the places. -/
theorem compsTo_count {h : Nat → Nat} (hle : ∀ p, h p ≤ p) : ∀ {n : Nat}, (∀ p < n, h (h p) = h p) → ((compsTo h n).map List.length).sum = n
  | 0, _ => rfl
  | n + 1, hh => by
    have ih := compsTo_count hle (n := n) (fun p hp => hh p (by omega))
    by_cases e : h n = n
    · rw [compsTo_new hle e, List.map_append, List.sum_append, ih]; rfl
    · obtain ⟨l1, l2, e1, -, e3⟩ := compsTo_old hle e (hh n (by omega))
      rw [e1, List.map_append, List.sum_append, List.map_cons, List.sum_cons] at ih
      rw [e3, List.map_append, List.sum_append, List.map_cons, List.sum_cons, List.length_append]
      simp only [List.length_cons, List.length_nil]
      omega
/-- A ring through all places: one component. -/
theorem Heads.ring {nx : Nat → List Nat} {n : Nat} {h : Nat → Nat} (H : Heads nx n h) (hr : ∀ p q, p < n → q < n → Reach nx p q) : ∀ p < n, h p = 0 := by
  intro p hp
  have := (H p hp).2.2 0 (hr p 0 hp (by omega)) (hr 0 p (by omega) hp)
  omega
theorem headsTo_ring {h : Nat → Nat} {n : Nat} (hn : 0 < n) (e : ∀ p < n, h p = 0) : headsTo h n = [0] ∧ compsTo h n = [List.range n] := by
  have h1 : headsTo h n = [0] := by
    obtain ⟨t, ht, hgt⟩ := headsTo_split (h := h) hn (e 0 hn)
    have : t = [] := by
      cases t with
      | nil => rfl
      | cons x t =>
        have h1 := hgt x (by simp)
        have h2 := mem_headsTo.1 (show x ∈ headsTo h n by rw [ht]; simp)
        have := e x h2.1
        omega
    rw [ht, this]; rfl
  refine ⟨h1, ?_⟩
  unfold compsTo
  rw [h1]
  show [partTo h n 0] = [List.range n]
  congr 1
  exact List.filter_eq_self.2 (fun p hp => by simp [e p (List.mem_range.1 hp)])
/-- Round a ring, whatever places its vertices have. -/
theorem ring_reach {nx : Nat → List Nat} {n : Nat} (f : Nat → Nat) (hf : ∀ i < n, f ((i + 1) % n) ∈ nx (f i)) (hs : ∀ p < n, ∃ i < n, f i = p) : ∀ p q, p < n → q < n → Reach nx p q := by
  have step : ∀ (k i : Nat), i < n → Reach nx (f i) (f ((i + k) % n)) := by
    intro k
    induction k with
    | zero => intro i hi; rw [Nat.add_zero, Nat.mod_eq_of_lt hi]; exact Reach.refl nx _
    | succ k ih =>
      intro i hi
      have h1 := ih i hi
      have h2 := hf ((i + k) % n) (Nat.mod_lt _ (by omega))
      have e : ((i + k) % n + 1) % n = (i + (k + 1)) % n := by rw [Nat.mod_add_mod]; rfl
      rw [e] at h2
      exact h1.step h2
  intro p q hp hq
  obtain ⟨i, hi, rfl⟩ := hs p hp
  obtain ⟨j, hj, rfl⟩ := hs q hq
  have := step (n - i + j) i hi
  have e : (i + (n - i + j)) % n = j := by
    rw [show i + (n - i + j) = j + n by omega, Nat.add_mod_right, Nat.mod_eq_of_lt hj]
  rwa [e] at this
/-- The graph that is read: of each place, the places to which arcs lead from it, in the arcs' order. -/
def nextOf (V : List Int) (arcs : List (Int × Int)) (p : Nat) : List Nat := (arcs.filter (fun a => decide (V[p]? = some a.1))).map (fun a => V.idxOf a.2)
theorem nextOf_nil (V : List Int) (p : Nat) : nextOf V [] p = [] := rfl
theorem nextOf_at {V : List Int} {arcs : List (Int × Int)} {a : Int × Int} {p : Nat} (h : V[p]? = some a.1) : nextOf V (arcs ++ [a]) p = nextOf V arcs p ++ [V.idxOf a.2] := by
  unfold nextOf; rw [List.filter_append, List.map_append]; simp [h]
theorem nextOf_else {V : List Int} {arcs : List (Int × Int)} {a : Int × Int} {p : Nat} (h : V[p]? ≠ some a.1) : nextOf V (arcs ++ [a]) p = nextOf V arcs p := by
  unfold nextOf; rw [List.filter_append, List.map_append]; simp [h]
theorem mem_nextOf {V : List Int} {arcs : List (Int × Int)} {p q : Nat} : q ∈ nextOf V arcs p ↔ ∃ a ∈ arcs, V[p]? = some a.1 ∧ V.idxOf a.2 = q := by
  unfold nextOf
  simp only [List.mem_map, List.mem_filter, decide_eq_true_eq, and_assoc]
theorem nextOf_lt {V : List Int} {arcs : List (Int × Int)} (hv : ∀ a ∈ arcs, a.2 ∈ V) {p : Nat} : ∀ q ∈ nextOf V arcs p, q < V.length := by
  intro q hq
  obtain ⟨a, ha, -, rfl⟩ := mem_nextOf.1 hq
  exact List.idxOf_lt_length_of_mem (hv a ha)
/-- The same arcs, in any order and however often. -/
theorem nextOf_same {V : List Int} {arcs arcs' : List (Int × Int)} (e : ∀ a, a ∈ arcs ↔ a ∈ arcs') (p q : Nat) : q ∈ nextOf V arcs p ↔ q ∈ nextOf V arcs' p := by
  rw [mem_nextOf, mem_nextOf]
  constructor
  · rintro ⟨a, ha, w⟩; exact ⟨a, (e a).1 ha, w⟩
  · rintro ⟨a, ha, w⟩; exact ⟨a, (e a).2 ha, w⟩
end T9
end

end Go.Proofs.Ytdpdghhieokcfaa
