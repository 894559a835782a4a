/- Tarjan's search, in the program's own steps: what each needs, and that they end. -/
import Derived.Test.YtkmhcgmmbkchaaaGreatSccMath
namespace Go.Proofs.YtkmhcgmmbkchaaaGreat
namespace T9
section
variable {nx : Nat → List Nat} {s : St}
/-- The open places stand by their turns: so they fall apart at any of them. -/
theorem Inv.split (h : Inv nx s) {a : Nat} {l1 op' : List Nat} (e : s.op = l1 ++ a :: op') : (∀ x, x ∈ op' ↔ x ∈ s.op ∧ s.tu x < s.tu a) ∧ (∀ x, x ∈ l1 ++ [a] ↔ x ∈ s.op ∧ s.tu a ≤ s.tu x) := by
  have hd := h.down
  rw [e, List.pairwise_append] at hd
  obtain ⟨-, hd2, hd3⟩ := hd
  rw [List.pairwise_cons] at hd2
  have g1 : ∀ x ∈ l1, s.tu a < s.tu x := fun x hx => hd3 x hx a (by simp)
  have g2 : ∀ x ∈ op', s.tu x < s.tu a := hd2.1
  constructor
  · intro x
    rw [e]
    constructor
    · intro hx; exact ⟨by simp [hx], g2 x hx⟩
    · rintro ⟨hx, hl⟩
      rcases List.mem_append.1 hx with q | q
      · have := g1 x q; omega
      · rcases List.mem_cons.1 q with q | q
        · rw [q] at hl; omega
        · exact q
  · intro x
    rw [e]
    constructor
    · intro hx
      rcases List.mem_append.1 hx with q | q
      · exact ⟨by simp [q], by have := g1 x q; omega⟩
      · rw [List.mem_singleton] at q; rw [q]; exact ⟨by simp, Nat.le_refl _⟩
    · rintro ⟨hx, hl⟩
      rcases List.mem_append.1 hx with q | q
      · exact List.mem_append.2 (.inl q)
      · rcases List.mem_cons.1 q with q | q
        · exact List.mem_append.2 (.inr (by rw [q]; simp))
        · have := g2 x q; omega
/-- A component closed as the program does it. -/
def St.close (s : St) (m : Nat) (rest cl op' : List Nat) : St := { s with tl := rest, op := op', hd := fun x => if x ∈ cl then some m else s.hd x }
theorem Inv.close (h : Inv nx s) {a m : Nat} {rest l1 op' : List Nat} (ht : s.tl = a :: rest) (hf : s.tried a = (nx a).length) (hla : s.lo a = s.tu a) (e : s.op = l1 ++ a :: op') (hm : m ∈ l1 ++ [a]) (hl : ∀ x ∈ l1 ++ [a], m ≤ x) : Inv nx (s.close m rest (l1 ++ [a]) op') := by
  obtain ⟨g1, g2⟩ := h.split e
  obtain ⟨m1, m2⟩ := (g2 m).1 hm
  have := h.shut (m := m) (op' := op') ht hf hla g1 (by rw [e]; exact ((List.sublist_cons_self a op').trans (List.sublist_append_right l1 _))) m1 m2 (fun x hx hy => hl x ((g2 x).2 ⟨hx, hy⟩))
  have ee : s.close m rest (l1 ++ [a]) op' = s.shut a m rest op' := by
    unfold St.close St.shut
    congr 1
    funext x
    by_cases q : x ∈ l1 ++ [a]
    · rw [if_pos q, if_pos ((g2 x).1 q)]
    · rw [if_neg q, if_neg (fun w => q ((g2 x).2 w))]
  rw [ee]; exact this
/-- The first of a trail is never left with a lower low. -/
theorem Inv.first (h : Inv nx s) {a : Nat} (ht : s.tl = [a]) : s.lo a = s.tu a := by
  have ha : a ∈ s.op := h.sub.subset (by rw [ht]; simp)
  obtain ⟨q1, q, hq, hq2, -⟩ := h.low a ha
  obtain ⟨t, t1, t2, -⟩ := h.base (s.tu q) q (Nat.le_refl _) hq
  rw [ht, List.mem_singleton] at t1
  rw [t1] at t2; omega
/-- An arc tried that leads to a place not yet come to. -/
theorem Inv.tryNew (h : Inv nx s) {a q : Nat} {rest : List Nat} (ht : s.tl = a :: rest) (hq : (nx a)[s.tried a]? = some q) (hv : s.tu q = 0) : Inv nx ((s.tick a).enter q) := by
  have ha : a ∈ s.tl := by rw [ht]; simp
  have hao : a ∈ s.op := h.sub.subset ha
  have hne : a ≠ q := fun e => ((h.open_ a).1 hao).1 (by rw [e]; exact hv)
  have hmem : q ∈ nx a := List.mem_of_getElem? hq
  have hr : ∀ t ∈ s.tl, Reach nx t q := fun t hx => (h.r1 t hx a ((h.open_ a).1 hao).1 (h.top ht t hx)).trans (Reach.arc hmem)
  have h1 := h.enter hv hr
  have h2 := h1.tick (a := a) (q := q) (by show a ∈ q :: s.tl; simp [ha]) hq (by show up s.tu q (s.turn + 1) q ≠ 0; rw [up_same]; omega) (by
    intro _
    show up s.lo q (s.turn + 1) a ≤ up s.tu q (s.turn + 1) q
    rw [up_ne _ _ hne, up_same]
    have := (h.low a hao).1
    have := h.le a
    omega)
  exact h2
/-- An arc tried that leads to an open place. -/
theorem Inv.tryOpen (h : Inv nx s) {a q : Nat} {rest : List Nat} (ht : s.tl = a :: rest) (hq : (nx a)[s.tried a]? = some q) (hv : s.tu q ≠ 0) (hn : s.hd q = none) : Inv nx ((s.tick a).lower a (min (s.lo a) (s.tu q))) := by
  have ha : a ∈ s.tl := by rw [ht]; simp
  have hao : a ∈ s.op := h.sub.subset ha
  have hqo : q ∈ s.op := (h.open_ q).2 ⟨hv, hn⟩
  have hmem : q ∈ nx a := List.mem_of_getElem? hq
  have h1 : Inv nx (s.lower a (min (s.lo a) (s.tu q))) := by
    refine h.lower ha (Nat.min_le_left _ _) ?_
    by_cases c : s.lo a ≤ s.tu q
    · obtain ⟨-, q', g1, g2, g3⟩ := h.low a hao
      exact ⟨q', g1, by rw [g2, Nat.min_eq_left c], g3⟩
    · exact ⟨q, hqo, by rw [Nat.min_eq_right (by omega)], Reach.arc hmem⟩
  exact h1.tick (a := a) (q := q) ha hq hv (by
    intro _
    show up s.lo a (min (s.lo a) (s.tu q)) a ≤ s.tu q
    rw [up_same]; exact Nat.min_le_right _ _)
/-- An arc tried that leads to a place of a closed component. -/
theorem Inv.tryShut (h : Inv nx s) {a q : Nat} {rest : List Nat} (ht : s.tl = a :: rest) (hq : (nx a)[s.tried a]? = some q) (hv : s.tu q ≠ 0) (hn : s.hd q ≠ none) : Inv nx (s.tick a) :=
  h.tick (a := a) (q := q) (by rw [ht]; simp) hq hv (fun w => absurd ((h.open_ q).1 w).2 hn)
/-- A place left for the one before it. -/
theorem Inv.leave (h : Inv nx s) {a b : Nat} {rest : List Nat} (ht : s.tl = a :: b :: rest) (hf : s.tried a = (nx a).length) (hne : s.lo a ≠ s.tu a) : Inv nx (s.back b (min (s.lo b) (s.lo a)) rest) :=
  h.back ht hf (by have := (h.low a (h.sub.subset (by rw [ht]; simp))).1; omega)

/-- Sums over the first places. -/
def sumN (f : Nat → Nat) : Nat → Nat
  | 0 => 0
  | n + 1 => sumN f n + f n
theorem sumN_congr {f g : Nat → Nat} : ∀ {n : Nat}, (∀ x < n, f x = g x) → sumN f n = sumN g n
  | 0, _ => rfl
  | n + 1, h => by
    show sumN f n + f n = sumN g n + g n
    rw [sumN_congr (fun x hx => h x (by omega)), h n (by omega)]
theorem sumN_one {f g : Nat → Nat} {a : Nat} (d : Nat) : ∀ {n : Nat}, a < n → (∀ x < n, x ≠ a → f x = g x) → f a + d = g a → sumN f n + d = sumN g n
  | 0, h, _, _ => by omega
  | n + 1, h, hx, ha => by
    show sumN f n + f n + d = sumN g n + g n
    by_cases e : a = n
    · rw [sumN_congr (f := f) (g := g) (fun x hx' => hx x (by omega) (by omega)), ← e]; omega
    · have := sumN_one d (n := n) (by omega) (fun x hx' => hx x (by omega)) ha
      have := hx n (by omega) (by omega)
      omega
/-- How many places were not come to; how many arcs are to be tried; what is left to do. -/
def St.unseen (s : St) (n : Nat) : Nat := sumN (fun x => if s.tu x = 0 then 1 else 0) n
def St.arcs (nx : Nat → List Nat) (s : St) (n : Nat) : Nat := sumN (fun x => (nx x).length - s.tried x) n
def St.todo (nx : Nat → List Nat) (s : St) (n : Nat) : Nat := s.arcs nx n + 2 * s.unseen n + s.tl.length
theorem unseen_enter {n p : Nat} (hp : p < n) (hv : s.tu p = 0) : (s.enter p).unseen n + 1 = s.unseen n := by
  refine sumN_one 1 hp (fun x _ hne => ?_) ?_
  · show (if up s.tu p (s.turn + 1) x = 0 then 1 else 0) = _
    rw [up_ne _ _ hne]
  · show (if up s.tu p (s.turn + 1) p = 0 then 1 else 0) + 1 = (if s.tu p = 0 then 1 else 0)
    rw [up_same, if_pos hv, if_neg (by omega)]
theorem arcs_tick {n a : Nat} (ha : a < n) (hl : s.tried a < (nx a).length) : (s.tick a).arcs nx n + 1 = s.arcs nx n := by
  refine sumN_one 1 ha (fun x _ hne => ?_) ?_
  · show (nx x).length - up s.tried a (s.tried a + 1) x = _
    rw [up_ne _ _ hne]
  · show (nx a).length - up s.tried a (s.tried a + 1) a + 1 = (nx a).length - s.tried a
    rw [up_same]; omega
theorem todo_enter {n p : Nat} (hp : p < n) (hv : s.tu p = 0) : (s.enter p).todo nx n + 1 = s.todo nx n := by
  have h1 := unseen_enter (s := s) hp hv
  show s.arcs nx n + 2 * (s.enter p).unseen n + (s.tl.length + 1) + 1 = s.arcs nx n + 2 * s.unseen n + s.tl.length
  omega
theorem todo_tick {n a : Nat} (ha : a < n) (hl : s.tried a < (nx a).length) : (s.tick a).todo nx n + 1 = s.todo nx n := by
  have h1 := arcs_tick (s := s) ha hl
  show (s.tick a).arcs nx n + 2 * s.unseen n + s.tl.length + 1 = s.arcs nx n + 2 * s.unseen n + s.tl.length
  omega
theorem todo_lower {n a v : Nat} : (s.lower a v).todo nx n = s.todo nx n := rfl
theorem todo_back {n a b v : Nat} {rest : List Nat} (ht : s.tl = a :: b :: rest) : (s.back b v rest).todo nx n + 1 = s.todo nx n := by
  show s.arcs nx n + 2 * s.unseen n + (b :: rest).length + 1 = s.arcs nx n + 2 * s.unseen n + s.tl.length
  rw [ht]; simp only [List.length_cons]; omega
theorem todo_close {n a m : Nat} {rest cl op' : List Nat} (ht : s.tl = a :: rest) : (s.close m rest cl op').todo nx n + 1 = s.todo nx n := by
  show s.arcs nx n + 2 * s.unseen n + rest.length + 1 = s.arcs nx n + 2 * s.unseen n + s.tl.length
  rw [ht]; simp only [List.length_cons]; omega
/-- Turns count what was come to. -/
def St.Cnt (s : St) (n : Nat) : Prop := s.turn + s.unseen n = n ∧ ∀ p, s.tu p ≠ 0 → p < n
theorem cnt_start (n : Nat) : St.start.Cnt n := by
  refine ⟨?_, fun p hp => absurd rfl hp⟩
  show 0 + sumN (fun _ => if (0 : Nat) = 0 then 1 else 0) n = n
  rw [Nat.zero_add]
  induction n with
  | zero => rfl
  | succ n ih => show sumN _ n + _ = n + 1; rw [ih]; rfl
theorem cnt_enter {n p : Nat} (h : s.Cnt n) (hp : p < n) (hv : s.tu p = 0) : (s.enter p).Cnt n := by
  have h1 := unseen_enter (s := s) hp hv
  obtain ⟨h2, h3⟩ := h
  refine ⟨?_, fun x hx => ?_⟩
  · show s.turn + 1 + (s.enter p).unseen n = n; omega
  · by_cases e : x = p
    · rw [e]; exact hp
    · exact h3 x (by have hx' : up s.tu p (s.turn + 1) x ≠ 0 := hx; rwa [up_ne _ _ e] at hx')
theorem Inv.opened (h : Inv nx s) {n : Nat} (hc : s.Cnt n) : ∀ p ∈ s.op, p < n := fun p hp => hc.2 p ((h.open_ p).1 hp).1
theorem Inv.trailed (h : Inv nx s) {n : Nat} (hc : s.Cnt n) : ∀ p ∈ s.tl, p < n := fun p hp => h.opened hc p (h.sub.subset hp)
/-- Neither the open places nor the trail are more than what was come to. -/
theorem Inv.fewOpen (h : Inv nx s) : s.op.length ≤ s.turn ∧ s.tl.length ≤ s.op.length := by
  refine ⟨?_, h.sub.length_le⟩
  have key : ∀ (l : List Nat) (k : Nat), l.Pairwise (fun x y => s.tu y < s.tu x) → (∀ x ∈ l, s.tu x ≤ k ∧ s.tu x ≠ 0) → l.length ≤ k := by
    intro l
    induction l with
    | nil => intro k _ _; exact Nat.zero_le _
    | cons x l ih =>
      intro k hp hk
      rw [List.pairwise_cons] at hp
      obtain ⟨q1, q2⟩ := hk x (by simp)
      have := ih (s.tu x - 1) hp.2 (fun y hy => ⟨by have := hp.1 y hy; omega, (hk y (by simp [hy])).2⟩)
      simp only [List.length_cons]; omega
  exact key s.op s.turn h.down (fun x hx => ⟨h.le x, ((h.open_ x).1 hx).1⟩)
end
end T9
end Go.Proofs.YtkmhcgmmbkchaaaGreat
