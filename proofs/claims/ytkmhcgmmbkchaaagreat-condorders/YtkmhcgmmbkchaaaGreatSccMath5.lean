/- The graph that is read, by places; what changes nothing; the ring. -/
import Derived.Test.YtkmhcgmmbkchaaaGreatSccMath4
namespace Go.Proofs.YtkmhcgmmbkchaaaGreat
namespace T9
section
variable {nx nx' : Nat → List Nat}
theorem Reach.step {p q r : Nat} (h : Reach nx p q) (hr : r ∈ nx q) : Reach nx p r := h.trans (Reach.arc hr)
theorem Reach.mono (h : ∀ p q, q ∈ nx p → q ∈ nx' p) {p q : Nat} (hr : Reach nx p q) : Reach nx' p q :=
  Reach.closed (C := fun x => Reach nx' p x) (fun x hx y hy => hx.step (h x y hy)) hr (Reach.refl nx' p)
/-- Only which arcs there are counts. -/
theorem Reach.same (h : ∀ p q, q ∈ nx p ↔ q ∈ nx' p) {p q : Nat} : Reach nx p q ↔ Reach nx' p q := ⟨Reach.mono (fun p q => (h p q).1), Reach.mono (fun p q => (h p q).2)⟩
theorem Reach.about1 (h : ∀ p q, q ∈ nx p → p ∈ nx' q) {p q : Nat} (hr : Reach nx p q) : Reach nx' q p :=
  Reach.closed (C := fun x => Reach nx' x p) (fun x hx y hy => (Reach.arc (h x y hy)).trans hx) hr (Reach.refl nx' p)
/-- All arcs turned about. -/
theorem Reach.about (h : ∀ p q, q ∈ nx p ↔ p ∈ nx' q) {p q : Nat} : Reach nx p q ↔ Reach nx' q p := ⟨Reach.about1 (fun p q => (h p q).1), Reach.about1 (fun p q => (h q p).2)⟩
theorem Heads.same_arcs {n : Nat} {h h' : Nat → Nat} (H : Heads nx n h) (H' : Heads nx' n h') (he : ∀ p q, q ∈ nx p ↔ q ∈ nx' p) : ∀ p < n, h p = h' p :=
  H.ext H' (fun p q _ _ => by rw [Reach.same he, Reach.same he])
theorem Heads.about_arcs {n : Nat} {h h' : Nat → Nat} (H : Heads nx n h) (H' : Heads nx' n h') (he : ∀ p q, q ∈ nx p ↔ p ∈ nx' q) : ∀ p < n, h p = h' p :=
  H.ext H' (fun p q _ _ => by rw [Reach.about he, Reach.about he, And.comm])
end
theorem headsTo_congr {h h' : Nat → Nat} {n : Nat} (e : ∀ p < n, h p = h' p) : headsTo h n = headsTo h' n :=
  List.filter_congr (fun p hp => by rw [e p (List.mem_range.1 hp)])
theorem partTo_congr {h h' : Nat → Nat} {n m : Nat} (e : ∀ p < n, h p = h' p) : partTo h n m = partTo h' n m :=
  List.filter_congr (fun p hp => by rw [e p (List.mem_range.1 hp)])
theorem compsTo_congr {h h' : Nat → Nat} {n : Nat} (e : ∀ p < n, h p = h' p) : compsTo h n = compsTo h' n := by
  unfold compsTo
  rw [headsTo_congr e]
  exact List.map_congr_left (fun m _ => partTo_congr e)
theorem Free.congr {hs : List Nat} {ar ar' : List (Nat × Nat)} (e : ∀ a, a ∈ ar ↔ a ∈ ar') {told : List Nat} {m : Nat} : Free hs ar told m ↔ Free hs ar' told m := by
  unfold Free
  constructor
  · rintro ⟨a, b, c⟩; exact ⟨a, b, fun u hu => c u ((e _).2 hu)⟩
  · rintro ⟨a, b, c⟩; exact ⟨a, b, fun u hu => c u ((e _).1 hu)⟩
theorem Told.congr {hs : List Nat} {ar ar' : List (Nat × Nat)} (e : ∀ a, a ∈ ar ↔ a ∈ ar') {told : List Nat} (h : Told hs ar told) : Told hs ar' told :=
  Told.ind (P := fun told => Told hs ar' told) Told.nil (fun _ _ _ hf hl ih => ih.next ((Free.congr e).1 hf) (fun x hx => hl x ((Free.congr e).2 hx))) h
/-- All told are all, each once: so as many as there are heads. -/
theorem Told.length_all {hs : List Nat} {ar : List (Nat × Nat)} {told : List Nat} (h : Told hs ar told) (hn : hs.Nodup) (ha : ∀ m ∈ hs, m ∈ told) : told.length = hs.length := by
  have h1 : told.Perm hs := by
    rw [List.perm_ext_iff_of_nodup h.nodup.1 hn]
    exact fun x => ⟨fun q => h.nodup.2 x q, ha x⟩
  exact h1.length_eq
theorem headsTo_nodup (h : Nat → Nat) (n : Nat) : (headsTo h n).Nodup := List.Nodup.sublist List.filter_sublist List.nodup_range
/-- Each place is in one component: the lists' lengths are all the places. -/
theorem compsTo_count {h : Nat → Nat} (hle : ∀ p, h p ≤ p) : ∀ {n : Nat}, (∀ p < n, h (h p) = h p) → ((compsTo h n).map List.length).sum = n
  | 0, _ => rfl
  | n + 1, hh => by
    have ih := compsTo_count hle (n := n) (fun p hp => hh p (by omega))
    by_cases e : h n = n
    · rw [compsTo_new hle e, List.map_append, List.sum_append, ih]; rfl
    · obtain ⟨l1, l2, e1, -, e3⟩ := compsTo_old hle e (hh n (by omega))
      rw [e1, List.map_append, List.sum_append, List.map_cons, List.sum_cons] at ih
      rw [e3, List.map_append, List.sum_append, List.map_cons, List.sum_cons, List.length_append]
      simp only [List.length_cons, List.length_nil]
      omega
/-- A ring through all places: one component. -/
theorem Heads.ring {nx : Nat → List Nat} {n : Nat} {h : Nat → Nat} (H : Heads nx n h) (hr : ∀ p q, p < n → q < n → Reach nx p q) : ∀ p < n, h p = 0 := by
  intro p hp
  have := (H p hp).2.2 0 (hr p 0 hp (by omega)) (hr 0 p (by omega) hp)
  omega
theorem headsTo_ring {h : Nat → Nat} {n : Nat} (hn : 0 < n) (e : ∀ p < n, h p = 0) : headsTo h n = [0] ∧ compsTo h n = [List.range n] := by
  have h1 : headsTo h n = [0] := by
    obtain ⟨t, ht, hgt⟩ := headsTo_split (h := h) hn (e 0 hn)
    have : t = [] := by
      cases t with
      | nil => rfl
      | cons x t =>
        have h1 := hgt x (by simp)
        have h2 := mem_headsTo.1 (show x ∈ headsTo h n by rw [ht]; simp)
        have := e x h2.1
        omega
    rw [ht, this]; rfl
  refine ⟨h1, ?_⟩
  unfold compsTo
  rw [h1]
  show [partTo h n 0] = [List.range n]
  congr 1
  exact List.filter_eq_self.2 (fun p hp => by simp [e p (List.mem_range.1 hp)])
/-- Round a ring, whatever places its vertices have. -/
theorem ring_reach {nx : Nat → List Nat} {n : Nat} (f : Nat → Nat) (hf : ∀ i < n, f ((i + 1) % n) ∈ nx (f i)) (hs : ∀ p < n, ∃ i < n, f i = p) : ∀ p q, p < n → q < n → Reach nx p q := by
  have step : ∀ (k i : Nat), i < n → Reach nx (f i) (f ((i + k) % n)) := by
    intro k
    induction k with
    | zero => intro i hi; rw [Nat.add_zero, Nat.mod_eq_of_lt hi]; exact Reach.refl nx _
    | succ k ih =>
      intro i hi
      have h1 := ih i hi
      have h2 := hf ((i + k) % n) (Nat.mod_lt _ (by omega))
      have e : ((i + k) % n + 1) % n = (i + (k + 1)) % n := by rw [Nat.mod_add_mod]; rfl
      rw [e] at h2
      exact h1.step h2
  intro p q hp hq
  obtain ⟨i, hi, rfl⟩ := hs p hp
  obtain ⟨j, hj, rfl⟩ := hs q hq
  have := step (n - i + j) i hi
  have e : (i + (n - i + j)) % n = j := by
    rw [show i + (n - i + j) = j + n by omega, Nat.add_mod_right, Nat.mod_eq_of_lt hj]
  rwa [e] at this
/-- The graph that is read: of each place, the places to which arcs lead from it, in the arcs' order. -/
def nextOf (V : List Int) (arcs : List (Int × Int)) (p : Nat) : List Nat := (arcs.filter (fun a => decide (V[p]? = some a.1))).map (fun a => V.idxOf a.2)
theorem nextOf_nil (V : List Int) (p : Nat) : nextOf V [] p = [] := rfl
theorem nextOf_at {V : List Int} {arcs : List (Int × Int)} {a : Int × Int} {p : Nat} (h : V[p]? = some a.1) : nextOf V (arcs ++ [a]) p = nextOf V arcs p ++ [V.idxOf a.2] := by
  unfold nextOf; rw [List.filter_append, List.map_append]; simp [h]
theorem nextOf_else {V : List Int} {arcs : List (Int × Int)} {a : Int × Int} {p : Nat} (h : V[p]? ≠ some a.1) : nextOf V (arcs ++ [a]) p = nextOf V arcs p := by
  unfold nextOf; rw [List.filter_append, List.map_append]; simp [h]
theorem mem_nextOf {V : List Int} {arcs : List (Int × Int)} {p q : Nat} : q ∈ nextOf V arcs p ↔ ∃ a ∈ arcs, V[p]? = some a.1 ∧ V.idxOf a.2 = q := by
  unfold nextOf
  simp only [List.mem_map, List.mem_filter, decide_eq_true_eq, and_assoc]
theorem nextOf_lt {V : List Int} {arcs : List (Int × Int)} (hv : ∀ a ∈ arcs, a.2 ∈ V) {p : Nat} : ∀ q ∈ nextOf V arcs p, q < V.length := by
  intro q hq
  obtain ⟨a, ha, -, rfl⟩ := mem_nextOf.1 hq
  exact List.idxOf_lt_length_of_mem (hv a ha)
/-- The same arcs, in any order and however often. -/
theorem nextOf_same {V : List Int} {arcs arcs' : List (Int × Int)} (e : ∀ a, a ∈ arcs ↔ a ∈ arcs') (p q : Nat) : q ∈ nextOf V arcs p ↔ q ∈ nextOf V arcs' p := by
  rw [mem_nextOf, mem_nextOf]
  constructor
  · rintro ⟨a, ha, w⟩; exact ⟨a, (e a).1 ha, w⟩
  · rintro ⟨a, ha, w⟩; exact ⟨a, (e a).2 ha, w⟩
end T9
end Go.Proofs.YtkmhcgmmbkchaaaGreat
