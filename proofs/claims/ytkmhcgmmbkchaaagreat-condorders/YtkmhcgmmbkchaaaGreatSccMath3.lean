/- The components as lists, built place by place; the whole search. -/
import Derived.Test.YtkmhcgmmbkchaaaGreatSccMath2
namespace Go.Proofs.YtkmhcgmmbkchaaaGreat
namespace T9
/-- The heads among the first k places, rising. -/
def headsTo (h : Nat → Nat) (k : Nat) : List Nat := (List.range k).filter (fun p => decide (h p = p))
/-- Of the first k places, those with this head, rising. -/
def partTo (h : Nat → Nat) (k m : Nat) : List Nat := (List.range k).filter (fun p => decide (h p = m))
def compsTo (h : Nat → Nat) (k : Nat) : List (List Nat) := (headsTo h k).map (partTo h k)
section
variable {h : Nat → Nat}
theorem headsTo_new {k : Nat} (hk : h k = k) : headsTo h (k + 1) = headsTo h k ++ [k] := by
  unfold headsTo; rw [List.range_succ, List.filter_append]; simp [hk]
theorem headsTo_old {k : Nat} (hk : h k ≠ k) : headsTo h (k + 1) = headsTo h k := by
  unfold headsTo; rw [List.range_succ, List.filter_append]; simp [hk]
theorem partTo_in {k m : Nat} (hk : h k = m) : partTo h (k + 1) m = partTo h k m ++ [k] := by
  unfold partTo; rw [List.range_succ, List.filter_append]; simp [hk]
theorem partTo_out {k m : Nat} (hk : h k ≠ m) : partTo h (k + 1) m = partTo h k m := by
  unfold partTo; rw [List.range_succ, List.filter_append]; simp [hk]
theorem mem_headsTo {k m : Nat} : m ∈ headsTo h k ↔ m < k ∧ h m = m := by
  unfold headsTo; rw [List.mem_filter, List.mem_range]; simp
theorem mem_partTo {k m p : Nat} : p ∈ partTo h k m ↔ p < k ∧ h p = m := by
  unfold partTo; rw [List.mem_filter, List.mem_range]; simp
/-- A place that is a head opens a list of its own. -/
theorem compsTo_new (hle : ∀ p, h p ≤ p) {k : Nat} (hk : h k = k) : compsTo h (k + 1) = compsTo h k ++ [[k]] := by
  unfold compsTo
  rw [headsTo_new hk, List.map_append]
  congr 1
  · refine List.map_congr_left (fun m hm => partTo_out ?_)
    have := (mem_headsTo.1 hm).1
    omega
  · show [partTo h (k + 1) k] = [[k]]
    have : partTo h k k = [] := by
      refine List.filter_eq_nil_iff.2 (fun p hp => ?_)
      have := List.mem_range.1 hp
      have := hle p
      simp; omega
    rw [partTo_in hk, this]; rfl
/-- Where a head stands among the heads. -/
theorem headsTo_split {k m : Nat} (hm : m < k) (hh : h m = m) : ∃ t, headsTo h k = headsTo h m ++ m :: t ∧ ∀ x ∈ t, m < x := by
  have e : List.range k = List.range m ++ (List.range (k - m)).map (m + ·) := by
    rw [← List.range_add]; congr 1; omega
  obtain ⟨j, hj⟩ : ∃ j, k - m = j + 1 := ⟨k - m - 1, by omega⟩
  rw [hj, List.range_succ_eq_map] at e
  refine ⟨(((List.range j).map Nat.succ).map (m + ·)).filter (fun p => decide (h p = p)), ?_, ?_⟩
  · unfold headsTo
    rw [e, List.filter_append, List.map_cons, List.filter_cons, if_pos (by simp [hh])]
    rfl
  · intro x hx
    have := (List.mem_filter.1 hx).1
    simp only [List.mem_map, List.mem_range] at this
    obtain ⟨a, ⟨b, -, rfl⟩, rfl⟩ := this
    omega
/-- Any other place goes to the end of its head's list. -/
theorem compsTo_old (hle : ∀ p, h p ≤ p) {k : Nat} (hk : h k ≠ k) (hh : h (h k) = h k) : ∃ l1 l2, compsTo h k = l1 ++ partTo h k (h k) :: l2 ∧ l1.length = (headsTo h (h k)).length ∧ compsTo h (k + 1) = l1 ++ (partTo h k (h k) ++ [k]) :: l2 := by
  have hm : h k < k := by have := hle k; omega
  obtain ⟨t, ht, hgt⟩ := headsTo_split hm hh
  refine ⟨(headsTo h (h k)).map (partTo h k), t.map (partTo h k), ?_, by rw [List.length_map], ?_⟩
  · unfold compsTo; rw [ht, List.map_append, List.map_cons]
  · unfold compsTo
    rw [headsTo_old hk, ht, List.map_append, List.map_cons, partTo_in rfl]
    congr 1
    · refine List.map_congr_left (fun m hm' => partTo_out ?_)
      have := (mem_headsTo.1 hm').1
      omega
    · congr 1
      refine List.map_congr_left (fun m hm' => partTo_out ?_)
      have := hgt m hm'
      omega
theorem compsTo_length (h : Nat → Nat) (k : Nat) : (compsTo h k).length = (headsTo h k).length := List.length_map _
end
/-- What a head function is, of a graph's components. -/
def Heads (nx : Nat → List Nat) (n : Nat) (h : Nat → Nat) : Prop := ∀ p < n, Reach nx p (h p) ∧ Reach nx (h p) p ∧ ∀ q, Reach nx p q → Reach nx q p → h p ≤ q
section
variable {nx : Nat → List Nat} {n : Nat} {h : Nat → Nat}
theorem Heads.le (H : Heads nx n h) {p : Nat} (hp : p < n) : h p ≤ p := (H p hp).2.2 p (Reach.refl nx p) (Reach.refl nx p)
theorem Heads.lt (H : Heads nx n h) {p : Nat} (hp : p < n) : h p < n := Nat.lt_of_le_of_lt (H.le hp) hp
/-- Two places have one head just if each reaches the other. -/
theorem Heads.same (H : Heads nx n h) {p q : Nat} (hp : p < n) (hq : q < n) : h p = h q ↔ Reach nx p q ∧ Reach nx q p := by
  obtain ⟨a1, a2, a3⟩ := H p hp
  obtain ⟨b1, b2, b3⟩ := H q hq
  constructor
  · intro e
    rw [e] at a1 a2
    exact ⟨a1.trans b2, b1.trans a2⟩
  · rintro ⟨c1, c2⟩
    exact Nat.le_antisymm (a3 _ (c1.trans b1) (b2.trans c2)) (b3 _ (c2.trans a1) (a2.trans c1))
theorem Heads.idem (H : Heads nx n h) {p : Nat} (hp : p < n) : h (h p) = h p := by
  obtain ⟨a1, a2, -⟩ := H p hp
  exact (H.same (H.lt hp) hp).2 ⟨a2, a1⟩
/-- Heads are heads of any arcs that lead as far. -/
theorem Heads.ext (H : Heads nx n h) {nx' : Nat → List Nat} {h' : Nat → Nat} (H' : Heads nx' n h') (he : ∀ p q, p < n → q < n → ((Reach nx p q ∧ Reach nx q p) ↔ (Reach nx' p q ∧ Reach nx' q p))) : ∀ p < n, h p = h' p := by
  intro p hp
  obtain ⟨a1, a2, a3⟩ := H p hp
  obtain ⟨b1, b2, b3⟩ := H' p hp
  obtain ⟨c1, c2⟩ := (he p _ hp (H.lt hp)).1 ⟨a1, a2⟩
  obtain ⟨d1, d2⟩ := (he p _ hp (H'.lt hp)).2 ⟨b1, b2⟩
  exact Nat.le_antisymm (a3 _ d1 d2) (b3 _ c1 c2)
/-- What the search tells when it has come to all. -/
theorem Inv.done {s : St} (H : Inv nx s) (ht : s.tl = []) (hv : ∀ p < n, s.tu p ≠ 0) {h : Nat → Nat} (hh : ∀ p < n, s.hd p = some (h p)) : Heads nx n h := by
  intro p hp
  obtain ⟨m, e, a1, a2, a3⟩ := H.heads ht (hv p hp)
  rw [hh p hp] at e
  have e := Option.some.inj e
  rw [e]; exact ⟨a1, a2, a3⟩
end
end T9
end Go.Proofs.YtkmhcgmmbkchaaaGreat
