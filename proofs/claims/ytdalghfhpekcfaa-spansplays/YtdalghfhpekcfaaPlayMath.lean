/- Sets against deeds, and how many runs there can be. -/
import Derived.Test.YtdalghfhpekcfaaRefMath
import Derived.Test.YtdalghfhpekcfaaRefRow
namespace Go.Proofs.Ytdalghfhpekcfaa

/-- The runs are those of what is in. -/
def Agree (ds : List Deed) (rs : List (Int × Int)) : Prop := ∀ x, In rs x ↔ isIn ds x = true

theorem agree_nil : Agree [] [] := fun x => ⟨fun ⟨i, hi, _⟩ => by simp at hi, fun h => by rw [isIn_nil] at h; cases h⟩
theorem Agree.add {ds : List Deed} {rs rs' : List (Int × Int)} {a b : Int} (h : Agree ds rs) (h1 : ∀ x, In rs' x ↔ In rs x ∨ a ≤ x ∧ x ≤ b) : Agree (ds ++ [(true, a, b)]) rs' := fun x => by
  rw [h1, h x, isIn_snoc]
  by_cases hn : names (true, a, b) x = true
  · rw [if_pos hn]
    exact ⟨fun _ => rfl, fun _ => .inr ((names_iff _ _).1 hn)⟩
  · rw [if_neg hn]
    exact ⟨fun g => g.elim id (fun g => absurd ((names_iff _ _).2 g) hn), .inl⟩
theorem Agree.cut {ds : List Deed} {rs rs' : List (Int × Int)} {a b : Int} (h : Agree ds rs) (h1 : ∀ x, In rs' x ↔ In rs x ∧ ¬ (a ≤ x ∧ x ≤ b)) : Agree (ds ++ [(false, a, b)]) rs' := fun x => by
  rw [h1, h x, isIn_snoc]
  by_cases hn : names (false, a, b) x = true
  · rw [if_pos hn]
    exact ⟨fun g => absurd ((names_iff _ _).1 hn) g.2, fun g => by cases g⟩
  · rw [if_neg hn]
    exact ⟨fun g => g.1, fun g => ⟨g, fun g2 => hn ((names_iff _ _).2 g2)⟩⟩

/-- Runs as deeds. -/
def deedsOf (ss : List (Int × Int)) : List Deed := ss.map fun r => (true, r.1, r.2)
theorem deedsOf_snoc (ss : List (Int × Int)) (r : Int × Int) : deedsOf (ss ++ [r]) = deedsOf ss ++ [(true, r.1, r.2)] := by simp [deedsOf]
theorem deedsOf_length (ss : List (Int × Int)) : (deedsOf ss).length = ss.length := by simp [deedsOf]
theorem isIn_deeds (ds : List Deed) (x : Int) (ss : List (Int × Int)) : ∀ t, t ≤ ss.length → (isIn (ds ++ deedsOf (ss.take t)) x = true ↔ isIn ds x = true ∨ In (ss.take t) x) := by
  intro t
  induction t with
  | zero => intro _; simp [deedsOf, In]
  | succ t ih =>
    intro ht
    have ih := ih (by omega)
    rw [take_next (by omega), deedsOf_snoc, ← List.append_assoc, isIn_snoc, in_snoc]
    by_cases hn : names (true, lo ss t, hi ss t) x = true
    · rw [if_pos hn]
      exact ⟨fun _ => .inr (.inr ((names_iff _ _).1 hn)), fun _ => rfl⟩
    · rw [if_neg hn, ih]
      constructor
      · rintro (h | h)
        · exact .inl h
        · exact .inr (.inl h)
      · rintro (h | h | h)
        · exact .inl h
        · exact .inr h
        · exact absurd ((names_iff _ _).2 h) hn
theorem Agree.join {ds : List Deed} {rs ss rs' : List (Int × Int)} (h : Agree ds rs) (h1 : ∀ x, In rs' x ↔ In rs x ∨ In ss x) : Agree (ds ++ deedsOf ss) rs' := fun x => by
  have := isIn_deeds ds x ss ss.length (Nat.le_refl _)
  rw [List.take_length] at this
  rw [h1, h x, this]

/-- The numbers at which runs begin. -/
def Starts (rs : List (Int × Int)) (x : Int) : Prop := In rs x ∧ ¬ In rs (x - 1)
theorem starts_lo {rs : List (Int × Int)} (h : Canon rs) {i : Nat} (hi1 : i < rs.length) : Starts rs (lo rs i) := by
  refine ⟨⟨i, hi1, Int.le_refl _, h.run i hi1⟩, ?_⟩
  rintro ⟨j, g1, g2, g3⟩
  rcases Nat.lt_trichotomy i j with g | g | g
  · have := h.gap i j g g1
    have := h.run i hi1
    omega
  · subst g
    omega
  · have := h.gap j i g hi1
    omega

/-- All runs begin at numbers of E. -/
def Edged (E : List Int) (rs : List (Int × Int)) : Prop := ∀ x, Starts rs x → x ∈ E

theorem rising_le : ∀ (l E : List Int), l.Pairwise (· < ·) → (∀ x ∈ l, x ∈ E) → l.length ≤ E.length
  | [], _, _, _ => Nat.zero_le _
  | x :: l, E, hp, hs => by
    have hx : x ∈ E := hs x (by simp)
    rw [List.pairwise_cons] at hp
    have := rising_le l (E.erase x) hp.2 (fun y hy => by
      have := hp.1 y hy
      exact (List.mem_erase_of_ne (by omega)).2 (hs y (by simp [hy])))
    rw [List.length_erase_of_mem hx] at this
    have := List.length_pos_of_mem hx
    simp
    omega
theorem edged_len {E : List Int} {rs : List (Int × Int)} (h : Canon rs) (hE : Edged E rs) : rs.length ≤ E.length := by
  have hl : (rs.map (·.1)).length = rs.length := by simp
  rw [← hl]
  refine rising_le _ _ ?_ ?_
  · rw [List.pairwise_iff_getElem]
    intro i j hi1 hj hij
    have e : ∀ k (hk : k < (rs.map (·.1)).length), (rs.map (·.1))[k] = lo rs k := fun k hk => by simp [lo, List.getD_eq_getElem?_getD, List.getElem?_eq_getElem (by simpa using hk : k < rs.length)]
    rw [e, e]
    have := h.gap i j hij (by simpa using hj)
    have := h.run i (by simpa using hi1)
    omega
  · intro x hx
    obtain ⟨i, hi1, rfl⟩ := List.mem_iff_getElem.1 hx
    have hi2 : i < rs.length := by simpa using hi1
    have := hE _ (starts_lo h hi2)
    simpa [lo, List.getD_eq_getElem?_getD, List.getElem?_eq_getElem hi2] using this
theorem edged_nil (E : List Int) : Edged E [] := fun x ⟨⟨i, hi, _⟩, _⟩ => by simp at hi
theorem Edged.mono {E : List Int} {rs : List (Int × Int)} (h : Edged E rs) (y : Int) : Edged (y :: E) rs := fun x hx => List.mem_cons_of_mem _ (h x hx)
theorem Edged.add {E : List Int} {rs rs' : List (Int × Int)} {a b : Int} (h : Edged E rs) (h1 : ∀ x, In rs' x ↔ In rs x ∨ a ≤ x ∧ x ≤ b) : Edged (a :: E) rs' := fun x ⟨g1, g2⟩ => by
  rw [h1] at g1 g2
  by_cases hx : In rs x
  · exact List.mem_cons_of_mem _ (h x ⟨hx, fun g => g2 (.inl g)⟩)
  · have g3 := g1.resolve_left hx
    have : x = a := by
      have : ¬ (a ≤ x - 1 ∧ x - 1 ≤ b) := fun g => g2 (.inr g)
      omega
    rw [this]
    simp
theorem Edged.cut {E : List Int} {rs rs' : List (Int × Int)} {a b : Int} (h : Edged E rs) (h1 : ∀ x, In rs' x ↔ In rs x ∧ ¬ (a ≤ x ∧ x ≤ b)) : Edged ((b + 1) :: E) rs' := fun x ⟨g1, g2⟩ => by
  rw [h1] at g1 g2
  by_cases hx : In rs (x - 1)
  · have : a ≤ x - 1 ∧ x - 1 ≤ b := Classical.byContradiction fun g => g2 ⟨hx, g⟩
    have : x = b + 1 := by have := g1.2; omega
    rw [this]
    simp
  · exact List.mem_cons_of_mem _ (h x ⟨g1.1, hx⟩)
theorem Edged.join {E : List Int} {rs ss rs' : List (Int × Int)} (h : Edged E rs) (h2 : Edged E ss) (h1 : ∀ x, In rs' x ↔ In rs x ∨ In ss x) : Edged E rs' := fun x ⟨g1, g2⟩ => by
  rw [h1] at g1 g2
  rcases g1 with g | g
  · exact h x ⟨g, fun g3 => g2 (.inl g3)⟩
  · exact h2 x ⟨g, fun g3 => g2 (.inr g3)⟩
end Go.Proofs.Ytdalghfhpekcfaa
