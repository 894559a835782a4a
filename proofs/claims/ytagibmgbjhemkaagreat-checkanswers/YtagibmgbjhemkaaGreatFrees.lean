/- The free places of a table, and the heap that holds them: plain mathematics. -/
import Derived.Test.YtagibmgbjhemkaaGreatAbs
namespace Go.Proofs.YtagibmgbjhemkaaGreat

/-- How many places hold something. -/
def tk {α : Type} (ps : List (α × Bool)) : Nat := ps.countP (fun p => p.2)

theorem tk_set {α : Type} : ∀ (ps : List (α × Bool)) (i : Nat) (a x : α) (b c : Bool), ps[i]? = some (a, b) → tk (ps.set i (x, c)) + b.toNat = tk ps + c.toNat
  | [], i, a, x, b, c, h => by simp at h
  | p :: ps, 0, a, x, b, c, h => by
    simp at h; subst h
    simp only [List.set_cons_zero, tk, List.countP_cons]
    cases b <;> cases c <;> simp
  | p :: ps, i + 1, a, x, b, c, h => by
    have := tk_set ps i a x b c (by simpa using h)
    simp only [List.set_cons_succ, tk, List.countP_cons] at this ⊢
    omega
theorem tk_snoc {α : Type} (ps : List (α × Bool)) (x : α) : tk (ps ++ [(x, false)]) = tk ps := by simp [tk]

structure Frees {α : Type} (ps : List (α × Bool)) (ms : List (Ent Int Int)) : Prop where
  rank : ∀ x ∈ ms, x.rank = x.key
  key : ∀ x ∈ ms, ∃ (i : Nat) (a : α), x.key = (i : Int) + 1 ∧ ps[i]? = some (a, false)
  all : ∀ (i : Nat) (a : α), ps[i]? = some (a, false) → ∃ x ∈ ms, x.key = (i : Int) + 1
  cnt : ms.length + tk ps = ps.length

theorem frees_nil {α : Type} : Frees ([] : List (α × Bool)) [] := ⟨by simp, by simp, by simp, rfl⟩

theorem lt_of_at {α : Type} {l : List α} {i : Nat} {x : α} (h : l[i]? = some x) : i < l.length := (List.getElem?_eq_some_iff.1 h).1
theorem at_of_lt {α : Type} {ps : List (α × Bool)} {i : Nat} (h : i < ps.length) : ∃ a b, ps[i]? = some (a, b) := ⟨ps[i].1, ps[i].2, by rw [List.getElem?_eq_getElem h]⟩

theorem frees_grow {α : Type} {ps : List (α × Bool)} {ms : List (Ent Int Int)} (h : Frees ps ms) (x : α) (n : Nat) : Frees (ps ++ [(x, false)]) (ms ++ [⟨(ps.length : Int) + 1, (ps.length : Int) + 1, n⟩]) := by
  refine ⟨fun y hy => ?_, fun y hy => ?_, fun i a hi => ?_, ?_⟩
  · rcases List.mem_append.1 hy with hy | hy
    · exact h.rank y hy
    · simp at hy; subst hy; rfl
  · rcases List.mem_append.1 hy with hy | hy
    · obtain ⟨i, a, e, g⟩ := h.key y hy
      exact ⟨i, a, e, by rw [List.getElem?_append_left (lt_of_at g)]; exact g⟩
    · simp at hy; subst hy
      exact ⟨ps.length, x, rfl, by simp⟩
  · rcases Nat.lt_or_ge i ps.length with hl | hl
    · rw [List.getElem?_append_left hl] at hi
      obtain ⟨y, hy, e⟩ := h.all i a hi
      exact ⟨y, List.mem_append_left _ hy, e⟩
    · have h2 := lt_of_at hi
      simp at h2
      obtain rfl : i = ps.length := by omega
      exact ⟨_, List.mem_append_right _ (List.mem_singleton.2 rfl), rfl⟩
  · rw [tk_snoc]; have := h.cnt; simp; omega

theorem length_without {α ρ : Type} [DecidableEq α] : ∀ {ms : List (Ent α ρ)} {x : Ent α ρ}, KeysOnce ms → x ∈ ms → (without x.key ms).length + 1 = ms.length
  | [], x, _, h => by simp at h
  | y :: ms, x, hk, h => by
    have hk2 : KeysOnce ms := (List.pairwise_cons.1 hk).2
    have hk1 := (List.pairwise_cons.1 hk).1
    by_cases e : y.key = x.key
    · have hw : without x.key (y :: ms) = ms := by
        unfold without
        rw [List.filter_cons, if_neg (by simp [e]), List.filter_eq_self.2 (fun z hz => by
          have := hk1 z hz
          rw [e] at this
          exact decide_eq_true (Ne.symm this))]
      rw [hw]; rfl
    · have hx : x ∈ ms := by
        rcases List.mem_cons.1 h with rfl | h
        · exact absurd rfl e
        · exact h
      have := length_without hk2 hx
      unfold without at this ⊢
      rw [List.filter_cons, if_pos (by simp [e]), List.length_cons, List.length_cons]
      omega

theorem frees_take {α : Type} {ps : List (α × Bool)} {ms : List (Ent Int Int)} (h : Frees ps ms) (hk : KeysOnce ms) {i : Nat} {a : α} (hi : ps[i]? = some (a, false)) (x : α) : Frees (ps.set i (x, true)) (without ((i : Int) + 1) ms) := by
  refine ⟨fun y hy => h.rank y (mem_without.1 hy).1, fun y hy => ?_, fun j b hj => ?_, ?_⟩
  · obtain ⟨h1, h2⟩ := mem_without.1 hy
    obtain ⟨j, b, e, g⟩ := h.key y h1
    exact ⟨j, b, e, by rw [List.getElem?_set_ne (by omega)]; exact g⟩
  · by_cases hij : i = j
    · subst hij
      rw [List.getElem?_set_self (lt_of_at hi)] at hj
      simp at hj
    · rw [List.getElem?_set_ne hij] at hj
      obtain ⟨y, hy, e⟩ := h.all j b hj
      exact ⟨y, mem_without.2 ⟨hy, by omega⟩, e⟩
  · obtain ⟨y, hy, e⟩ := h.all i a hi
    have h1 := length_without hk hy
    rw [e] at h1
    have h2 := tk_set ps i a x false true hi
    have h3 := h.cnt
    simp at h2 ⊢
    omega

theorem frees_free {α : Type} {ps : List (α × Bool)} {ms : List (Ent Int Int)} (h : Frees ps ms) {i : Nat} {a : α} (hi : ps[i]? = some (a, true)) (x : α) (n : Nat) : Frees (ps.set i (x, false)) (ms ++ [⟨(i : Int) + 1, (i : Int) + 1, n⟩]) := by
  refine ⟨fun y hy => ?_, fun y hy => ?_, fun j b hj => ?_, ?_⟩
  · rcases List.mem_append.1 hy with hy | hy
    · exact h.rank y hy
    · simp at hy; subst hy; rfl
  · rcases List.mem_append.1 hy with hy | hy
    · obtain ⟨j, b, e, g⟩ := h.key y hy
      refine ⟨j, b, e, ?_⟩
      by_cases hij : i = j
      · subst hij; rw [hi] at g; simp at g
      · rw [List.getElem?_set_ne hij]; exact g
    · simp at hy; subst hy
      exact ⟨i, x, rfl, List.getElem?_set_self (lt_of_at hi)⟩
  · by_cases hij : i = j
    · subst hij
      exact ⟨_, List.mem_append_right _ (List.mem_singleton.2 rfl), rfl⟩
    · rw [List.getElem?_set_ne hij] at hj
      obtain ⟨y, hy, e⟩ := h.all j b hj
      exact ⟨y, List.mem_append_left _ hy, e⟩
  · have h2 := tk_set ps i a x true false hi
    have h3 := h.cnt
    simp at h2 ⊢
    omega

theorem frees_set {α : Type} {ps : List (α × Bool)} {ms : List (Ent Int Int)} (h : Frees ps ms) {i : Nat} {a : α} (hi : ps[i]? = some (a, true)) (x : α) : Frees (ps.set i (x, true)) ms := by
  refine ⟨h.rank, fun y hy => ?_, fun j b hj => ?_, ?_⟩
  · obtain ⟨j, b, e, g⟩ := h.key y hy
    refine ⟨j, b, e, ?_⟩
    by_cases hij : i = j
    · subst hij; rw [hi] at g; simp at g
    · rw [List.getElem?_set_ne hij]; exact g
  · by_cases hij : i = j
    · subst hij
      rw [List.getElem?_set_self (lt_of_at hi)] at hj
      simp at hj
    · rw [List.getElem?_set_ne hij] at hj
      exact h.all j b hj
  · have h2 := tk_set ps i a x true true hi
    have h3 := h.cnt
    simp at h2 ⊢
    omega

/-- No place below n is free. -/
def Full {α : Type} (ps : List (α × Bool)) (n : Nat) : Prop := ∀ j, j < n → ∃ b, ps[j]? = some (b, true)

theorem frees_first {α : Type} {ps : List (α × Bool)} {ms : List (Ent Int Int)} (h : Frees ps ms) {x : Ent Int Int} (hx : x ∈ ms) (hle : ∀ y ∈ ms, le (fun x => x) x y) : ∃ (i : Nat) (a : α), x.key = (i : Int) + 1 ∧ ps[i]? = some (a, false) ∧ Full ps i := by
  obtain ⟨i, a, e, g⟩ := h.key x hx
  refine ⟨i, a, e, g, fun j hj => ?_⟩
  obtain ⟨b, c, hb⟩ := at_of_lt (Nat.lt_trans hj (lt_of_at g))
  cases c with
  | true => exact ⟨b, hb⟩
  | false =>
    obtain ⟨y, hy, e2⟩ := h.all j b hb
    have h1 := hle y hy
    have h2 := h.rank x hx
    have h3 := h.rank y hy
    simp only [le] at h1
    omega
theorem frees_none {α : Type} {ps : List (α × Bool)} (h : Frees ps []) : Full ps ps.length := fun j hj => by
  obtain ⟨b, c, hb⟩ := at_of_lt hj
  cases c with
  | true => exact ⟨b, hb⟩
  | false =>
    obtain ⟨y, hy, -⟩ := h.all j b hb
    simp at hy

/-- The number that Put would give. -/
def FreeIs {α : Type} (ps : List (α × Bool)) (most r : Int) : Prop :=
  (∃ (i : Nat) (a : α), r = (i : Int) + 1 ∧ ps[i]? = some (a, false) ∧ Full ps i) ∨ (Full ps ps.length ∧ ((ps.length : Int) = most ∧ r = 0 ∨ (ps.length : Int) ≠ most ∧ r = (ps.length : Int) + 1))

end Go.Proofs.YtagibmgbjhemkaaGreat
