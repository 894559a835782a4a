/- A binary heap as a list, by plain mathematics. -/
namespace Go.Proofs.YtagibmgbjhemkaaGreat

def par (j : Nat) : Nat := (j - 1) / 2


def at_ {X : Type} [Inhabited X] (es : List X) (i : Nat) : X := es.getD i default
def swapL {X : Type} [Inhabited X] (es : List X) (i j : Nat) : List X := (es.set i (at_ es j)).set j (at_ es i)

@[simp] theorem swapL_length {X : Type} [Inhabited X] (es : List X) (i j : Nat) : (swapL es i j).length = es.length := by simp [swapL]

theorem at_set {X : Type} [Inhabited X] (es : List X) (i m : Nat) (x : X) (hi : i < es.length) : at_ (es.set i x) m = if m = i then x else at_ es m := by
  unfold at_
  simp only [List.getD_eq_getElem?_getD, List.getElem?_set]
  by_cases h : m = i
  · subst h; simp [hi]
  · rw [if_neg (Ne.symm h), if_neg h]

theorem at_swap {X : Type} [Inhabited X] (es : List X) (i j m : Nat) (hi : i < es.length) (hj : j < es.length) : at_ (swapL es i j) m = if m = j then at_ es i else if m = i then at_ es j else at_ es m := by
  unfold swapL
  rw [at_set _ _ _ _ (by simpa using hj), at_set _ _ _ _ hi]

theorem at_mem {X : Type} [Inhabited X] (es : List X) (i : Nat) (hi : i < es.length) : at_ es i ∈ es := by
  unfold at_; simp [List.getD_eq_getElem?_getD, List.getElem?_eq_getElem hi]
theorem mem_at {X : Type} [Inhabited X] {es : List X} {x : X} (h : x ∈ es) : ∃ i, i < es.length ∧ at_ es i = x := by
  obtain ⟨i, hi, rfl⟩ := List.mem_iff_getElem.1 h
  exact ⟨i, hi, by unfold at_; simp [List.getD_eq_getElem?_getD, List.getElem?_eq_getElem hi]⟩

theorem ext_at {X : Type} [Inhabited X] {a b : List X} (hl : a.length = b.length) (h : ∀ i, i < a.length → at_ a i = at_ b i) : a = b := by
  apply List.ext_getElem hl
  intro i h1 h2
  have := h i h1
  unfold at_ at this
  simpa [List.getD_eq_getElem?_getD, List.getElem?_eq_getElem h1, List.getElem?_eq_getElem h2] using this

theorem swap_perm {X : Type} [Inhabited X] (es : List X) (i j : Nat) (hi : i < es.length) (hj : j < es.length) : (swapL es i j).Perm es := by
  have h := Array.swap_perm (xs := es.toArray) (i := i) (j := j) (by simpa using hi) (by simpa using hj)
  have e : (es.toArray.swap i j (by simpa using hi) (by simpa using hj)).toList = swapL es i j := by
    apply List.ext_getElem (by simp)
    intro m h1 h2
    have hm : m < es.length := by simpa using h2
    have e2 := at_swap es i j m hi hj
    have e3 : at_ (swapL es i j) m = (swapL es i j)[m] := by unfold at_; simp [List.getD_eq_getElem?_getD, List.getElem?_eq_getElem h2]
    rw [← e3, e2]
    simp only [Array.getElem_toList, Array.getElem_swap, List.getElem_toArray]
    have g : ∀ q (hq : q < es.length), at_ es q = es[q] := fun q hq => by unfold at_; simp [List.getD_eq_getElem?_getD, List.getElem?_eq_getElem hq]
    rw [g i hi, g j hj, g m hm]
    by_cases h3 : m = i
    · subst h3
      by_cases h4 : m = j
      · subst h4; simp
      · simp [h4]
    · by_cases h4 : m = j
      · subst h4; simp [h3]
      · simp [h3, h4]
  rw [← e]
  simpa using (Array.perm_iff_toList_perm.1 h)


def Ok {X : Type} [Inhabited X] (le : X → X → Prop) (es : List X) (j : Nat) : Prop := le (at_ es (par j)) (at_ es j)
def HeapOrd {X : Type} [Inhabited X] (le : X → X → Prop) (es : List X) : Prop := ∀ j, 0 < j → j < es.length → Ok le es j

/-- What rise keeps, the entry at k, begun at i0. -/
structure RiseAt {X : Type} [Inhabited X] (le : X → X → Prop) (full : Prop) (i0 k : Nat) (es : List X) : Prop where
  le0 : k ≤ i0
  lt : i0 < es.length
  a : ∀ j, 0 < j → j < es.length → j ≠ k → (par j ≠ i0 ∨ k ≠ i0 ∨ full) → Ok le es j
  b : 0 < k → ∀ c, 0 < c → c < es.length → par c = k → le (at_ es (par k)) (at_ es c)

structure SinkAt {X : Type} [Inhabited X] (le : X → X → Prop) (k : Nat) (es : List X) : Prop where
  a : ∀ j, 0 < j → j < es.length → par j ≠ k → Ok le es j
  b : 0 < k → ∀ c, 0 < c → c < es.length → par c = k → le (at_ es (par k)) (at_ es c)


theorem rise_step {X : Type} [Inhabited X] {le : X → X → Prop} (tr : ∀ a b c, le a b → le b c → le a c) {full : Prop} {i0 k : Nat} {es : List X} (h : RiseAt le full i0 k es) (hk : 0 < k) (hx : le (at_ es k) (at_ es (par k))) : RiseAt le full i0 (par k) (swapL es k (par k)) := by
  have hpk : par k < k := by unfold par; omega
  have hle := h.le0
  have hkl : k < es.length := Nat.lt_of_le_of_lt h.le0 h.lt
  have hs : ∀ m, at_ (swapL es k (par k)) m = if m = par k then at_ es k else if m = k then at_ es (par k) else at_ es m := fun m => at_swap es k (par k) m hkl (by omega)
  refine ⟨by omega, by simpa using h.lt, fun j hj hjl hne _ => ?_, fun hp c hc hcl hpc => ?_⟩
  · rw [swapL_length] at hjl
    have hpj : par j < j := by unfold par; omega
    unfold Ok
    rw [hs, hs]
    by_cases h1 : j = k
    · subst h1
      rw [if_pos rfl, if_neg (by omega), if_pos rfl]; exact hx
    · rw [if_neg hne, if_neg h1]
      by_cases h2 : par j = k
      · rw [h2, if_neg (by omega), if_pos rfl]; exact h.b hk j hj hjl h2
      · by_cases h3 : par j = par k
        · rw [if_pos h3]
          have := h.a j hj hjl h1 (.inl (by omega))
          unfold Ok at this
          rw [h3] at this
          exact tr _ _ _ hx this
        · rw [if_neg h3, if_neg h2]
          by_cases h4 : k = i0
          · exact h.a j hj hjl h1 (.inl (by omega))
          · exact h.a j hj hjl h1 (.inr (.inl h4))
  · rw [swapL_length] at hcl
    have hpp : par (par k) < par k := by have : par (par k) = (par k - 1) / 2 := rfl; omega
    have hpc' : par c < c := by unfold par; omega
    rw [hs, hs, if_neg (by omega), if_neg (by omega), if_neg (by omega)]
    have hA := h.a (par k) hp (by omega) (by omega) (.inl (by omega))
    unfold Ok at hA
    by_cases h1 : c = k
    · subst h1; rw [if_pos rfl]; exact hA
    · rw [if_neg h1]
      have := h.a c hc hcl h1 (.inl (by omega))
      unfold Ok at this
      rw [hpc] at this
      exact tr _ _ _ hA this

theorem rise_end {X : Type} [Inhabited X] {le : X → X → Prop} (tr : ∀ a b c, le a b → le b c → le a c) {full : Prop} {i0 k : Nat} {es : List X} (h : RiseAt le full i0 k es) (he : k = 0 ∨ le (at_ es (par k)) (at_ es k)) : (full → HeapOrd le es) ∧ SinkAt le i0 es := by
  have ok : ∀ j, 0 < j → j < es.length → (par j ≠ i0 ∨ k ≠ i0 ∨ full) → Ok le es j := fun j hj hjl hc => by
    by_cases h1 : j = k
    · subst h1
      rcases he with he | he
      · omega
      · exact he
    · exact h.a j hj hjl h1 hc
  refine ⟨fun hf j hj hjl => ok j hj hjl (.inr (.inr hf)), fun j hj hjl hp => ok j hj hjl (.inl hp), fun hi c hc hcl hpc => ?_⟩
  by_cases hk : k = i0
  · subst hk; exact h.b hi c hc hcl hpc
  · have h1 := ok i0 hi h.lt (.inr (.inl hk))
    have h2 := ok c hc hcl (.inr (.inl hk))
    unfold Ok at h1 h2
    rw [hpc] at h2
    exact tr _ _ _ h1 h2

theorem sink_step {X : Type} [Inhabited X] {le : X → X → Prop} {k c0 : Nat} {es : List X} (h : SinkAt le k es) (hc0 : c0 < es.length) (hp0 : 0 < c0) (hpc0 : par c0 = k) (hmin : ∀ c, 0 < c → c < es.length → par c = k → le (at_ es c0) (at_ es c)) (hx : le (at_ es c0) (at_ es k)) : SinkAt le c0 (swapL es k c0) := by
  have hk : k < c0 := by unfold par at hpc0; omega
  have hs : ∀ m, at_ (swapL es k c0) m = if m = c0 then at_ es k else if m = k then at_ es c0 else at_ es m := fun m => at_swap es k c0 m (by omega) hc0
  refine ⟨fun j hj hjl hne => ?_, fun _ c hc hcl hpc => ?_⟩
  · rw [swapL_length] at hjl
    unfold Ok
    rw [hs, hs, if_neg hne]
    by_cases h1 : par j = k
    · rw [if_pos h1]
      by_cases h2 : j = c0
      · rw [if_pos h2]; exact hx
      · rw [if_neg h2, if_neg (by unfold par at h1; omega)]; exact hmin j hj hjl h1
    · rw [if_neg h1]
      by_cases h3 : j = k
      · subst h3
        rw [if_neg (by omega), if_pos rfl]
        exact h.b hj c0 hp0 hc0 hpc0
      · rw [if_neg (fun e => h1 (by rw [e]; exact hpc0)), if_neg h3]; exact h.a j hj hjl h1
  · rw [swapL_length] at hcl
    rw [hs, hs, hpc0, if_neg (by omega), if_pos rfl, if_neg (by unfold par at hpc; omega), if_neg (by unfold par at hpc; omega)]
    have := h.a c hc hcl (by omega)
    unfold Ok at this
    rw [hpc] at this
    exact this

theorem sink_end {X : Type} [Inhabited X] {le : X → X → Prop} {k : Nat} {es : List X} (h : SinkAt le k es) (he : ∀ c, 0 < c → c < es.length → par c = k → le (at_ es k) (at_ es c)) : HeapOrd le es := fun j hj hjl => by
  by_cases h1 : par j = k
  · unfold Ok; rw [h1]; exact he j hj hjl h1
  · exact h.a j hj hjl h1

theorem root_least {X : Type} [Inhabited X] {le : X → X → Prop} (tr : ∀ a b c, le a b → le b c → le a c) (rf : ∀ a, le a a) {es : List X} (h : HeapOrd le es) : ∀ j, j < es.length → le (at_ es 0) (at_ es j) := by
  intro j
  induction j using Nat.strongRecOn with
  | _ j ih =>
    intro hj
    by_cases h0 : j = 0
    · subst h0; exact rf _
    · have hp : par j < j := by unfold par; omega
      exact tr _ _ _ (ih (par j) hp (by omega)) (h j (by omega) hj)

/-- An end that goes. -/
theorem sinkAt_cut {X : Type} [Inhabited X] {le : X → X → Prop} (tr : ∀ a b c, le a b → le b c → le a c) {es : List X} {i : Nat} (h : HeapOrd le es) (hi : i < es.length - 1) : RiseAt le False i i ((swapL es i (es.length - 1)).take (es.length - 1)) := by
  have hl : ((swapL es i (es.length - 1)).take (es.length - 1)).length = es.length - 1 := by simp
  have hat : ∀ m, m < es.length - 1 → at_ ((swapL es i (es.length - 1)).take (es.length - 1)) m = if m = i then at_ es (es.length - 1) else at_ es m := fun m hm => by
    have e1 : at_ ((swapL es i (es.length - 1)).take (es.length - 1)) m = at_ (swapL es i (es.length - 1)) m := by
      unfold at_; rw [List.getD_eq_getElem?_getD, List.getD_eq_getElem?_getD, List.getElem?_take_of_lt hm]
    rw [e1, at_swap _ _ _ _ (by omega) (by omega), if_neg (by omega)]
  refine ⟨Nat.le_refl _, by rw [hl]; exact hi, fun j hj hjl hne hc => ?_, fun h0 c hc hcl hpc => ?_⟩
  · rw [hl] at hjl
    have hpj : par j < j := by unfold par; omega
    have hpi : par j ≠ i := by rcases hc with hc | hc | hc; exact hc; exact absurd rfl hc; exact hc.elim
    unfold Ok
    rw [hat _ (by omega), hat _ hjl, if_neg hpi, if_neg hne]
    exact h j hj (by omega)
  · rw [hl] at hcl
    have hpc' : par c < c := by unfold par; omega
    have hpi : par i < i := by unfold par; omega
    rw [hat _ (by omega), hat _ hcl, if_neg (by omega), if_neg (by omega)]
    have h1 := h i h0 (by omega)
    have h2 := h c hc (by omega)
    unfold Ok at h1 h2
    rw [hpc] at h2
    exact tr _ _ _ h1 h2
end Go.Proofs.YtagibmgbjhemkaaGreat
