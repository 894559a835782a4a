/- The heap's entries as a list in the order in which they came. -/
namespace Go.Proofs.Ytbmcibofecigeaa

section
def par (j : Nat) : Nat := (j - 1) / 2


def at_ {X : Type} [Inhabited X] (es : List X) (i : Nat) : X := es.getD i default
def swapL {X : Type} [Inhabited X] (es : List X) (i j : Nat) : List X := (es.set i (at_ es j)).set j (at_ es i)

@[simp] theorem swapL_length {X : Type} [Inhabited X] (es : List X) (i j : Nat) : (swapL es i j).length = es.length := by simp [swapL]

theorem at_set {X : Type} [Inhabited X] (es : List X) (i m : Nat) (x : X) (hi : i < es.length) : at_ (es.set i x) m = if m = i then x else at_ es m := by
  unfold at_
  simp only [List.getD_eq_getElem?_getD, List.getElem?_set]
  by_cases h : m = i
  · subst h; simp [hi]
  · rw [if_neg (Ne.symm h), if_neg h]

theorem at_swap {X : Type} [Inhabited X] (es : List X) (i j m : Nat) (hi : i < es.length) (hj : j < es.length) : at_ (swapL es i j) m = if m = j then at_ es i else if m = i then at_ es j else at_ es m := by
  unfold swapL
  rw [at_set _ _ _ _ (by simpa using hj), at_set _ _ _ _ hi]

theorem at_mem {X : Type} [Inhabited X] (es : List X) (i : Nat) (hi : i < es.length) : at_ es i ∈ es := by
  unfold at_; simp [List.getD_eq_getElem?_getD, List.getElem?_eq_getElem hi]
theorem mem_at {X : Type} [Inhabited X] {es : List X} {x : X} (h : x ∈ es) : ∃ i, i < es.length ∧ at_ es i = x := by
  obtain ⟨i, hi, rfl⟩ := List.mem_iff_getElem.1 h
  exact ⟨i, hi, by unfold at_; simp [List.getD_eq_getElem?_getD, List.getElem?_eq_getElem hi]⟩

theorem ext_at {X : Type} [Inhabited X] {a b : List X} (hl : a.length = b.length) (h : ∀ i, i < a.length → at_ a i = at_ b i) : a = b := by
  apply List.ext_getElem hl
  intro i h1 h2
  have := h i h1
  unfold at_ at this
  simpa [List.getD_eq_getElem?_getD, List.getElem?_eq_getElem h1, List.getElem?_eq_getElem h2] using this

theorem swap_perm {X : Type} [Inhabited X] (es : List X) (i j : Nat) (hi : i < es.length) (hj : j < es.length) : (swapL es i j).Perm es := by
  have h := Array.swap_perm (xs := es.toArray) (i := i) (j := j) (by simpa using hi) (by simpa using hj)
  have e : (es.toArray.swap i j (by simpa using hi) (by simpa using hj)).toList = swapL es i j := by
    apply List.ext_getElem (by simp)
    intro m h1 h2
    have hm : m < es.length := by simpa using h2
    have e2 := at_swap es i j m hi hj
    have e3 : at_ (swapL es i j) m = (swapL es i j)[m] := by unfold at_; simp [List.getD_eq_getElem?_getD, List.getElem?_eq_getElem h2]
    rw [← e3, e2]
    simp only [Array.getElem_toList, Array.getElem_swap, List.getElem_toArray]
    have g : ∀ q (hq : q < es.length), at_ es q = es[q] := fun q hq => by unfold at_; simp [List.getD_eq_getElem?_getD, List.getElem?_eq_getElem hq]
    rw [g i hi, g j hj, g m hm]
    by_cases h3 : m = i
    · subst h3
      by_cases h4 : m = j
      · subst h4; simp
      · simp [h4]
    · by_cases h4 : m = j
      · subst h4; simp [h3]
      · simp [h3, h4]
  rw [← e]
  simpa using (Array.perm_iff_toList_perm.1 h)


def Ok {X : Type} [Inhabited X] (le : X → X → Prop) (es : List X) (j : Nat) : Prop := le (at_ es (par j)) (at_ es j)
def HeapOrd {X : Type} [Inhabited X] (le : X → X → Prop) (es : List X) : Prop := ∀ j, 0 < j → j < es.length → Ok le es j

/-- What rise keeps, the entry at k, begun at i0. -/
structure RiseAt {X : Type} [Inhabited X] (le : X → X → Prop) (full : Prop) (i0 k : Nat) (es : List X) : Prop where
  le0 : k ≤ i0
  lt : i0 < es.length
  a : ∀ j, 0 < j → j < es.length → j ≠ k → (par j ≠ i0 ∨ k ≠ i0 ∨ full) → Ok le es j
  b : 0 < k → ∀ c, 0 < c → c < es.length → par c = k → le (at_ es (par k)) (at_ es c)

structure SinkAt {X : Type} [Inhabited X] (le : X → X → Prop) (k : Nat) (es : List X) : Prop where
  a : ∀ j, 0 < j → j < es.length → par j ≠ k → Ok le es j
  b : 0 < k → ∀ c, 0 < c → c < es.length → par c = k → le (at_ es (par k)) (at_ es c)


theorem rise_step {X : Type} [Inhabited X] {le : X → X → Prop} (tr : ∀ a b c, le a b → le b c → le a c) {full : Prop} {i0 k : Nat} {es : List X} (h : RiseAt le full i0 k es) (hk : 0 < k) (hx : le (at_ es k) (at_ es (par k))) : RiseAt le full i0 (par k) (swapL es k (par k)) := by
  have hpk : par k < k := by unfold par; omega
  have hle := h.le0
  have hkl : k < es.length := Nat.lt_of_le_of_lt h.le0 h.lt
  have hs : ∀ m, at_ (swapL es k (par k)) m = if m = par k then at_ es k else if m = k then at_ es (par k) else at_ es m := fun m => at_swap es k (par k) m hkl (by omega)
  refine ⟨by omega, by simpa using h.lt, fun j hj hjl hne _ => ?_, fun hp c hc hcl hpc => ?_⟩
  · rw [swapL_length] at hjl
    have hpj : par j < j := by unfold par; omega
    unfold Ok
    rw [hs, hs]
    by_cases h1 : j = k
    · subst h1
      rw [if_pos rfl, if_neg (by omega), if_pos rfl]; exact hx
    · rw [if_neg hne, if_neg h1]
      by_cases h2 : par j = k
      · rw [h2, if_neg (by omega), if_pos rfl]; exact h.b hk j hj hjl h2
      · by_cases h3 : par j = par k
        · rw [if_pos h3]
          have := h.a j hj hjl h1 (.inl (by omega))
          unfold Ok at this
          rw [h3] at this
          exact tr _ _ _ hx this
        · rw [if_neg h3, if_neg h2]
          by_cases h4 : k = i0
          · exact h.a j hj hjl h1 (.inl (by omega))
          · exact h.a j hj hjl h1 (.inr (.inl h4))
  · rw [swapL_length] at hcl
    have hpp : par (par k) < par k := by have : par (par k) = (par k - 1) / 2 := rfl; omega
    have hpc' : par c < c := by unfold par; omega
    rw [hs, hs, if_neg (by omega), if_neg (by omega), if_neg (by omega)]
    have hA := h.a (par k) hp (by omega) (by omega) (.inl (by omega))
    unfold Ok at hA
    by_cases h1 : c = k
    · subst h1; rw [if_pos rfl]; exact hA
    · rw [if_neg h1]
      have := h.a c hc hcl h1 (.inl (by omega))
      unfold Ok at this
      rw [hpc] at this
      exact tr _ _ _ hA this

theorem rise_end {X : Type} [Inhabited X] {le : X → X → Prop} (tr : ∀ a b c, le a b → le b c → le a c) {full : Prop} {i0 k : Nat} {es : List X} (h : RiseAt le full i0 k es) (he : k = 0 ∨ le (at_ es (par k)) (at_ es k)) : (full → HeapOrd le es) ∧ SinkAt le i0 es := by
  have ok : ∀ j, 0 < j → j < es.length → (par j ≠ i0 ∨ k ≠ i0 ∨ full) → Ok le es j := fun j hj hjl hc => by
    by_cases h1 : j = k
    · subst h1
      rcases he with he | he
      · omega
      · exact he
    · exact h.a j hj hjl h1 hc
  refine ⟨fun hf j hj hjl => ok j hj hjl (.inr (.inr hf)), fun j hj hjl hp => ok j hj hjl (.inl hp), fun hi c hc hcl hpc => ?_⟩
  by_cases hk : k = i0
  · subst hk; exact h.b hi c hc hcl hpc
  · have h1 := ok i0 hi h.lt (.inr (.inl hk))
    have h2 := ok c hc hcl (.inr (.inl hk))
    unfold Ok at h1 h2
    rw [hpc] at h2
    exact tr _ _ _ h1 h2

theorem sink_step {X : Type} [Inhabited X] {le : X → X → Prop} {k c0 : Nat} {es : List X} (h : SinkAt le k es) (hc0 : c0 < es.length) (hp0 : 0 < c0) (hpc0 : par c0 = k) (hmin : ∀ c, 0 < c → c < es.length → par c = k → le (at_ es c0) (at_ es c)) (hx : le (at_ es c0) (at_ es k)) : SinkAt le c0 (swapL es k c0) := by
  have hk : k < c0 := by unfold par at hpc0; omega
  have hs : ∀ m, at_ (swapL es k c0) m = if m = c0 then at_ es k else if m = k then at_ es c0 else at_ es m := fun m => at_swap es k c0 m (by omega) hc0
  refine ⟨fun j hj hjl hne => ?_, fun _ c hc hcl hpc => ?_⟩
  · rw [swapL_length] at hjl
    unfold Ok
    rw [hs, hs, if_neg hne]
    by_cases h1 : par j = k
    · rw [if_pos h1]
      by_cases h2 : j = c0
      · rw [if_pos h2]; exact hx
      · rw [if_neg h2, if_neg (by unfold par at h1; omega)]; exact hmin j hj hjl h1
    · rw [if_neg h1]
      by_cases h3 : j = k
      · subst h3
        rw [if_neg (by omega), if_pos rfl]
        exact h.b hj c0 hp0 hc0 hpc0
      · rw [if_neg (fun e => h1 (by rw [e]; exact hpc0)), if_neg h3]; exact h.a j hj hjl h1
  · rw [swapL_length] at hcl
    rw [hs, hs, hpc0, if_neg (by omega), if_pos rfl, if_neg (by unfold par at hpc; omega), if_neg (by unfold par at hpc; omega)]
    have := h.a c hc hcl (by omega)
    unfold Ok at this
    rw [hpc] at this
    exact this

theorem sink_end {X : Type} [Inhabited X] {le : X → X → Prop} {k : Nat} {es : List X} (h : SinkAt le k es) (he : ∀ c, 0 < c → c < es.length → par c = k → le (at_ es k) (at_ es c)) : HeapOrd le es := fun j hj hjl => by
  by_cases h1 : par j = k
  · unfold Ok; rw [h1]; exact he j hj hjl h1
  · exact h.a j hj hjl h1

theorem root_least {X : Type} [Inhabited X] {le : X → X → Prop} (tr : ∀ a b c, le a b → le b c → le a c) (rf : ∀ a, le a a) {es : List X} (h : HeapOrd le es) : ∀ j, j < es.length → le (at_ es 0) (at_ es j) := by
  intro j
  induction j using Nat.strongRecOn with
  | _ j ih =>
    intro hj
    by_cases h0 : j = 0
    · subst h0; exact rf _
    · have hp : par j < j := by unfold par; omega
      exact tr _ _ _ (ih (par j) hp (by omega)) (h j (by omega) hj)

/-- An end that goes. -/
theorem sinkAt_cut {X : Type} [Inhabited X] {le : X → X → Prop} (tr : ∀ a b c, le a b → le b c → le a c) {es : List X} {i : Nat} (h : HeapOrd le es) (hi : i < es.length - 1) : RiseAt le False i i ((swapL es i (es.length - 1)).take (es.length - 1)) := by
  have hl : ((swapL es i (es.length - 1)).take (es.length - 1)).length = es.length - 1 := by simp
  have hat : ∀ m, m < es.length - 1 → at_ ((swapL es i (es.length - 1)).take (es.length - 1)) m = if m = i then at_ es (es.length - 1) else at_ es m := fun m hm => by
    have e1 : at_ ((swapL es i (es.length - 1)).take (es.length - 1)) m = at_ (swapL es i (es.length - 1)) m := by
      unfold at_; rw [List.getD_eq_getElem?_getD, List.getD_eq_getElem?_getD, List.getElem?_take_of_lt hm]
    rw [e1, at_swap _ _ _ _ (by omega) (by omega), if_neg (by omega)]
  refine ⟨Nat.le_refl _, by rw [hl]; exact hi, fun j hj hjl hne hc => ?_, fun h0 c hc hcl hpc => ?_⟩
  · rw [hl] at hjl
    have hpj : par j < j := by unfold par; omega
    have hpi : par j ≠ i := by rcases hc with hc | hc | hc; exact hc; exact absurd rfl hc; exact hc.elim
    unfold Ok
    rw [hat _ (by omega), hat _ hjl, if_neg hpi, if_neg hne]
    exact h j hj (by omega)
  · rw [hl] at hcl
    have hpc' : par c < c := by unfold par; omega
    have hpi : par i < i := by unfold par; omega
    rw [hat _ (by omega), hat _ hcl, if_neg (by omega), if_neg (by omega)]
    have h1 := h i h0 (by omega)
    have h2 := h c hc (by omega)
    unfold Ok at h1 h2
    rw [hpc] at h2
    exact tr _ _ _ h1 h2
end

section
structure Ent (α ρ : Type) where
  key : α
  rank : ρ
  turn : Nat



def le {α ρ : Type} (g : ρ → Int) (a b : Ent α ρ) : Prop := g a.rank < g b.rank ∨ g a.rank = g b.rank ∧ a.turn ≤ b.turn
def aheadB {α ρ : Type} (g : ρ → Int) (a b : Ent α ρ) : Bool := if a.turn < b.turn then !decide (g b.rank < g a.rank) else decide (g a.rank < g b.rank)

theorem le_trans {α ρ : Type} (g : ρ → Int) (a b c : Ent α ρ) (h : le g a b) (h2 : le g b c) : le g a c := by unfold le at *; omega
theorem le_refl {α ρ : Type} (g : ρ → Int) (a : Ent α ρ) : le g a a := by unfold le; omega
theorem le_of_ahead {α ρ : Type} (g : ρ → Int) {a b : Ent α ρ} (h : aheadB g a b = true) : le g a b := by
  unfold aheadB at h; unfold le
  split at h <;> simp at h <;> omega
theorem le_of_not_ahead {α ρ : Type} (g : ρ → Int) {a b : Ent α ρ} (h : aheadB g a b = false) : le g b a := by
  unfold aheadB at h; unfold le
  split at h <;> simp at h <;> omega

/-- Keys stand once. -/
def KeysOnce {α ρ : Type} (es : List (Ent α ρ)) : Prop := es.Pairwise (fun a b => a.key ≠ b.key)

theorem keysOnce_perm {α ρ : Type} {a b : List (Ent α ρ)} (h : a.Perm b) (hk : KeysOnce a) : KeysOnce b := (h.pairwise_iff (fun {_ _} h => h.symm)).1 hk

theorem keysOnce_at {α ρ : Type} [Inhabited (Ent α ρ)] {es : List (Ent α ρ)} (h : KeysOnce es) {i j : Nat} (hi : i < es.length) (hj : j < es.length) (e : (at_ es i).key = (at_ es j).key) : i = j := by
  have g : ∀ q (hq : q < es.length), at_ es q = es[q] := fun q hq => by unfold at_; simp [List.getD_eq_getElem?_getD, List.getElem?_eq_getElem hq]
  rw [g i hi, g j hj] at e
  rcases Nat.lt_trichotomy i j with h1 | h1 | h1
  · exact absurd e (List.pairwise_iff_getElem.1 h i j hi hj h1)
  · exact h1
  · exact absurd e.symm (List.pairwise_iff_getElem.1 h j i hj hi h1)

theorem keysOnce_of_at {α ρ : Type} [Inhabited (Ent α ρ)] {es : List (Ent α ρ)} (h : ∀ i j, i < es.length → j < es.length → (at_ es i).key = (at_ es j).key → i = j) : KeysOnce es := by
  have g : ∀ q (hq : q < es.length), at_ es q = es[q] := fun q hq => by unfold at_; simp [List.getD_eq_getElem?_getD, List.getElem?_eq_getElem hq]
  exact List.pairwise_iff_getElem.2 fun i j hi hj hlt e => by
    have := h i j hi hj (by rw [g i hi, g j hj]; exact e)
    omega

def without {α ρ : Type} [DecidableEq α] (k : α) (es : List (Ent α ρ)) : List (Ent α ρ) := es.filter (fun e => decide (e.key ≠ k))
def lowered {α ρ : Type} [DecidableEq α] (k : α) (p : ρ) (es : List (Ent α ρ)) : List (Ent α ρ) := es.map (fun e => if e.key = k then { e with rank := p } else e)

theorem take_without {α ρ : Type} [DecidableEq α] [Inhabited (Ent α ρ)] {es : List (Ent α ρ)} (h : KeysOnce es) {i : Nat} (hi : i < es.length) : ((swapL es i (es.length - 1)).take (es.length - 1)).Perm (without (at_ es i).key es) := by
  have hp := swap_perm es i (es.length - 1) hi (by omega)
  have hk : KeysOnce (swapL es i (es.length - 1)) := keysOnce_perm hp.symm h
  have hl : (swapL es i (es.length - 1)).length = es.length := swapL_length _ _ _
  have e1 : swapL es i (es.length - 1) = (swapL es i (es.length - 1)).take (es.length - 1) ++ [at_ es i] := by
    apply ext_at
    · simp; omega
    · intro m hm
      rw [hl] at hm
      by_cases h1 : m = es.length - 1
      · rw [at_swap _ _ _ _ hi (by omega), if_pos h1]
        unfold at_
        rw [List.getD_eq_getElem?_getD (l := _ ++ _), List.getElem?_append_right (by simp; omega)]
        simp [h1, hl]
      · unfold at_
        rw [List.getD_eq_getElem?_getD, List.getD_eq_getElem?_getD, List.getElem?_append_left (by simp; omega), List.getElem?_take_of_lt (by omega)]
  have hs : ∀ x ∈ (swapL es i (es.length - 1)).take (es.length - 1), x.key ≠ (at_ es i).key := by
    rw [e1] at hk
    exact fun x hx => (List.pairwise_append.1 hk).2.2 x hx _ (by simp)
  have hw := hp.filter (fun e => decide (e.key ≠ (at_ es i).key))
  unfold without
  refine List.Perm.trans ?_ hw
  conv => rhs; rw [e1]
  rw [List.filter_append, List.filter_eq_self.2 (fun x hx => by simpa using hs x hx)]
  simp

theorem set_lowered {α ρ : Type} [DecidableEq α] [Inhabited (Ent α ρ)] {es : List (Ent α ρ)} (h : KeysOnce es) {i : Nat} (hi : i < es.length) (p : ρ) : es.set i { at_ es i with rank := p } = lowered (at_ es i).key p es := by
  apply ext_at (by simp [lowered])
  intro m hm
  have hm' : m < es.length := by simpa using hm
  rw [at_set _ _ _ _ hi]
  have e1 : at_ (lowered (at_ es i).key p es) m = if (at_ es m).key = (at_ es i).key then { at_ es m with rank := p } else at_ es m := by
    have g : at_ es m = es[m] := by unfold at_; simp [List.getD_eq_getElem?_getD, List.getElem?_eq_getElem hm']
    rw [g]
    unfold lowered
    rw [show at_ (es.map _) m = (es.map (fun e => if e.key = (at_ es i).key then { e with rank := p } else e))[m]'(by simpa using hm') from by unfold at_; rw [List.getD_eq_getElem?_getD, List.getElem?_eq_getElem (by simpa using hm')]; rfl]
    simp
  rw [e1]
  by_cases h1 : m = i
  · subst h1; simp
  · rw [if_neg h1, if_neg (fun e => h1 (keysOnce_at h hm' hi e))]

theorem mem_without {α ρ : Type} [DecidableEq α] {k : α} {es : List (Ent α ρ)} {x : Ent α ρ} : x ∈ without k es ↔ x ∈ es ∧ x.key ≠ k := by simp [without]
theorem without_perm {α ρ : Type} [DecidableEq α] {k : α} {a b : List (Ent α ρ)} (h : a.Perm b) : (without k a).Perm (without k b) := h.filter _
theorem lowered_perm {α ρ : Type} [DecidableEq α] {k : α} {p : ρ} {a b : List (Ent α ρ)} (h : a.Perm b) : (lowered k p a).Perm (lowered k p b) := h.map _
theorem keysOnce_without {α ρ : Type} [DecidableEq α] {k : α} {es : List (Ent α ρ)} (h : KeysOnce es) : KeysOnce (without k es) := h.filter _
theorem keysOnce_lowered {α ρ : Type} [DecidableEq α] {k : α} {p : ρ} {es : List (Ent α ρ)} (h : KeysOnce es) : KeysOnce (lowered k p es) := by
  unfold lowered KeysOnce
  rw [List.pairwise_map]
  refine List.Pairwise.imp ?_ h
  intro a b hab
  split <;> split <;> simpa using hab

/-- What a right heap is: its entries, in the order in which they came. -/
structure Is {α ρ : Type} [Inhabited (Ent α ρ)] (g : ρ → Int) (es ms : List (Ent α ρ)) (n : Nat) : Prop where
  perm : es.Perm ms
  turns : ms.Pairwise (fun a b => a.turn < b.turn)
  top : ∀ x ∈ ms, x.turn < n
  ord : HeapOrd (le g) es

theorem is_nil {α ρ : Type} [Inhabited (Ent α ρ)] (g : ρ → Int) : Is g ([] : List (Ent α ρ)) [] 0 := ⟨List.Perm.nil, List.Pairwise.nil, by simp, fun j _ h => by simp at h⟩

theorem Is.push {α ρ : Type} [Inhabited (Ent α ρ)] {g : ρ → Int} {es es' ms : List (Ent α ρ)} {n : Nat} {k : α} {p : ρ} (h : Is g es ms n) (hp : es'.Perm (es ++ [⟨k, p, n⟩])) (ho : HeapOrd (le g) es') : Is g es' (ms ++ [⟨k, p, n⟩]) (n + 1) := by
  refine ⟨hp.trans (h.perm.append_right _), ?_, ?_, ho⟩
  · rw [List.pairwise_append]
    refine ⟨h.turns, by simp, fun a ha b hb => ?_⟩
    simp at hb; subst hb; exact h.top a ha
  · intro x hx
    rcases List.mem_append.1 hx with hx | hx
    · have := h.top x hx; omega
    · simp at hx; subst hx; simp

theorem Is.without {α ρ : Type} [DecidableEq α] [Inhabited (Ent α ρ)] {g : ρ → Int} {es es' ms : List (Ent α ρ)} {n : Nat} {k : α} (h : Is g es ms n) (hp : es'.Perm (without k es)) (ho : HeapOrd (le g) es') : Is g es' (without k ms) n :=
  ⟨hp.trans (without_perm h.perm), h.turns.filter _, fun x hx => h.top x (mem_without.1 hx).1, ho⟩

theorem Is.lowered {α ρ : Type} [DecidableEq α] [Inhabited (Ent α ρ)] {g : ρ → Int} {es es' ms : List (Ent α ρ)} {n : Nat} {k : α} {p : ρ} (h : Is g es ms n) (hp : es'.Perm (lowered k p es)) (ho : HeapOrd (le g) es') : Is g es' (lowered k p ms) n := by
  refine ⟨hp.trans (lowered_perm h.perm), ?_, ?_, ho⟩
  · unfold Go.Proofs.Ytbmcibofecigeaa.lowered
    rw [List.pairwise_map]
    refine List.Pairwise.imp ?_ h.turns
    intro a b hab
    split <;> split <;> simpa using hab
  · intro x hx
    obtain ⟨y, hy, rfl⟩ := List.mem_map.1 hx
    have := h.top y hy
    split <;> simpa using this

theorem Is.first {α ρ : Type} [Inhabited (Ent α ρ)] {g : ρ → Int} {es ms : List (Ent α ρ)} {n : Nat} (h : Is g es ms n) (h0 : 0 < es.length) : at_ es 0 ∈ ms ∧ ∀ x ∈ ms, le g (at_ es 0) x := by
  refine ⟨h.perm.mem_iff.1 (at_mem _ _ h0), fun x hx => ?_⟩
  obtain ⟨j, hj, rfl⟩ := mem_at (h.perm.mem_iff.2 hx)
  exact root_least (le_trans g) (le_refl g) h.ord j hj
end

end Go.Proofs.Ytbmcibofecigeaa
