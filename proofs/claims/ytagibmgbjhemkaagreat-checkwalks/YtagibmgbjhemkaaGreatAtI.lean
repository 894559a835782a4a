/- A heap in memory (keys of one type, ranks of int). -/
import Derived.Test.YtagibmgbjhemkaaGreatRows
import Derived.WalkKit
import Derived.WalkSpells
import Derived.WalkLawsBesides
import Derived.Laws.Externs
import Derived.Laws.OwnMore
import Derived.OneCell
import Derived.OwnWalk
import Derived.BigQuiet
import Derived.BigRegion
import Derived.StillTailTactics
import Derived.Shelf.Abstract
import Derived.Deep.QuietTactic
import Derived.Maps.OwnSet
import Derived.Maps.OwnOps
import Derived.Deep.RegionLaw
import Derived.Maps.AppendAt
namespace Go.Proofs.YtagibmgbjhemkaaGreat

section
def par (j : Nat) : Nat := (j - 1) / 2
def at_ {X : Type} [Inhabited X] (es : List X) (i : Nat) : X := es.getD i default
def swapL {X : Type} [Inhabited X] (es : List X) (i j : Nat) : List X := (es.set i (at_ es j)).set j (at_ es i)
@[simp] theorem swapL_length {X : Type} [Inhabited X] (es : List X) (i j : Nat) : (swapL es i j).length = es.length := by simp [swapL]
theorem at_set {X : Type} [Inhabited X] (es : List X) (i m : Nat) (x : X) (hi : i < es.length) : at_ (es.set i x) m = if m = i then x else at_ es m := by
  unfold at_; simp only [List.getD_eq_getElem?_getD, List.getElem?_set]
  by_cases h : m = i
  · subst h; simp [hi]
  · rw [if_neg (Ne.symm h), if_neg h]
theorem at_swap {X : Type} [Inhabited X] (es : List X) (i j m : Nat) (hi : i < es.length) (hj : j < es.length) : at_ (swapL es i j) m = if m = j then at_ es i else if m = i then at_ es j else at_ es m := by
  unfold swapL; rw [at_set _ _ _ _ (by simpa using hj), at_set _ _ _ _ hi]
theorem at_mem {X : Type} [Inhabited X] (es : List X) (i : Nat) (hi : i < es.length) : at_ es i ∈ es := by
  unfold at_; simp [List.getD_eq_getElem?_getD, List.getElem?_eq_getElem hi]
theorem mem_at {X : Type} [Inhabited X] {es : List X} {x : X} (h : x ∈ es) : ∃ i, i < es.length ∧ at_ es i = x := by
  obtain ⟨i, hi, rfl⟩ := List.mem_iff_getElem.1 h; exact ⟨i, hi, by unfold at_; simp [List.getD_eq_getElem?_getD, List.getElem?_eq_getElem hi]⟩
theorem ext_at {X : Type} [Inhabited X] {a b : List X} (hl : a.length = b.length) (h : ∀ i, i < a.length → at_ a i = at_ b i) : a = b := by
  apply List.ext_getElem hl; intro i h1 h2; have := h i h1; unfold at_ at this; simpa [List.getD_eq_getElem?_getD, List.getElem?_eq_getElem h1, List.getElem?_eq_getElem h2] using this
theorem swap_perm {X : Type} [Inhabited X] (es : List X) (i j : Nat) (hi : i < es.length) (hj : j < es.length) : (swapL es i j).Perm es := by
  have h := Array.swap_perm (xs := es.toArray) (i := i) (j := j) (by simpa using hi) (by simpa using hj)
  have e : (es.toArray.swap i j (by simpa using hi) (by simpa using hj)).toList = swapL es i j := by
    apply List.ext_getElem (by simp)
    intro m h1 h2; have hm : m < es.length := by simpa using h2
    have e2 := at_swap es i j m hi hj; have e3 : at_ (swapL es i j) m = (swapL es i j)[m] := by unfold at_; simp [List.getD_eq_getElem?_getD, List.getElem?_eq_getElem h2]
    rw [← e3, e2]; simp only [Array.getElem_toList, Array.getElem_swap, List.getElem_toArray]; have g : ∀ q (hq : q < es.length), at_ es q = es[q] := fun q hq => by unfold at_; simp [List.getD_eq_getElem?_getD, List.getElem?_eq_getElem hq]
    rw [g i hi, g j hj, g m hm]
    by_cases h3 : m = i
    · subst h3
      by_cases h4 : m = j
      · subst h4; simp
      · simp [h4]
    · by_cases h4 : m = j
      · subst h4; simp [h3]
      · simp [h3, h4]
  rw [← e]; simpa using (Array.perm_iff_toList_perm.1 h)
def Ok {X : Type} [Inhabited X] (le : X → X → Prop) (es : List X) (j : Nat) : Prop := le (at_ es (par j)) (at_ es j)
def HeapOrd {X : Type} [Inhabited X] (le : X → X → Prop) (es : List X) : Prop := ∀ j, 0 < j → j < es.length → Ok le es j
structure RiseAt {X : Type} [Inhabited X] (le : X → X → Prop) (full : Prop) (i0 k : Nat) (es : List X) : Prop where
  le0 : k ≤ i0
  lt : i0 < es.length
  a : ∀ j, 0 < j → j < es.length → j ≠ k → (par j ≠ i0 ∨ k ≠ i0 ∨ full) → Ok le es j
  b : 0 < k → ∀ c, 0 < c → c < es.length → par c = k → le (at_ es (par k)) (at_ es c)
structure SinkAt {X : Type} [Inhabited X] (le : X → X → Prop) (k : Nat) (es : List X) : Prop where
  a : ∀ j, 0 < j → j < es.length → par j ≠ k → Ok le es j
  b : 0 < k → ∀ c, 0 < c → c < es.length → par c = k → le (at_ es (par k)) (at_ es c)
theorem rise_step {X : Type} [Inhabited X] {le : X → X → Prop} (tr : ∀ a b c, le a b → le b c → le a c) {full : Prop} {i0 k : Nat} {es : List X} (h : RiseAt le full i0 k es) (hk : 0 < k) (hx : le (at_ es k) (at_ es (par k))) : RiseAt le full i0 (par k) (swapL es k (par k)) := by
  have hpk : par k < k := by unfold par; omega
  have hle := h.le0; have hkl : k < es.length := Nat.lt_of_le_of_lt h.le0 h.lt; have hs : ∀ m, at_ (swapL es k (par k)) m = if m = par k then at_ es k else if m = k then at_ es (par k) else at_ es m := fun m => at_swap es k (par k) m hkl (by omega)
  refine ⟨by omega, by simpa using h.lt, fun j hj hjl hne _ => ?_, fun hp c hc hcl hpc => ?_⟩
  · rw [swapL_length] at hjl; have hpj : par j < j := by unfold par; omega
    unfold Ok; rw [hs, hs]
    by_cases h1 : j = k
    · subst h1; rw [if_pos rfl, if_neg (by omega), if_pos rfl]; exact hx
    · rw [if_neg hne, if_neg h1]
      by_cases h2 : par j = k
      · rw [h2, if_neg (by omega), if_pos rfl]; exact h.b hk j hj hjl h2
      · by_cases h3 : par j = par k
        · rw [if_pos h3]; have := h.a j hj hjl h1 (.inl (by omega))
          unfold Ok at this; rw [h3] at this; exact tr _ _ _ hx this
        · rw [if_neg h3, if_neg h2]
          by_cases h4 : k = i0
          · exact h.a j hj hjl h1 (.inl (by omega))
          · exact h.a j hj hjl h1 (.inr (.inl h4))
  · rw [swapL_length] at hcl; have hpp : par (par k) < par k := by have : par (par k) = (par k - 1) / 2 := rfl; omega
    have hpc' : par c < c := by unfold par; omega
    rw [hs, hs, if_neg (by omega), if_neg (by omega), if_neg (by omega)]
    have hA := h.a (par k) hp (by omega) (by omega) (.inl (by omega))
    unfold Ok at hA
    by_cases h1 : c = k
    · subst h1; rw [if_pos rfl]; exact hA
    · rw [if_neg h1]; have := h.a c hc hcl h1 (.inl (by omega))
      unfold Ok at this; rw [hpc] at this; exact tr _ _ _ hA this
theorem rise_end {X : Type} [Inhabited X] {le : X → X → Prop} (tr : ∀ a b c, le a b → le b c → le a c) {full : Prop} {i0 k : Nat} {es : List X} (h : RiseAt le full i0 k es) (he : k = 0 ∨ le (at_ es (par k)) (at_ es k)) : (full → HeapOrd le es) ∧ SinkAt le i0 es := by
  have ok : ∀ j, 0 < j → j < es.length → (par j ≠ i0 ∨ k ≠ i0 ∨ full) → Ok le es j := fun j hj hjl hc => by
    by_cases h1 : j = k
    · subst h1; rcases he with he | he
      · omega
      · exact he
    · exact h.a j hj hjl h1 hc
  refine ⟨fun hf j hj hjl => ok j hj hjl (.inr (.inr hf)), fun j hj hjl hp => ok j hj hjl (.inl hp), fun hi c hc hcl hpc => ?_⟩
  by_cases hk : k = i0
  · subst hk; exact h.b hi c hc hcl hpc
  · have h1 := ok i0 hi h.lt (.inr (.inl hk)); have h2 := ok c hc hcl (.inr (.inl hk)); unfold Ok at h1 h2; rw [hpc] at h2; exact tr _ _ _ h1 h2
theorem sink_step {X : Type} [Inhabited X] {le : X → X → Prop} {k c0 : Nat} {es : List X} (h : SinkAt le k es) (hc0 : c0 < es.length) (hp0 : 0 < c0) (hpc0 : par c0 = k) (hmin : ∀ c, 0 < c → c < es.length → par c = k → le (at_ es c0) (at_ es c)) (hx : le (at_ es c0) (at_ es k)) : SinkAt le c0 (swapL es k c0) := by
  have hk : k < c0 := by unfold par at hpc0; omega
  have hs : ∀ m, at_ (swapL es k c0) m = if m = c0 then at_ es k else if m = k then at_ es c0 else at_ es m := fun m => at_swap es k c0 m (by omega) hc0
  refine ⟨fun j hj hjl hne => ?_, fun _ c hc hcl hpc => ?_⟩
  · rw [swapL_length] at hjl; unfold Ok; rw [hs, hs, if_neg hne]
    by_cases h1 : par j = k
    · rw [if_pos h1]
      by_cases h2 : j = c0
      · rw [if_pos h2]; exact hx
      · rw [if_neg h2, if_neg (by unfold par at h1; omega)]; exact hmin j hj hjl h1
    · rw [if_neg h1]
      by_cases h3 : j = k
      · subst h3; rw [if_neg (by omega), if_pos rfl]
        exact h.b hj c0 hp0 hc0 hpc0
      · rw [if_neg (fun e => h1 (by rw [e]; exact hpc0)), if_neg h3]; exact h.a j hj hjl h1
  · rw [swapL_length] at hcl; rw [hs, hs, hpc0, if_neg (by omega), if_pos rfl, if_neg (by unfold par at hpc; omega), if_neg (by unfold par at hpc; omega)]
    have := h.a c hc hcl (by omega)
    unfold Ok at this; rw [hpc] at this; exact this
theorem sink_end {X : Type} [Inhabited X] {le : X → X → Prop} {k : Nat} {es : List X} (h : SinkAt le k es) (he : ∀ c, 0 < c → c < es.length → par c = k → le (at_ es k) (at_ es c)) : HeapOrd le es := fun j hj hjl => by
  by_cases h1 : par j = k
  · unfold Ok; rw [h1]; exact he j hj hjl h1
  · exact h.a j hj hjl h1
theorem root_least {X : Type} [Inhabited X] {le : X → X → Prop} (tr : ∀ a b c, le a b → le b c → le a c) (rf : ∀ a, le a a) {es : List X} (h : HeapOrd le es) : ∀ j, j < es.length → le (at_ es 0) (at_ es j) := by
  intro j
  induction j using Nat.strongRecOn with
  | _ j ih =>
    intro hj
    by_cases h0 : j = 0
    · subst h0; exact rf _
    · have hp : par j < j := by unfold par; omega
      exact tr _ _ _ (ih (par j) hp (by omega)) (h j (by omega) hj)
theorem sinkAt_cut {X : Type} [Inhabited X] {le : X → X → Prop} (tr : ∀ a b c, le a b → le b c → le a c) {es : List X} {i : Nat} (h : HeapOrd le es) (hi : i < es.length - 1) : RiseAt le False i i ((swapL es i (es.length - 1)).take (es.length - 1)) := by
  have hl : ((swapL es i (es.length - 1)).take (es.length - 1)).length = es.length - 1 := by simp
  have hat : ∀ m, m < es.length - 1 → at_ ((swapL es i (es.length - 1)).take (es.length - 1)) m = if m = i then at_ es (es.length - 1) else at_ es m := fun m hm => by
    have e1 : at_ ((swapL es i (es.length - 1)).take (es.length - 1)) m = at_ (swapL es i (es.length - 1)) m := by
      unfold at_; rw [List.getD_eq_getElem?_getD, List.getD_eq_getElem?_getD, List.getElem?_take_of_lt hm]
    rw [e1, at_swap _ _ _ _ (by omega) (by omega), if_neg (by omega)]
  refine ⟨Nat.le_refl _, by rw [hl]; exact hi, fun j hj hjl hne hc => ?_, fun h0 c hc hcl hpc => ?_⟩
  · rw [hl] at hjl; have hpj : par j < j := by unfold par; omega
    have hpi : par j ≠ i := by rcases hc with hc | hc | hc; exact hc; exact absurd rfl hc; exact hc.elim
    unfold Ok; rw [hat _ (by omega), hat _ hjl, if_neg hpi, if_neg hne]
    exact h j hj (by omega)
  · rw [hl] at hcl; have hpc' : par c < c := by unfold par; omega
    have hpi : par i < i := by unfold par; omega
    rw [hat _ (by omega), hat _ hcl, if_neg (by omega), if_neg (by omega)]
    have h1 := h i h0 (by omega)
    have h2 := h c hc (by omega)
    unfold Ok at h1 h2; rw [hpc] at h2; exact tr _ _ _ h1 h2
end

section
structure Ent (α ρ : Type) where
  key : α
  rank : ρ
  turn : Nat
def le {α ρ : Type} (g : ρ → Int) (a b : Ent α ρ) : Prop := g a.rank < g b.rank ∨ g a.rank = g b.rank ∧ a.turn ≤ b.turn
def aheadB {α ρ : Type} (g : ρ → Int) (a b : Ent α ρ) : Bool := if a.turn < b.turn then !decide (g b.rank < g a.rank) else decide (g a.rank < g b.rank)
theorem le_trans {α ρ : Type} (g : ρ → Int) (a b c : Ent α ρ) (h : le g a b) (h2 : le g b c) : le g a c := by unfold le at *; omega
theorem le_refl {α ρ : Type} (g : ρ → Int) (a : Ent α ρ) : le g a a := by unfold le; omega
theorem le_of_ahead {α ρ : Type} (g : ρ → Int) {a b : Ent α ρ} (h : aheadB g a b = true) : le g a b := by
  unfold aheadB at h; unfold le; split at h <;> simp at h <;> omega
theorem le_of_not_ahead {α ρ : Type} (g : ρ → Int) {a b : Ent α ρ} (h : aheadB g a b = false) : le g b a := by
  unfold aheadB at h; unfold le; split at h <;> simp at h <;> omega
def KeysOnce {α ρ : Type} (es : List (Ent α ρ)) : Prop := es.Pairwise (fun a b => a.key ≠ b.key)
theorem keysOnce_perm {α ρ : Type} {a b : List (Ent α ρ)} (h : a.Perm b) (hk : KeysOnce a) : KeysOnce b := (h.pairwise_iff (fun {_ _} h => h.symm)).1 hk
theorem keysOnce_at {α ρ : Type} [Inhabited (Ent α ρ)] {es : List (Ent α ρ)} (h : KeysOnce es) {i j : Nat} (hi : i < es.length) (hj : j < es.length) (e : (at_ es i).key = (at_ es j).key) : i = j := by
  have g : ∀ q (hq : q < es.length), at_ es q = es[q] := fun q hq => by unfold at_; simp [List.getD_eq_getElem?_getD, List.getElem?_eq_getElem hq]
  rw [g i hi, g j hj] at e; rcases Nat.lt_trichotomy i j with h1 | h1 | h1
  · exact absurd e (List.pairwise_iff_getElem.1 h i j hi hj h1)
  · exact h1
  · exact absurd e.symm (List.pairwise_iff_getElem.1 h j i hj hi h1)
def without {α ρ : Type} [DecidableEq α] (k : α) (es : List (Ent α ρ)) : List (Ent α ρ) := es.filter (fun e => decide (e.key ≠ k))
theorem take_without {α ρ : Type} [DecidableEq α] [Inhabited (Ent α ρ)] {es : List (Ent α ρ)} (h : KeysOnce es) {i : Nat} (hi : i < es.length) : ((swapL es i (es.length - 1)).take (es.length - 1)).Perm (without (at_ es i).key es) := by
  have hp := swap_perm es i (es.length - 1) hi (by omega)
  have hk : KeysOnce (swapL es i (es.length - 1)) := keysOnce_perm hp.symm h; have hl : (swapL es i (es.length - 1)).length = es.length := swapL_length _ _ _; have e1 : swapL es i (es.length - 1) = (swapL es i (es.length - 1)).take (es.length - 1) ++ [at_ es i] := by
    apply ext_at
    · simp; omega
    · intro m hm; rw [hl] at hm
      by_cases h1 : m = es.length - 1
      · rw [at_swap _ _ _ _ hi (by omega), if_pos h1]
        unfold at_; rw [List.getD_eq_getElem?_getD (l := _ ++ _), List.getElem?_append_right (by simp; omega)]
        simp [h1, hl]
      · unfold at_; rw [List.getD_eq_getElem?_getD, List.getD_eq_getElem?_getD, List.getElem?_append_left (by simp; omega), List.getElem?_take_of_lt (by omega)]
  have hs : ∀ x ∈ (swapL es i (es.length - 1)).take (es.length - 1), x.key ≠ (at_ es i).key := by
    rw [e1] at hk; exact fun x hx => (List.pairwise_append.1 hk).2.2 x hx _ (by simp)
  have hw := hp.filter (fun e => decide (e.key ≠ (at_ es i).key))
  unfold without; refine List.Perm.trans ?_ hw
  conv => rhs; rw [e1]
  rw [List.filter_append, List.filter_eq_self.2 (fun x hx => by simpa using hs x hx)]
  simp
theorem mem_without {α ρ : Type} [DecidableEq α] {k : α} {es : List (Ent α ρ)} {x : Ent α ρ} : x ∈ without k es ↔ x ∈ es ∧ x.key ≠ k := by simp [without]
theorem without_perm {α ρ : Type} [DecidableEq α] {k : α} {a b : List (Ent α ρ)} (h : a.Perm b) : (without k a).Perm (without k b) := h.filter _
structure Is {α ρ : Type} [Inhabited (Ent α ρ)] (g : ρ → Int) (es ms : List (Ent α ρ)) (n : Nat) : Prop where
  perm : es.Perm ms
  turns : ms.Pairwise (fun a b => a.turn < b.turn)
  top : ∀ x ∈ ms, x.turn < n
  ord : HeapOrd (le g) es
theorem is_nil {α ρ : Type} [Inhabited (Ent α ρ)] (g : ρ → Int) : Is g ([] : List (Ent α ρ)) [] 0 := ⟨List.Perm.nil, List.Pairwise.nil, by simp, fun j _ h => by simp at h⟩
theorem Is.push {α ρ : Type} [Inhabited (Ent α ρ)] {g : ρ → Int} {es es' ms : List (Ent α ρ)} {n : Nat} {k : α} {p : ρ} (h : Is g es ms n) (hp : es'.Perm (es ++ [⟨k, p, n⟩])) (ho : HeapOrd (le g) es') : Is g es' (ms ++ [⟨k, p, n⟩]) (n + 1) := by
  refine ⟨hp.trans (h.perm.append_right _), ?_, ?_, ho⟩
  · rw [List.pairwise_append]; refine ⟨h.turns, by simp, fun a ha b hb => ?_⟩
    simp at hb; subst hb; exact h.top a ha
  · intro x hx; rcases List.mem_append.1 hx with hx | hx
    · have := h.top x hx; omega
    · simp at hx; subst hx; simp
theorem Is.without {α ρ : Type} [DecidableEq α] [Inhabited (Ent α ρ)] {g : ρ → Int} {es es' ms : List (Ent α ρ)} {n : Nat} {k : α} (h : Is g es ms n) (hp : es'.Perm (without k es)) (ho : HeapOrd (le g) es') : Is g es' (without k ms) n :=
  ⟨hp.trans (without_perm h.perm), h.turns.filter _, fun x hx => h.top x (mem_without.1 hx).1, ho⟩
theorem Is.first {α ρ : Type} [Inhabited (Ent α ρ)] {g : ρ → Int} {es ms : List (Ent α ρ)} {n : Nat} (h : Is g es ms n) (h0 : 0 < es.length) : at_ es 0 ∈ ms ∧ ∀ x ∈ ms, le g (at_ es 0) x := by
  refine ⟨h.perm.mem_iff.1 (at_mem _ _ h0), fun x hx => ?_⟩
  obtain ⟨j, hj, rfl⟩ := mem_at (h.perm.mem_iff.2 hx); exact root_least (le_trans g) (le_refl g) h.ord j hj
end

section
open Go.RowKit Go.Maps
theorem hide {p : Prop} (h : p) : Hid p := h
theorem unhide {p : Prop} (h : Hid p) : p := h
theorem below_drewN {B : Nat} {a w : World} (h : Below B a w) (q : Nat) : Below B a (w.drewN q) := ⟨h.os, h.tape, h.output, h.size, h.block⟩
theorem mixed : Tryz.prog.follows .mixedOrders = true := by kernel_rfl
theorem region_still_tail {P : Program} {id : Nat} {Q : Exit → Act → World → Prop} {a : Act} {w : World} {l : List Oper} (n : Nat) (hm : P.follows .mixedOrders = true) (hB : Region.lexTailB .any l.toArray n = true)
    (h : wpStill P l.toArray w.drew (fun a' => wpList P l.toArray Q (l.drop n) a' w.drew) (l.take n) a) : (Code.region id l.toArray true).wp P Q a w := wp_region_still_tail n hm hB h
/-! ### entries of three cells -/
def enc3 {X : Type} (a b c : X → Value) (es : List X) : List Value := es.flatMap fun e => [a e, b e, c e]
theorem enc3_cons {X : Type} (a b c : X → Value) (x : X) (es : List X) : enc3 a b c (x :: es) = a x :: b x :: c x :: enc3 a b c es := by simp [enc3]
theorem enc3_append {X : Type} (a b c : X → Value) (x y : List X) : enc3 a b c (x ++ y) = enc3 a b c x ++ enc3 a b c y := by simp [enc3]
theorem enc3_take {X : Type} (a b c : X → Value) : ∀ (es : List X) (i : Nat), (enc3 a b c es).take (i * 3) = enc3 a b c (es.take i)
  | [], i => by simp [enc3]
  | r :: rs, 0 => by simp [enc3]
  | r :: rs, i + 1 => by
    rw [show (i + 1) * 3 = i * 3 + 1 + 1 + 1 by omega, enc3_cons, List.take_succ_cons, List.take_succ_cons, List.take_succ_cons, enc3_take a b c rs i, List.take_succ_cons, enc3_cons]
theorem enc3_at {X : Type} [Inhabited X] (a b c : X → Value) : ∀ (es : List X) (i : Nat), i < es.length → (enc3 a b c es)[i * 3]? = some (a (at_ es i)) ∧ (enc3 a b c es)[i * 3 + 1]? = some (b (at_ es i)) ∧ (enc3 a b c es)[i * 3 + 2]? = some (c (at_ es i))
  | [], i, h => by simp at h
  | r :: rs, 0, _ => by simp [enc3, at_]
  | r :: rs, i + 1, h => by
    have := enc3_at a b c rs i (by simpa using h)
    rw [show (i + 1) * 3 = i * 3 + 1 + 1 + 1 by omega, show i * 3 + 1 + 1 + 1 + 1 = (i * 3 + 1) + 1 + 1 + 1 by omega, show i * 3 + 1 + 1 + 1 + 2 = (i * 3 + 2) + 1 + 1 + 1 by omega, enc3_cons]
    simp only [List.getElem?_cons_succ]; have e : at_ (r :: rs) (i + 1) = at_ rs i := by simp [at_]
    rw [e]; exact this
theorem enc3_set {X : Type} (a b c : X → Value) : ∀ (es : List X) (i : Nat) (x : X), enc3 a b c (es.set i x) = (((enc3 a b c es).set (i * 3) (a x)).set (i * 3 + 1) (b x)).set (i * 3 + 2) (c x)
  | [], i, x => by simp [enc3]
  | r :: rs, 0, x => by simp [enc3]
  | r :: rs, i + 1, x => by
    rw [List.set_cons_succ, enc3_cons, enc3_set a b c rs i x, enc3_cons, show (i + 1) * 3 = i * 3 + 1 + 1 + 1 by omega, show i * 3 + 1 + 1 + 1 + 1 = (i * 3 + 1) + 1 + 1 + 1 by omega, show i * 3 + 1 + 1 + 1 + 2 = (i * 3 + 2) + 1 + 1 + 1 by omega]
    simp only [List.set_cons_succ]
structure Turned (S : Nat → Prop) (w w' : World) : Prop where
  os : w'.os = w.os
  tape : w'.tape = w.tape
  output : w'.output = w.output
  size : w.heap.size ≤ w'.heap.size
  block : ∀ k, k < w.heap.size → ¬ S k → w'.heap[k]? = w.heap[k]?
theorem Turned.refl (S : Nat → Prop) (w : World) : Turned S w w := ⟨rfl, rfl, rfl, Nat.le_refl _, fun _ _ _ => rfl⟩
theorem Turned.drewN {S : Nat → Prop} {w w' : World} (h : Turned S w w') (q : Nat) : Turned S w (w'.drewN q) := ⟨h.os, h.tape, h.output, h.size, h.block⟩
theorem Turned.trans {S : Nat → Prop} {a b c : World} (h : Turned S a b) (k : Turned S b c) : Turned S a c :=
  ⟨k.os.trans h.os, k.tape.trans h.tape, k.output.trans h.output, Nat.le_trans h.size k.size, fun i hi hs => (k.block i (Nat.lt_of_lt_of_le hi h.size) hs).trans (h.block i hi hs)⟩
theorem Turned.mono {S T : Nat → Prop} {a b : World} (h : Turned S a b) (hs : ∀ k, k < a.heap.size → S k → T k) : Turned T a b :=
  ⟨h.os, h.tape, h.output, h.size, fun i hi ht => h.block i hi (fun s => ht (hs i hi s))⟩
theorem Turned.below {S : Nat → Prop} {a b : World} {B : Nat} (h : Turned S a b) (hB : B ≤ a.heap.size) (hs : ∀ k, S k → B ≤ k) : Below B a b :=
  ⟨h.os, h.tape, h.output, h.size, fun k hk => h.block k (Nat.lt_of_lt_of_le hk hB) (fun s => by have := hs k s; omega)⟩
theorem turned_of_below {S : Nat → Prop} {a b : World} (h : Below a.heap.size a b) : Turned S a b := ⟨h.os, h.tape, h.output, h.size, fun k hk _ => h.block k hk⟩
theorem turned_setCell {S : Nat → Prop} (w : World) (x : Addr) (v : Value) (hs : S x.block) : Turned S w (w.setCell x v) :=
  ⟨rfl, rfl, rfl, by simp, fun k _ hn => heap_setCell_other w x k v (fun e => hn (e ▸ hs))⟩
theorem turned_grown {S : Nat → Prop} {w w' : World} {b : Nat} (h : w.grownBy w' (some b)) (hs : S b) : Turned S w w' :=
  ⟨h.os, h.tape, h.output, h.size, fun k hk hn => h.block k hk (fun e => hn (by cases e; exact hs))⟩
def Less (lv : Value) (gg : Int → Int) : Prop := ∃ (g : Nat) (cb : Array Value), lv = .func (.func g) #[] cb ∧ (∀ args w, (callFunc g args).run Tryz.prog w = .ok (.enter g args) w) ∧
  ∀ (x y : Int) (w : World), Calls Tryz.prog g (#[.int .i64 x, .int .i64 y] ++ cb) w fun e w' => e = .returned (.bool (decide (gg x < gg y))) ∧ w' = w
theorem par_int {k : Nat} (h : 0 < k) : ((par k : Nat) : Int) = ((k : Int) - 1) / 2 := by unfold par; omega
def Foot (p m : Nat) (v : Value) (k : Nat) : Prop := k = p ∨ k = m ∨ v.ownBlock = some k
theorem grown_drew {W w' : World} {x : Option Nat} (h : W.drew.grownBy w' x) : W.grownBy w' x := ⟨h.os, h.tape, h.output, h.size, h.block⟩
theorem cell_of_heap {w w' : World} {x : Addr} (h : w'.heap[x.block]? = w.heap[x.block]?) : w'.cell? x = w.cell? x := by
  unfold World.cell?; rw [h]
theorem ownsMap_size {P : Program} {k : TypeId} {R : Value → Option (DataW Unit × List MemPlace)} {w : World} {b n : Nat} {D : DataW Unit} (h : w.ownsMap P k R b n D) : w.ownsMap P k R b (Maps.size D) D := by
  obtain ⟨es, clock, h1, h2, h3, h4⟩ := h; refine ⟨es, clock, h1, h2, ?_, h4⟩; rw [h4]; show es.size ≤ List.length _; rw [length_read]; exact Nat.le_refl _
structure MapIs {α ρ : Type} [Inhabited (Ent α ρ)] (kl : α → Lit) (D : DataW Unit) (es : List (Ent α ρ)) : Prop where
  tidy : Maps.Tidy D
  once : KeysOnce es
  size : Maps.size D = es.length
  at_ : ∀ i, i < es.length → Maps.has D (kl (at_ es i).key) = true ∧ D.atKey (kl (at_ es i).key) (.lit (.int .i64 0)) = .lit (.int .i64 i)
  only : ∀ k, Maps.has D (kl k) = true → ∃ i, i < es.length ∧ (YtagibmgbjhemkaaGreat.at_ es i).key = k
theorem mapIs_swap {α ρ : Type} [Inhabited (Ent α ρ)] {kl : α → Lit} (inj : ∀ a b, kl a = kl b → a = b) {D : DataW Unit} {es : List (Ent α ρ)} (hkl : ∀ k, WideAt.IsKeyLit (kl k)) (h : MapIs kl D es) {i j : Nat} (hi : i < es.length) (hj : j < es.length) :
    MapIs kl ((D.put (kl (at_ (swapL es i j) i).key) (.lit (.int .i64 i))).put (kl (at_ (swapL es i j) j).key) (.lit (.int .i64 j))) (swapL es i j) := by
  have ai : at_ (swapL es i j) i = at_ es j := by
    rw [at_swap _ _ _ _ hi hj]
    by_cases e : i = j
    · rw [if_pos e, e]
    · rw [if_neg e, if_pos rfl]
  have aj : at_ (swapL es i j) j = at_ es i := by rw [at_swap _ _ _ _ hi hj, if_pos rfl]
  rw [ai, aj]; have hk : KeysOnce (swapL es i j) := keysOnce_perm (swap_perm es i j hi hj).symm h.once; have t1 := h.tidy.put (hkl (at_ es j).key) (.lit (.int .i64 i)); have t2 := t1.put (hkl (at_ es i).key) (.lit (.int .i64 j)); have h1 := (h.at_ j hj).1; have h2 := (h.at_ i hi).1; have h3 : Maps.has (D.put (kl (at_ es j).key) (.lit (.int .i64 i))) (kl (at_ es i).key) = true := by
    by_cases e : kl (at_ es i).key = kl (at_ es j).key
    · rw [e]; exact has_put_same h.tidy.isMap (hkl _) _
    · rw [has_put_other e]; exact h2
  have hkeep : ∀ k, Maps.has D k = true → Maps.has ((D.put (kl (at_ es j).key) (.lit (.int .i64 i))).put (kl (at_ es i).key) (.lit (.int .i64 j))) k = true := fun k hh => by
    by_cases e : k = kl (at_ es i).key
    · rw [e]; exact has_put_same t1.isMap (hkl _) _
    · rw [has_put_other e]
      by_cases e2 : k = kl (at_ es j).key
      · rw [e2]; exact has_put_same h.tidy.isMap (hkl _) _
      · rw [has_put_other e2]; exact hh
  refine ⟨t2, hk, ?_, ?_, ?_⟩
  · rw [size_put t1, if_pos h3, size_put h.tidy, if_pos h1, swapL_length]; exact h.size
  · intro m hm; rw [swapL_length] at hm; rw [at_swap _ _ _ _ hi hj]
    by_cases e : m = j
    · rw [if_pos e]; exact ⟨hkeep _ h2, by rw [atKey_put_same t1.isMap (hkl _), e]⟩
    · rw [if_neg e]
      by_cases e2 : m = i
      · rw [if_pos e2]; refine ⟨hkeep _ h1, ?_⟩; rw [atKey_put_other (fun he => e (by rw [e2]; exact (keysOnce_at h.once hj hi (inj _ _ he)).symm)), atKey_put_same h.tidy.isMap (hkl _), e2]
      · rw [if_neg e2]; refine ⟨hkeep _ (h.at_ m hm).1, ?_⟩; rw [atKey_put_other (fun he => e2 (keysOnce_at h.once hm hi (inj _ _ he))), atKey_put_other (fun he => e (keysOnce_at h.once hm hj (inj _ _ he)))]
        exact (h.at_ m hm).2
  · intro k hh; rw [swapL_length]; have : Maps.has D (kl k) = true := by
      by_cases e : kl k = kl (at_ es i).key
      · rw [e]; exact h2
      · rw [has_put_other e] at hh
        by_cases e2 : kl k = kl (at_ es j).key
        · rw [e2]; exact h1
        · rw [has_put_other e2] at hh; exact hh
    obtain ⟨m, hm, he⟩ := h.only k this
    by_cases e : m = j
    · exact ⟨i, hi, by rw [ai, ← e]; exact he⟩
    · by_cases e2 : m = i
      · exact ⟨j, hj, by rw [aj, ← e2]; exact he⟩
      · exact ⟨m, hm, by rw [at_swap _ _ _ _ hi hj, if_neg e, if_neg e2]; exact he⟩
end

section
open Go.RowKit Go.Maps
theorem at_take {X : Type} [Inhabited X] (es : List X) {k i : Nat} (h : i < k) : at_ (es.take k) i = at_ es i := by
  unfold at_; rw [List.getD_eq_getElem?_getD, List.getD_eq_getElem?_getD, List.getElem?_take_of_lt h]
theorem heapOrd_take {X : Type} [Inhabited X] {le : X → X → Prop} {es : List X} (h : HeapOrd le es) (k : Nat) : HeapOrd le (es.take k) := by
  intro j hj hjl; have h1 : j < k ∧ j < es.length := by simp at hjl; omega
  have hp : par j < j := by unfold par; omega
  unfold Ok; rw [at_take es h1.1, at_take es (by omega)]
  exact h j hj h1.2
theorem swapL_self {X : Type} [Inhabited X] (es : List X) (i : Nat) (hi : i < es.length) : swapL es i i = es := by
  apply ext_at (by simp)
  intro m hm; rw [at_swap _ _ _ _ hi hi]; split
  · rename_i e; rw [e]
  · rfl
theorem mapIs_drop {α ρ : Type} [Inhabited (Ent α ρ)] {kl : α → Lit} (inj : ∀ a b, kl a = kl b → a = b) {D : DataW Unit} {es : List (Ent α ρ)} (h : MapIs kl D es) {last : Nat} (hl : es.length = last + 1) :
    MapIs kl (D.del (kl (at_ es last).key)) (es.take last) := by
  have hlen : (es.take last).length = last := by simp; omega
  have h1 := (h.at_ last (by omega)).1
  have hne : ∀ i, i < last → kl (at_ es i).key ≠ kl (at_ es last).key := fun i hi e => by
    have := keysOnce_at h.once (by omega) (by omega) (inj _ _ e); omega
  refine ⟨h.tidy.del _, List.Pairwise.sublist (List.take_sublist _ _) h.once, ?_, ?_, ?_⟩
  · have := size_del (k := kl (at_ es last).key) h.tidy; rw [if_pos h1] at this; rw [hlen]; have := h.size; omega
  · intro i hi; rw [hlen] at hi; rw [at_take es hi, has_del_other (hne i hi), atKey_del_other (hne i hi)]; exact h.at_ i (by omega)
  · intro k hk; have e : kl k ≠ kl (at_ es last).key := fun e => by rw [e, has_del_same] at hk; cases hk
    rw [has_del_other e] at hk; obtain ⟨i, hi, he⟩ := h.only k hk; refine ⟨i, ?_, ?_⟩
    · rw [hlen]; rcases Nat.lt_or_ge i last with h2 | h2
      · exact h2
      · have : i = last := by omega
        subst this; exact absurd (by rw [he]) e
    · rw [at_take es ?_]
      · exact he
      · rcases Nat.lt_or_ge i last with h2 | h2
        · exact h2
        · have : i = last := by omega
          subst this; exact absurd (by rw [he]) e
theorem mapIs_push {α ρ : Type} [Inhabited (Ent α ρ)] {kl : α → Lit} (inj : ∀ a b, kl a = kl b → a = b) (hkl : ∀ k, WideAt.IsKeyLit (kl k)) {D : DataW Unit} {es : List (Ent α ρ)} (h : MapIs kl D es) (x : Ent α ρ) (hx : Maps.has D (kl x.key) = false) :
    MapIs kl (D.put (kl x.key) (.lit (.int .i64 es.length))) (es ++ [x]) := by
  have hat : ∀ i, at_ (es ++ [x]) i = if i < es.length then at_ es i else if i = es.length then x else default := fun i => by
    unfold at_; rw [List.getD_eq_getElem?_getD, List.getD_eq_getElem?_getD]; split
    · rename_i h1; rw [List.getElem?_append_left h1]
    · rename_i h1; rw [List.getElem?_append_right (by omega)]
      split
      · rename_i h2; subst h2; simp
      · rename_i h2; rw [List.getElem?_eq_none (by simp; omega)]
        rfl
  have hne : ∀ i, i < es.length → kl (at_ es i).key ≠ kl x.key := fun i hi e => by
    have := (h.at_ i hi).1; rw [e, hx] at this; cases this
  refine ⟨h.tidy.put (hkl _) _, ?_, ?_, ?_, ?_⟩
  · refine List.pairwise_append.2 ⟨h.once, by simp, fun a ha b hb => ?_⟩
    simp at hb; subst hb; obtain ⟨i, hi, rfl⟩ := mem_at ha; exact fun e => hne i hi (by rw [e])
  · rw [size_put h.tidy, hx]; simp [h.size]
  · intro i hi; rw [hat]; simp at hi
    by_cases h1 : i < es.length
    · rw [if_pos h1, has_put_other (hne i h1), atKey_put_other (hne i h1)]; exact h.at_ i h1
    · have : i = es.length := by omega
      subst this; rw [if_neg h1, if_pos rfl]; exact ⟨has_put_same h.tidy.isMap (hkl _) _, atKey_put_same h.tidy.isMap (hkl _) _ _⟩
  · intro k hk
    by_cases e : kl k = kl x.key
    · exact ⟨es.length, by simp, by rw [hat, if_neg (by omega), if_pos rfl]; exact (inj _ _ e).symm⟩
    · rw [has_put_other e] at hk; obtain ⟨i, hi, he⟩ := h.only k hk; exact ⟨i, by simp; omega, by rw [hat, if_pos hi]; exact he⟩
theorem row_cut {w : World} {e : TypeId} {s g c L K : Nat} {xs : List Value} (h : w.ownsRow 0 e s (.slice (some ⟨g, 0, none⟩) L c) L xs) (hK : K ≤ L) : w.ownsRow 0 e s (.slice (some ⟨g, 0, none⟩) K c) K (xs.take (K * s)) := by
  have hl := h.1; have hm : K * s ≤ L * s := Nat.mul_le_mul_right s hK; refine ⟨by rw [List.length_take]; omega, ?_⟩
  rcases h.2 with ⟨h', _⟩ | ⟨g', cap', cur, h', hb, hg, hnc, hcm, hcs, htake⟩
  · simp at h'
  · simp only [Value.slice.injEq, Option.some.injEq, Addr.mk.injEq, and_true, true_and] at h'; obtain ⟨rfl, rfl⟩ := h'; exact .inr ⟨g, c, cur, rfl, hb, hg, by omega, hcm, hcs, by rw [← htake, List.take_take, Nat.min_eq_left hm]⟩
end

section
open Go.RowKit Go.Maps
theorem step_append_run {P : Program} {ops : Array Oper} {o : Oper} {a : Act} {w : World} {K : Act → World → Prop} {Q : Exit → Act → World → Prop} {E : Prop}
    (hg : o.guard = none) (s x : Operand) (t : TypeId) (hop : o.op = Op.call { callee := Callee.builtin Builtin.append, args := #[s, x], argTypes := #[t, t] }) (v1 v2 : Value) (hs : a.eval s = v1) (hx : a.eval x = v2) (v' : Value) (w' : World)
    (hrun : (Builtin.append_ #[t, t] o.type #[v1, v2]).run P w = .ok v' w') (hK : K (a.put o.dst v') w') :
    if Region.wanted o (yielded ops a.tmps) = true then Oper.wp P o a w K Q else E := by
  have hw : Region.wanted o (yielded ops a.tmps) = true := by simp [Region.wanted, hg]
  rw [if_pos hw]; unfold Oper.wp; simp only [execOp, hop, resolve, invoke, builtin, Sem.run_bind, Sem.run_pure, Result.andThen_ok, List.map_toArray, List.map_cons, List.map_nil, hs, hx, hrun]; exact hK
theorem cell_turned {W w2 : World} {m : Nat} (ht : W.mapTurned w2 m) (x : Addr) (hx : x.block ≠ m) : w2.cell? x = W.cell? x := by
  obtain ⟨es, cl, es', cl', hb', rfl⟩ := ht; exact cell_of_heap (ChangeMaps.heap_setBlock_other hb' _ hx)
theorem Turned.then_ {S T : Nat → Prop} {a b c : World} (h : Turned S a b) (k : Turned T b c) (hs : ∀ i, i < a.heap.size → T i → S i) : Turned S a c :=
  ⟨k.os.trans h.os, k.tape.trans h.tape, k.output.trans h.output, Nat.le_trans h.size k.size, fun i hi hn => (k.block i (Nat.lt_of_lt_of_le hi h.size) (fun t => hn (hs i hi t))).trans (h.block i hi hn)⟩
theorem equalIn_func {P : Program} (w : World) (d : Nat) (t : TypeId) (ps rs : Array TypeId) (vr : Bool) (f : Fn) (cb : Array Value) (h : P.underlying t = some (.func ps rs vr)) :
    (Op.equalIn (d + 1) t (.func f #[] cb) .nilFunc).run P w = .ok false w := by
  simp [Op.equalIn, run_underlying h]
theorem eql_func (f : Fn) (cb : Array Value) (w : World) : (binOp .eql 163 (.func f #[] cb) .nilFunc).run Tryz.prog w = .ok (.bool false) w := by
  simp only [binOp]; simp [Op.equal, Op.maxDepth, equalIn_func w 9999 163 _ _ _ f cb Tryz.underlying163]
theorem cells_new3 (w : World) (x y z : Value) (t : TypeId) : ∀ j u, [x, y, z][j]? = some u → (w.alloc (.cells #[x, y, z] t)).drew.cell? ((⟨w.heap.size, 0, none⟩ : Addr).add j) = some u := by
  intro j u hj; have add : (⟨w.heap.size, 0, none⟩ : Addr).add j = ⟨w.heap.size, j, none⟩ := by unfold Addr.add; split <;> simp_all
  rw [add]; have h1 : j < 3 := by
    have := (List.getElem?_eq_some_iff.1 hj).1; simpa using this
  show (w.alloc (.cells #[x, y, z] t)).cell? _ = _; rw [World.cell?_alloc_at _ _ _ _ (by simp)]
  match j, h1 with
  | 0, _ => simpa using hj
  | 1, _ => simpa using hj
  | 2, _ => simpa using hj
end

section
open Go.RowKit Go.Maps
abbrev EntI := Ent Int Int
def klI : Int → Lit := (fun k : Int => Lit.int .i64 k)
def KeyOkI : Int → Prop := (fun k : Int => (Lit.int .i64 k).wf = true)
def encI (es : List EntI) : List Value := enc3 (fun e => .int .i64 (e.key)) (fun e => .int .i64 e.rank) (fun e => .int .i64 e.turn) es
theorem lawI : Keyed Tryz.prog 3 := int_keyed Tryz.underlying3
theorem keyI {k : Int} (h : KeyOkI k) : keyOf Tryz.prog 3 (.int .i64 (k)) = some (klI k) := keyOf_int_mk Tryz.underlying3 h
theorem injI (a b : Int) (h : klI a = klI b) : a = b := by
  simpa [klI] using h
theorem litI (k : Int) : WideAt.IsKeyLit (klI k) := by simp [klI, WideAt.IsKeyLit]
structure HAtI [Inhabited EntI] (w : World) (p m : Nat) (lv v : Value) (es : List EntI) (n : Nat) : Prop where
  box : w.heap[p]? = some (.cells #[lv, v, .map (some m), .int .i64 n] 183 (0, 0))
  row : w.ownsRow 0 190 3 v es.length (encI es)
  map : ∃ D, w.ownsMap Tryz.prog 3 (plainElem Tryz.prog 3) m es.length D ∧ MapIs klI D es
  keys : ∀ i, i < es.length → KeyOkI (at_ es i).key
  ne1 : v.ownBlock ≠ some p
  ne2 : v.ownBlock ≠ some m
  ne3 : m ≠ p
theorem HAtI.cells [Inhabited EntI] {w : World} {p m : Nat} {lv v : Value} {es : List EntI} {n : Nat} (h : HAtI w p m lv v es n) :
    w.cell? ⟨p, 0, none⟩ = some lv ∧ w.cell? ⟨p, 1, none⟩ = some v ∧ w.cell? ⟨p, 2, none⟩ = some (.map (some m)) ∧ w.cell? ⟨p, 3, none⟩ = some (.int .i64 n) ∧ ∀ o, w.frozen? ⟨p, o, none⟩ = false := by
  refine ⟨?_, ?_, ?_, ?_, fun o => frozen_of_row w p o _ _ h.box⟩ <;> rw [cell_of_row w p _ _ _ _ h.box] <;> rfl
theorem HAtI.lt [Inhabited EntI] {w : World} {p m : Nat} {lv v : Value} {es : List EntI} {n : Nat} (h : HAtI w p m lv v es n) {k : Nat} (hk : Foot p m v k) : k < w.heap.size := by
  rcases hk with rfl | rfl | hk
  · exact (Array.getElem?_eq_some_iff.1 h.box).1
  · obtain ⟨D, hD, -⟩ := h.map; exact hD.lt
  · exact (h.row.lt k hk).2
theorem HAtI.kept [Inhabited EntI] {w w' : World} {p m : Nat} {lv v : Value} {es : List EntI} {n : Nat} (h : HAtI w p m lv v es n) (hk : ∀ k, Foot p m v k → w'.heap[k]? = w.heap[k]?) : HAtI w' p m lv v es n := by
  obtain ⟨D, hD, hM⟩ := h.map; refine ⟨(hk p (.inl rfl)).trans h.box, ⟨h.row.1, ?_⟩, ⟨D, ?_, hM⟩, h.keys, h.ne1, h.ne2, h.ne3⟩
  · rcases h.row.2 with hn | ⟨g, cap, cur, rfl, hb, hgg, rest⟩
    · exact .inl hn
    · exact .inr ⟨g, cap, cur, rfl, hb, (hk g (.inr (.inr rfl))).trans hgg, rest⟩
  · obtain ⟨es', clock, h1, h2⟩ := hD; exact ⟨es', clock, (hk m (.inr (.inl rfl))).trans h1, h2⟩
theorem HAtI.drewN [Inhabited EntI] {w : World} {p m : Nat} {lv v : Value} {es : List EntI} {n : Nat} (h : HAtI w p m lv v es n) (q : Nat) : HAtI (w.drewN q) p m lv v es n := h.kept (fun _ _ => rfl)
theorem HAtI.some_ [Inhabited EntI] {w : World} {p m : Nat} {lv v : Value} {es : List EntI} {n : Nat} (h : HAtI w p m lv v es n) (h0 : 0 < es.length) :
    ∃ b c, v = .slice (some ⟨b, 0, none⟩) es.length c ∧ b ≠ p ∧ b ≠ m ∧ es.length ≤ c ∧ c ≤ maxLen ∧ (∀ o, w.frozen? ⟨b, o, none⟩ = false) ∧
      ∀ i, i < es.length → w.cell? ⟨b, i * 3, none⟩ = some (.int .i64 ((at_ es i).key)) ∧ w.cell? ⟨b, i * 3 + 1, none⟩ = some (.int .i64 (at_ es i).rank) ∧ w.cell? ⟨b, i * 3 + 2, none⟩ = some (.int .i64 (at_ es i).turn) := by
  have hr := h.row; have h1 := h.ne1; have h2 := h.ne2; rcases h.row.2 with ⟨-, h3⟩ | ⟨g, cap, cur, rfl, -, hg, hc, hm, -⟩
  · omega
  · have add : ∀ j, (⟨g, 0, none⟩ : Addr).add j = ⟨g, j, none⟩ := fun j => by unfold Addr.add; split <;> simp_all
    refine ⟨g, cap, rfl, fun e => h1 (by simp [Value.ownBlock, e]), fun e => h2 (by simp [Value.ownBlock, e]), hc, hm, fun o => frozen_of_row w g o _ _ hg, fun i hi => ?_⟩
    have hcl := hr.cells (g := g) rfl; obtain ⟨e1, e2, e3⟩ := enc3_at (fun e : EntI => .int .i64 (e.key)) (fun e => .int .i64 e.rank) (fun e => .int .i64 e.turn) es i hi
    have f1 := hcl _ _ e1; have f2 := hcl _ _ e2; have f3 := hcl _ _ e3; rw [add] at f1 f2 f3; exact ⟨f1, f2, f3⟩
end

end Go.Proofs.YtagibmgbjhemkaaGreat
