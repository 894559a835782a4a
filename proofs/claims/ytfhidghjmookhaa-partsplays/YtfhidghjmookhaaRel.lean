/- Parts of ints against the reference's items. -/
import Derived.Test.YtfhidghjmookhaaRefBurst
import Derived.Test.YtfhidghjmookhaaRefHeads
import Derived.Test.YtfhidghjmookhaaSideN
namespace Go.Proofs.Ytfhidghjmookhaa
open Go.RowKit Go.Maps

def In (S : List (Part Int)) (k : Int) : Prop := ∃ x ∈ S, k ∈ x.ks
def Sm (S : List (Part Int)) (a b : Int) : Prop := ∃ x ∈ S, a ∈ x.ks ∧ b ∈ x.ks

structure Rel (S : List (Part Int)) (its : List (Int × Int)) (nx : Int) : Prop where
  sorted : ∀ i j, i < j → j < its.length → lo its i < lo its j
  keys : ∀ k, In S k ↔ ∃ i, i < its.length ∧ lo its i = k
  marks : ∀ i j, i < its.length → j < its.length → (hi its i = hi its j ↔ Sm S (lo its i) (lo its j))
  fresh : ∀ i, i < its.length → hi its i < nx
  len : its.length = tot S

theorem rel_nil (nx : Int) : Rel [] [] nx := ⟨fun i j _ h => absurd h (Nat.not_lt_zero _), fun k => ⟨(fun ⟨x, hx, _⟩ => by cases hx), fun ⟨i, hi, _⟩ => absurd hi (Nat.not_lt_zero _)⟩, fun i j h => absurd h (Nat.not_lt_zero _), fun i h => absurd h (Nat.not_lt_zero _), rfl⟩

section
variable {S : List (Part Int)} {its : List (Int × Int)} {nx : Int}

theorem Rel.inj (h : Rel S its nx) {i j : Nat} (hi : i < its.length) (hj : j < its.length) (e : lo its i = lo its j) : i = j := by
  rcases Nat.lt_trichotomy i j with g | g | g
  · have := h.sorted i j g hj; omega
  · exact g
  · have := h.sorted j i g hi; omega
theorem Rel.out (h : Rel S its nx) {k : Int} : Out its k ↔ ¬ In S k := by
  rw [h.keys]
  exact ⟨fun ho ⟨i, h1, h2⟩ => ho i h1 h2, fun hn i h1 h2 => hn ⟨i, h1, h2⟩⟩
theorem Rel.at (h : Rel S its nx) {i : Nat} (hi : i < its.length) {k : Int} (e : lo its i = k) : AtIs its k i := .inr ⟨i, hi, rfl, e, fun j hj e2 => by
  have := h.inj (by omega) hi (e2.trans e.symm); omega⟩

theorem Sm.left {a b : Int} (h : Sm S a b) : In S a := by obtain ⟨x, hx, h1, -⟩ := h; exact ⟨x, hx, h1⟩
theorem Sm.right {a b : Int} (h : Sm S a b) : In S b := by obtain ⟨x, hx, -, h1⟩ := h; exact ⟨x, hx, h1⟩
theorem Sm.symm {a b : Int} (h : Sm S a b) : Sm S b a := by obtain ⟨x, hx, h1, h2⟩ := h; exact ⟨x, hx, h2, h1⟩
theorem sm_iff (hf : Fam ltN okN S) {x : Part Int} (hx : x ∈ S) {a : Int} (ha : a ∈ x.ks) (b : Int) : Sm S a b ↔ b ∈ x.ks := by
  constructor
  · rintro ⟨y, hy, h1, h2⟩
    rcases hf.of hx hy with rfl | hA
    · exact h2
    · exact absurd h1 (hA.2.2 a ha)
  · exact fun hb => ⟨x, hx, ha, hb⟩

/-- The things with x's mark are x's things. -/
theorem Rel.memb (h : Rel S its nx) (hf : Fam ltN okN S) {i : Nat} (hi1 : i < its.length) {x : Part Int} (hx : x ∈ S) (hk : lo its i ∈ x.ks) : memb its (hi its i) = x.ks := by
  refine rising_ext linN ?_ (hf.rise x hx) (fun k => ?_)
  · have hp : its.Pairwise (fun a b => ltN a.1 b.1 = true) := List.pairwise_iff_getElem.2 (fun a b ha hb hab => by
      have := h.sorted a b hab hb
      rw [lohi ha, lohi hb]
      exact decide_eq_true this)
    show ((its.filter _).map _).Pairwise _
    rw [List.pairwise_map]
    exact hp.sublist List.filter_sublist
  · unfold Ytfhidghjmookhaa.memb
    rw [List.mem_map]
    constructor
    · rintro ⟨p, hp, rfl⟩
      obtain ⟨hp1, hp2⟩ := List.mem_filter.1 hp
      obtain ⟨j, hj, rfl⟩ := List.getElem_of_mem hp1
      rw [lohi hj] at hp2 ⊢
      have hm : hi its i = hi its j := by simpa using (beq_iff_eq.1 hp2).symm
      exact (sm_iff hf hx hk _).1 ((h.marks i j hi1 hj).1 hm)
    · intro hkx
      obtain ⟨j, hj, e⟩ := (h.keys k).1 ⟨x, hx, hkx⟩
      refine ⟨its[j], List.mem_filter.2 ⟨List.getElem_mem hj, ?_⟩, ?_⟩
      · rw [lohi hj]
        have : hi its i = hi its j := (h.marks i j hi1 hj).2 ((sm_iff hf hx hk _).2 (by rw [e]; exact hkx))
        simpa using this.symm
      · rw [lohi hj]; exact e

theorem Rel.heads (h : Rel S its nx) (hf : Fam ltN okN S) : HeadsAreN S (headsR its its.length) := by
  have hx1 : ∀ i, i < its.length → ∃ x ∈ S, lo its i ∈ x.ks := fun i hi1 => (h.keys _).2 ⟨i, hi1, rfl⟩
  refine ⟨?_, fun k => ?_⟩
  · have hp : its.Pairwise (fun a b => ltN a.1 b.1 = true) := List.pairwise_iff_getElem.2 (fun a b ha hb hab => by
      have := h.sorted a b hab hb
      rw [lohi ha, lohi hb]
      exact decide_eq_true this)
    show ((List.filter _ _).map _).Pairwise _
    rw [List.pairwise_map, List.take_length]
    exact hp.sublist List.filter_sublist
  · unfold headsR
    rw [List.take_length, List.mem_map]
    constructor
    · rintro ⟨p, hp, rfl⟩
      obtain ⟨hp1, hp2⟩ := List.mem_filter.1 hp
      obtain ⟨j, hj, rfl⟩ := List.getElem_of_mem hp1
      rw [lohi hj] at hp2 ⊢
      obtain ⟨x, hx, hk⟩ := hx1 j hj
      refine ⟨x, hx, ?_⟩
      have := beq_iff_eq.1 hp2
      unfold firstOf at this
      rw [h.memb hf hj hx hk] at this
      exact this
    · rintro ⟨x, hx, rfl⟩
      have hne := hf.some_ x hx
      have hm : x.ks.headD 0 ∈ x.ks := by
        cases e : x.ks with
        | nil => exact absurd e hne
        | cons a l => simp
      obtain ⟨j, hj, e⟩ := (h.keys _).1 ⟨x, hx, hm⟩
      refine ⟨its[j], List.mem_filter.2 ⟨List.getElem_mem hj, ?_⟩, by rw [lohi hj]; exact e⟩
      rw [lohi hj]
      refine beq_iff_eq.2 ?_
      unfold firstOf
      rw [h.memb hf hj hx (by rw [e]; exact hm)]
      exact e.symm

/-! ### Add -/

theorem ins_at (k m : Int) (i j : Nat) (hi1 : i ≤ its.length) : lo (its.take i ++ (k, m) :: its.drop i) j = (if j < i then lo its j else if j = i then k else lo its (j - 1)) ∧ hi (its.take i ++ (k, m) :: its.drop i) j = if j < i then hi its j else if j = i then m else hi its (j - 1) := by
  have e : (its.take i ++ (k, m) :: its.drop i)[j]? = if j < i then its[j]? else if j = i then some (k, m) else its[j - 1]? := by
    rw [List.getElem?_append, List.length_take, show min i its.length = i by omega]
    by_cases h1 : j < i
    · rw [if_pos h1, if_pos h1, List.getElem?_take, if_pos h1]
    · rw [if_neg h1, if_neg h1]
      by_cases h2 : j = i
      · subst h2; rw [if_pos rfl, Nat.sub_self]; rfl
      · rw [if_neg h2, show j - i = (j - i - 1) + 1 by omega, List.getElem?_cons_succ, List.getElem?_drop]
        congr 1
        omega
  unfold lo hi List.getD
  rw [e]
  by_cases h1 : j < i
  · simp only [if_pos h1]; exact ⟨trivial, trivial⟩
  · simp only [if_neg h1]
    by_cases h2 : j = i
    · simp only [if_pos h2]; exact ⟨rfl, rfl⟩
    · simp only [if_neg h2]; exact ⟨trivial, trivial⟩

theorem place_ex (its : List (Int × Int)) (k : Int) : ∃ i, PlaceIs its k i := by
  by_cases hh : ∃ i, i < its.length ∧ ¬ lo its i < k
  · obtain ⟨i, h1, h2, h3⟩ := least_of its.length hh
    exact ⟨i, Nat.le_of_lt h1, fun j hj => Classical.byContradiction (fun e => h3 j hj e), fun _ => h2⟩
  · exact ⟨its.length, Nat.le_refl _, fun j hj => Classical.byContradiction (fun e => hh ⟨j, hj, e⟩), fun e => by omega⟩

theorem Rel.add (h : Rel S its nx) {k : Int} {i : Nat} (hp : PlaceIs its k i) (ho : ¬ In S k) {x : Part Int} (hx : x.ks = [k]) : Rel (S ++ [x]) (its.take i ++ (k, nx) :: its.drop i) (nx + 1) := by
  obtain ⟨p1, p2, p3⟩ := hp
  have hl : (its.take i ++ (k, nx) :: its.drop i).length = its.length + 1 := by simp; omega
  have hge : ∀ j, i ≤ j → j < its.length → k < lo its j := fun j h1 h2 => by
    have h3 := p3 (by omega)
    have h4 : lo its i ≠ k := fun e => ho ((h.keys k).2 ⟨i, by omega, e⟩)
    rcases Nat.lt_or_ge i j with g | g
    · have := h.sorted i j g h2; omega
    · obtain rfl : i = j := by omega
      omega
  -- each place of the new list: the new thing, or an old place
  have hpl : ∀ j, j < its.length + 1 → (j = i ∧ lo (its.take i ++ (k, nx) :: its.drop i) j = k ∧ hi (its.take i ++ (k, nx) :: its.drop i) j = nx) ∨ ∃ j', j' < its.length ∧ (j = j' ∧ j' < i ∨ j = j' + 1 ∧ i ≤ j') ∧ lo (its.take i ++ (k, nx) :: its.drop i) j = lo its j' ∧ hi (its.take i ++ (k, nx) :: its.drop i) j = hi its j' := fun j hj => by
    obtain ⟨e1, e2⟩ := ins_at (its := its) k nx i j p1
    by_cases h1 : j < i
    · rw [if_pos h1] at e1 e2
      exact .inr ⟨j, by omega, .inl ⟨rfl, h1⟩, e1, e2⟩
    · rw [if_neg h1] at e1 e2
      by_cases h2 : j = i
      · rw [if_pos h2] at e1 e2
        exact .inl ⟨h2, e1, e2⟩
      · rw [if_neg h2] at e1 e2
        exact .inr ⟨j - 1, by omega, .inr ⟨by omega, by omega⟩, e1, e2⟩
  have hold : ∀ j', j' < its.length → ∃ j, j < its.length + 1 ∧ lo (its.take i ++ (k, nx) :: its.drop i) j = lo its j' := fun j' hj' => by
    by_cases h1 : j' < i
    · refine ⟨j', by omega, ?_⟩
      rw [(ins_at (its := its) k nx i j' p1).1, if_pos h1]
    · refine ⟨j' + 1, by omega, ?_⟩
      rw [(ins_at (its := its) k nx i (j' + 1) p1).1, if_neg (by omega), if_neg (by omega)]
      rfl
  have hIn : ∀ y, In (S ++ [x]) y ↔ In S y ∨ y = k := fun y => by
    constructor
    · rintro ⟨z, hz, hy⟩
      rcases List.mem_append.1 hz with e | e
      · exact .inl ⟨z, e, hy⟩
      · rw [List.mem_singleton.1 e, hx, List.mem_singleton] at hy
        exact .inr hy
    · rintro (⟨z, hz, hy⟩ | rfl)
      · exact ⟨z, List.mem_append.2 (.inl hz), hy⟩
      · exact ⟨x, by simp, by rw [hx]; simp⟩
  have hSm : ∀ a b, Sm (S ++ [x]) a b ↔ Sm S a b ∨ a = k ∧ b = k := fun a b => by
    constructor
    · rintro ⟨z, hz, h1, h2⟩
      rcases List.mem_append.1 hz with e | e
      · exact .inl ⟨z, e, h1, h2⟩
      · rw [List.mem_singleton.1 e, hx, List.mem_singleton] at h1 h2
        exact .inr ⟨h1, h2⟩
    · rintro (⟨z, hz, h1, h2⟩ | ⟨rfl, rfl⟩)
      · exact ⟨z, List.mem_append.2 (.inl hz), h1, h2⟩
      · exact ⟨x, by simp, by rw [hx]; simp, by rw [hx]; simp⟩
  refine ⟨fun a b hab hb => ?_, fun y => ?_, fun a b ha hb => ?_, fun a ha => ?_, ?_⟩
  · rw [hl] at hb
    rcases hpl a (by omega) with ⟨a1, a2, -⟩ | ⟨a', a1, a2, a3, -⟩
    · rcases hpl b hb with ⟨b1, -⟩ | ⟨b', b1, b2, b3, -⟩
      · omega
      · rw [a2, b3]; exact hge b' (by omega) b1
    · rcases hpl b hb with ⟨b1, b2, -⟩ | ⟨b', b1, b2, b3, -⟩
      · rw [a3, b2]; exact p2 a' (by omega)
      · rw [a3, b3]; exact h.sorted a' b' (by omega) b1
  · rw [hIn, hl]
    constructor
    · rintro (hy | rfl)
      · obtain ⟨j', h1, h2⟩ := (h.keys y).1 hy
        obtain ⟨j, h3, h4⟩ := hold j' h1
        exact ⟨j, h3, h4.trans h2⟩
      · refine ⟨i, by omega, ?_⟩
        rw [(ins_at (its := its) y nx i i p1).1, if_neg (by omega), if_pos rfl]
    · rintro ⟨j, h1, h2⟩
      rcases hpl j h1 with ⟨-, a2, -⟩ | ⟨j', a1, -, a3, -⟩
      · exact .inr (h2.symm.trans a2)
      · exact .inl ((h.keys y).2 ⟨j', a1, a3.symm.trans h2⟩)
  · rw [hl] at ha hb
    rw [hSm]
    have hk : ∀ j', j' < its.length → lo its j' ≠ k := fun j' h1 e => ho ((h.keys k).2 ⟨j', h1, e⟩)
    rcases hpl a ha with ⟨-, a2, a4⟩ | ⟨a', a1, -, a3, a4⟩
    · rcases hpl b hb with ⟨-, b2, b4⟩ | ⟨b', b1, -, b3, b4⟩
      · rw [a2, a4, b2, b4]; simp
      · rw [a2, a4, b3, b4]
        have := h.fresh b' b1
        constructor
        · intro e; omega
        · rintro (e | ⟨-, e⟩)
          · exact absurd e.left ho
          · exact absurd e (hk b' b1)
    · rcases hpl b hb with ⟨-, b2, b4⟩ | ⟨b', b1, -, b3, b4⟩
      · rw [a3, a4, b2, b4]
        have := h.fresh a' a1
        constructor
        · intro e; omega
        · rintro (e | ⟨e, -⟩)
          · exact absurd e.right ho
          · exact absurd e (hk a' a1)
      · rw [a3, a4, b3, b4, h.marks a' b' a1 b1]
        exact ⟨.inl, fun e => e.elim id (fun e => absurd e.1 (hk a' a1))⟩
  · rw [hl] at ha
    rcases hpl a ha with ⟨-, -, a4⟩ | ⟨a', a1, -, -, a4⟩
    · rw [a4]; omega
    · rw [a4]; have := h.fresh a' a1; omega
  · rw [hl, tot_append, tot_one, hx, h.len]
    rfl
end
end Go.Proofs.Ytfhidghjmookhaa
