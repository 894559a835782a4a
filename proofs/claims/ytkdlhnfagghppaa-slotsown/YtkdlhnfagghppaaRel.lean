/- The table's places against the reference's items: plain mathematics. -/
import Derived.Test.YtkdlhnfagghppaaRefDrop
import Derived.Test.YtkdlhnfagghppaaRawN
import Derived.Test.YtkdlhnfagghppaaOne
namespace Go.Proofs.Ytkdlhnfagghppaa

theorem item_at {its : List (Int × Int)} {j : Nat} (h : j < its.length) : its[j]? = some (lo its j, hi its j) := by
  unfold lo hi
  rw [List.getD_eq_getElem?_getD, List.getElem?_eq_getElem h]; rfl
theorem at_item {its : List (Int × Int)} {j : Nat} {k x : Int} (h : its[j]? = some (k, x)) : j < its.length ∧ lo its j = k ∧ hi its j = x := by
  refine ⟨lt_of_at h, ?_, ?_⟩
  · unfold lo; rw [List.getD_eq_getElem?_getD, h]; rfl
  · unfold hi; rw [List.getD_eq_getElem?_getD, h]; rfl

structure Rel (ps : List (Int × Bool)) (its : List (Int × Int)) : Prop where
  into : ∀ (j : Nat) (k x : Int), its[j]? = some (k, x) → ∃ i : Nat, k = (i : Int) + 1 ∧ ps[i]? = some (x, true)
  from_ : ∀ (i : Nat) (x : Int), ps[i]? = some (x, true) → ∃ j : Nat, its[j]? = some ((i : Int) + 1, x)
  once : ∀ (j m : Nat) (k x y : Int), its[j]? = some (k, x) → its[m]? = some (k, y) → j = m
  cnt : its.length = tk ps

theorem rel_nil : Rel [] [] := ⟨by simp, by simp, by simp, rfl⟩

theorem rel_out {ps : List (Int × Bool)} {its : List (Int × Int)} (h : Rel ps its) {i : Nat} (hi : ∀ a, ps[i]? ≠ some (a, true)) : Out its ((i : Int) + 1) := fun j hj e => by
  obtain ⟨m, e2, g⟩ := h.into j _ _ (item_at hj)
  obtain rfl : m = i := by omega
  exact hi _ g
theorem rel_out_low {ps : List (Int × Bool)} {its : List (Int × Int)} (h : Rel ps its) {k : Int} (hk : k < 1) : Out its k := fun j hj e => by
  obtain ⟨m, e2, g⟩ := h.into j _ _ (item_at hj)
  omega
theorem rel_in {ps : List (Int × Bool)} {its : List (Int × Int)} (h : Rel ps its) {i : Nat} {a : Int} (hi : ps[i]? = some (a, true)) : ¬ Out its ((i : Int) + 1) := fun ho => by
  obtain ⟨j, hj⟩ := h.from_ i a hi
  obtain ⟨h1, h2, -⟩ := at_item hj
  exact ho j h1 h2
theorem rel_pos {ps : List (Int × Bool)} {its : List (Int × Int)} (h : Rel ps its) : ∀ j, j < its.length → 1 ≤ lo its j := fun j hj => by
  obtain ⟨m, e2, g⟩ := h.into j _ _ (item_at hj)
  omega
theorem rel_index {ps : List (Int × Bool)} {its : List (Int × Int)} (h : Rel ps its) {i : Nat} {a : Int} (hp : ps[i]? = some (a, true)) : ∃ j, j < its.length ∧ lo its j = (i : Int) + 1 ∧ hi its j = a ∧ ∀ m, m < its.length → lo its m = (i : Int) + 1 → m = j := by
  obtain ⟨j, hj⟩ := h.from_ i a hp
  obtain ⟨h1, h2, h3⟩ := at_item hj
  refine ⟨j, h1, h2, h3, fun m hm e => ?_⟩
  have := item_at hm
  rw [e] at this
  exact h.once m j _ _ _ this hj

theorem gro_true {ps : List (Int × Bool)} {k i : Nat} {x : Int} : (groN ps k)[i]? = some (x, true) ↔ ps[i]? = some (x, true) := by
  unfold groN
  rcases Nat.lt_or_ge i ps.length with h | h
  · rw [List.getElem?_append_left h]
  · rw [List.getElem?_append_right h, List.getElem?_replicate, List.getElem?_eq_none h]
    split <;> simp
theorem gro_tk (ps : List (Int × Bool)) (k : Nat) : tk (groN ps k) = tk ps := by
  unfold groN tk
  rw [List.countP_append, List.countP_replicate]; simp

theorem rel_put {ps : List (Int × Bool)} {its : List (Int × Int)} (h : Rel ps its) {i : Nat} (hi : ∀ a, ps[i]? ≠ some (a, true)) (x : Int) : Rel ((groN ps (i + 1)).set i (x, true)) (its ++ [((i : Int) + 1, x)]) := by
  obtain ⟨a, ha⟩ := groN_at hi
  have hlt := lt_of_at ha
  refine ⟨fun j k y hj => ?_, fun m y hm => ?_, fun j m k y z hj hm => ?_, ?_⟩
  · rcases Nat.lt_or_ge j its.length with hl | hl
    · rw [List.getElem?_append_left hl] at hj
      obtain ⟨m, e, g⟩ := h.into j k y hj
      refine ⟨m, e, ?_⟩
      rw [List.getElem?_set_ne (fun e2 => by subst e2; exact hi _ g)]
      exact gro_true.2 g
    · have h2 := lt_of_at hj
      simp at h2
      obtain rfl : j = its.length := by omega
      simp at hj
      exact ⟨i, hj.1.symm, by rw [List.getElem?_set_self hlt, hj.2]⟩
  · by_cases e : i = m
    · subst e
      rw [List.getElem?_set_self hlt] at hm
      simp at hm
      subst hm
      exact ⟨its.length, by simp⟩
    · rw [List.getElem?_set_ne e] at hm
      obtain ⟨j, hj⟩ := h.from_ m y (gro_true.1 hm)
      exact ⟨j, by rw [List.getElem?_append_left (lt_of_at hj)]; exact hj⟩
  · have key : ∀ (j : Nat) (k y : Int), (its ++ [((i : Int) + 1, x)])[j]? = some (k, y) → (j = its.length ∧ k = (i : Int) + 1) ∨ (its[j]? = some (k, y) ∧ k ≠ (i : Int) + 1) := fun j k y hj => by
      rcases Nat.lt_or_ge j its.length with hl | hl
      · rw [List.getElem?_append_left hl] at hj
        refine .inr ⟨hj, fun e => ?_⟩
        obtain ⟨m, e2, g⟩ := h.into j k y hj
        obtain rfl : m = i := by omega
        exact hi _ g
      · have h2 := lt_of_at hj
        simp at h2
        obtain rfl : j = its.length := by omega
        simp at hj
        exact .inl ⟨rfl, hj.1.symm⟩
    rcases key j k y hj with ⟨e1, e2⟩ | ⟨e1, e2⟩ <;> rcases key m k z hm with ⟨f1, f2⟩ | ⟨f1, f2⟩
    · omega
    · exact absurd e2 f2
    · exact absurd f2 e2
    · exact h.once j m k y z e1 f1
  · have h1 := tk_set (groN ps (i + 1)) i a x false true ha
    rw [gro_tk] at h1
    have := h.cnt
    simp at h1 ⊢
    omega

theorem rel_set {ps : List (Int × Bool)} {its : List (Int × Int)} (h : Rel ps its) {i j : Nat} {a : Int} (hp : ps[i]? = some (a, true)) (hj : its[j]? = some ((i : Int) + 1, a)) (x : Int) : Rel (ps.set i (x, true)) (its.set j ((i : Int) + 1, x)) := by
  have hjl := lt_of_at hj
  have hil := lt_of_at hp
  refine ⟨fun m k y hm => ?_, fun m y hm => ?_, fun c m k y z hc hm => ?_, ?_⟩
  · by_cases e : j = m
    · subst e
      rw [List.getElem?_set_self hjl] at hm
      simp at hm
      exact ⟨i, hm.1.symm, by rw [List.getElem?_set_self hil, hm.2]⟩
    · rw [List.getElem?_set_ne e] at hm
      obtain ⟨q, e2, g⟩ := h.into m k y hm
      refine ⟨q, e2, ?_⟩
      rw [List.getElem?_set_ne (fun e3 => ?_)]
      · exact g
      · subst e3
        subst e2
        exact e (h.once j m _ _ _ hj hm)
  · by_cases e : i = m
    · subst e
      rw [List.getElem?_set_self hil] at hm
      simp at hm; subst hm
      exact ⟨j, List.getElem?_set_self hjl⟩
    · rw [List.getElem?_set_ne e] at hm
      obtain ⟨q, hq⟩ := h.from_ m y hm
      refine ⟨q, ?_⟩
      rw [List.getElem?_set_ne (fun e3 => ?_)]
      · exact hq
      · subst e3
        rw [hj] at hq
        simp at hq
        omega
  · have key : ∀ (c : Nat) (y : Int), (its.set j ((i : Int) + 1, x))[c]? = some (k, y) → ∃ y', its[c]? = some (k, y') := fun c y hc => by
      by_cases e : j = c
      · subst e
        rw [List.getElem?_set_self hjl] at hc
        simp at hc
        exact ⟨a, by rw [hj, hc.1]⟩
      · rw [List.getElem?_set_ne e] at hc
        exact ⟨y, hc⟩
    obtain ⟨y', h1⟩ := key c y hc
    obtain ⟨z', h2⟩ := key m z hm
    exact h.once c m k y' z' h1 h2
  · have h1 := tk_set ps i a x true true hp
    have := h.cnt
    simp at h1 ⊢
    omega

theorem cut_at {α : Type} {l : List α} {j c : Nat} (hj : j < l.length) : (l.take j ++ l.drop (j + 1))[c]? = if c < j then l[c]? else l[c + 1]? := by
  rw [List.getElem?_append]
  have e : (l.take j).length = j := by simp; omega
  rw [e]
  by_cases h : c < j
  · rw [if_pos h, if_pos h, List.getElem?_take_of_lt h]
  · rw [if_neg h, if_neg h, List.getElem?_drop]
    congr 1
    omega

theorem rel_drop {ps : List (Int × Bool)} {its : List (Int × Int)} (h : Rel ps its) {i j : Nat} {a : Int} (hp : ps[i]? = some (a, true)) (hj : its[j]? = some ((i : Int) + 1, a)) : Rel (ps.set i (0, false)) (its.take j ++ its.drop (j + 1)) := by
  have hjl := lt_of_at hj
  have hil := lt_of_at hp
  have key : ∀ (c : Nat) (k y : Int), (its.take j ++ its.drop (j + 1))[c]? = some (k, y) → ∃ c', its[c']? = some (k, y) ∧ c' ≠ j ∧ c' = if c < j then c else c + 1 := fun c k y hc => by
    rw [cut_at hjl] at hc
    by_cases e : c < j
    · rw [if_pos e] at hc
      exact ⟨c, hc, by omega, by rw [if_pos e]⟩
    · rw [if_neg e] at hc
      exact ⟨c + 1, hc, by omega, by rw [if_neg e]⟩
  refine ⟨fun m k y hm => ?_, fun m y hm => ?_, fun c m k y z hc hm => ?_, ?_⟩
  · obtain ⟨c', h1, h2, -⟩ := key m k y hm
    obtain ⟨q, e2, g⟩ := h.into c' k y h1
    refine ⟨q, e2, ?_⟩
    rw [List.getElem?_set_ne (fun e3 => ?_)]
    · exact g
    · subst e3
      subst e2
      exact h2 (h.once c' j _ _ _ h1 hj)
  · by_cases e : i = m
    · subst e
      rw [List.getElem?_set_self hil] at hm
      simp at hm
    · rw [List.getElem?_set_ne e] at hm
      obtain ⟨q, hq⟩ := h.from_ m y hm
      have hne : q ≠ j := fun e3 => by
        subst e3
        rw [hj] at hq
        simp at hq
        omega
      rcases Nat.lt_or_ge q j with hl | hl
      · exact ⟨q, by rw [cut_at hjl, if_pos hl]; exact hq⟩
      · refine ⟨q - 1, ?_⟩
        rw [cut_at hjl, if_neg (by omega), show q - 1 + 1 = q by omega]
        exact hq
  · obtain ⟨c1, h1, h2, h3⟩ := key c k y hc
    obtain ⟨m1, f1, f2, f3⟩ := key m k z hm
    have := h.once c1 m1 k y z h1 f1
    subst this
    split at h3 <;> split at f3 <;> omega
  · have h1 := tk_set ps i a 0 true false hp
    have := h.cnt
    simp at h1 ⊢
    omega

theorem rel_free {ps : List (Int × Bool)} {its : List (Int × Int)} (h : Rel ps its) {most r r' : Int} (hl : (ps.length : Int) ≤ most) (h1 : FreeIs ps most r) (h2 : FreeR its most r') : r' = r := by
  rcases h1 with ⟨i, a, rfl, hi, hf⟩ | ⟨hf, ⟨hm, rfl⟩ | ⟨hm, rfl⟩⟩
  · have hil := lt_of_at hi
    have ho : Out its ((i : Int) + 1) := rel_out h (fun b e => by rw [hi] at e; cases e)
    rcases h2 with ⟨g1, g2, g3, g4⟩ | ⟨-, g⟩
    · rcases Int.lt_trichotomy r' ((i : Int) + 1) with e | e | e
      · obtain ⟨b, hb⟩ := hf (r' - 1).toNat (by omega)
        have := rel_in h hb
        rw [show (((r' - 1).toNat : Nat) : Int) + 1 = r' by omega] at this
        exact absurd g3 this
      · exact e
      · exact absurd ho (g4 _ (by omega) e)
    · exact absurd ho (g _ (by omega) (by omega))
  · rcases h2 with ⟨g1, g2, g3, g4⟩ | ⟨g, -⟩
    · obtain ⟨b, hb⟩ := hf (r' - 1).toNat (by omega)
      have := rel_in h hb
      rw [show (((r' - 1).toNat : Nat) : Int) + 1 = r' by omega] at this
      exact absurd g3 this
    · exact g
  · have ho : Out its ((ps.length : Int) + 1) := rel_out h (fun b e => by have := lt_of_at e; omega)
    rcases h2 with ⟨g1, g2, g3, g4⟩ | ⟨-, g⟩
    · rcases Int.lt_trichotomy r' ((ps.length : Int) + 1) with e | e | e
      · obtain ⟨b, hb⟩ := hf (r' - 1).toNat (by omega)
        have := rel_in h hb
        rw [show (((r' - 1).toNat : Nat) : Int) + 1 = r' by omega] at this
        exact absurd g3 this
      · exact e
      · exact absurd ho (g4 _ (by omega) e)
    · exact absurd ho (g _ (by omega) (by omega))

theorem rel_next {ps : List (Int × Bool)} {its : List (Int × Int)} (h : Rel ps its) {k r r' : Int} (h1 : NextIs ps k r) (h2 : NextR its its.length k r') : r' = r := by
  rcases h1 with ⟨rfl, hf⟩ | ⟨i, a, rfl, hi, hk, hf⟩
  · rcases h2 with ⟨g, -⟩ | ⟨j, hj, e, g, -⟩
    · exact g
    · obtain ⟨m, e2, g2⟩ := h.into j _ _ (item_at hj)
      have := hf m _ g2
      omega
  · obtain ⟨j, hj⟩ := h.from_ i a hi
    obtain ⟨l1, l2, -⟩ := at_item hj
    rcases h2 with ⟨-, g⟩ | ⟨q, hq, e, g, g2⟩
    · have := g j l1; omega
    · have h3 := g2 j l1 (by omega)
      obtain ⟨m, e2, g3⟩ := h.into q _ _ (item_at hq)
      rcases Nat.lt_or_ge m i with hl | hl
      · have := hf m _ hl g3; omega
      · omega
end Go.Proofs.Ytkdlhnfagghppaa
