/- All that hangs below a vertex, found one by one. -/
import Derived.Test.YtbmcibofecigeaaLvM14
namespace Go.Proofs.Ytbmcibofecigeaa
open Go.RowKit
namespace L14
theorem chain_one {E : Es} {s : Int} {T : Tr} : ∀ {a b : List Int} {v : Int}, Chain E s T v a → Chain E s T v b → a = b
  | [], [], _, _, _ => rfl
  | [], e :: b, v, h1, ⟨h2, _⟩ => absurd h1 h2
  | e :: a, [], v, ⟨h2, _⟩, h1 => absurd h1 h2
  | e :: a, e' :: b, v, ⟨h1, h2, u, c, h3, h4, h5⟩, ⟨g1, g2, u', c', g3, g4, g5⟩ => by
    have ee : e = e' := h2.trans g2.symm
    subst ee
    rw [h3] at g3
    have e1 : u = u' := congrArg (·.1) (Option.some.inj g3)
    subst e1
    rw [chain_one h5 g5]
theorem by_sub {E : Es} {s : Int} {T : Tr} {v : Int} : ∀ {l : List Int} {u : Int}, Chain E s T u l → By E s T v u l → ∃ l2, Chain E s T v l2 ∧ l2.length ≤ l.length
  | [], u, hc, hb => by
    have e : u = v := hb
    exact ⟨[], by rw [← e]; exact hc, Nat.le_refl _⟩
  | e :: l, u, hc, hb => by
    rcases hb with q | ⟨u', c', g1, g2⟩
    · exact ⟨e :: l, by rw [← q]; exact hc, Nat.le_refl _⟩
    · obtain ⟨h1, h2, u2, c2, h3, h4, h5⟩ := hc
      rw [h3] at g1
      have e1 : u2 = u' := congrArg (·.1) (Option.some.inj g1)
      subst e1
      obtain ⟨l2, k1, k2⟩ := by_sub h5 g2
      exact ⟨l2, k1, by simp; omega⟩
def Desc (E : Es) (s : Int) (T : Tr) (v u : Int) : Prop := ∀ l, Chain E s T u l → By E s T v u l
/-- Nothing hangs below itself. -/
theorem not_desc {E : Es} {s : Int} {T : Tr} (h : Right E s T) {v u : Int} {c : Nat} (hv : fnd T v = true) (hs : v ≠ s) (he : E (lst T v) = some (u, v, c)) : ¬ Desc E s T v u := fun hd => by
  obtain ⟨u', c', g1, g2, -⟩ := h.eqn hv hs
  rw [he] at g1
  have e1 : u = u' := congrArg (·.1) (Option.some.inj g1)
  subst e1
  obtain ⟨l, hl⟩ := h.chn u g2
  obtain ⟨l2, k1, k2⟩ := by_sub hl (hd l hl)
  have hc : Chain E s T v (lst T v :: l) := ⟨hs, rfl, u, c, he, g2, hl⟩
  have := chain_one k1 hc
  rw [this, List.length_cons] at k2
  omega
/-- What was met so far: of the i-th the first k edges were gone along. -/
structure Bl (E E' : Es) (s : Int) (T : Tr) (outs : Int → List Int) (v : Int) (all : List Int) (i k : Nat) : Prop where
  nd : all.Nodup
  hd : all[0]? = some v
  ne : ∀ w ∈ all, w ≠ s ∧ fnd T w = true ∧ Desc E s T v w
  add : ∀ w ∈ all, w ≠ v → ∃ (i' k' : Nat) (u : Int) (c : Nat), all[i']? = some u ∧ E' (lst T w) = some (u, w, c) ∧ (outs u)[k']? = some (lst T w) ∧ (i' < i ∨ (i' = i ∧ k' < k))
  cov : ∀ (i' k' : Nat) (u e w : Int) (c : Nat), all[i']? = some u → (outs u)[k']? = some e → E' e = some (u, w, c) → lst T w = e → (i' < i ∨ (i' = i ∧ k' < k)) → w ∈ all
section
variable {E E' : Es} {s : Int} {T : Tr} {outs : Int → List Int} {v : Int} {all : List Int} {i k : Nat}
theorem Bl.start (hs : v ≠ s) (hv : fnd T v = true) : Bl E E' s T outs v [v] 0 0 :=
  ⟨by simp, rfl, fun w hw => by
    rw [List.mem_singleton.1 hw]
    exact ⟨hs, hv, fun l _ => by cases l with
      | nil => rfl
      | cons e l => exact .inl rfl⟩, fun w hw hne => absurd (List.mem_singleton.1 hw) hne, fun i' k' _ _ _ _ _ _ _ _ hlt => by omega⟩
theorem nodup_idx {l : List Int} (h : l.Nodup) {i j : Nat} {x : Int} (hi : l[i]? = some x) (hj : l[j]? = some x) : i = j := by
  obtain ⟨a1, a2⟩ := List.getElem?_eq_some_iff.1 hi
  obtain ⟨b1, b2⟩ := List.getElem?_eq_some_iff.1 hj
  rcases Nat.lt_trichotomy i j with q | q | q
  · exact absurd (a2.trans b2.symm) (List.pairwise_iff_getElem.1 h i j a1 b1 q)
  · exact q
  · exact absurd (b2.trans a2.symm) (List.pairwise_iff_getElem.1 h j i b1 a1 q)
/-- An edge by which no path comes to its end. -/
theorem Bl.skip (h : Bl E E' s T outs v all i k) {u e w : Int} {c : Nat} (hu : all[i]? = some u) (he : (outs u)[k]? = some e) (hw : E' e = some (u, w, c)) (hl : lst T w ≠ e) : Bl E E' s T outs v all i (k + 1) := by
  refine ⟨h.nd, h.hd, h.ne, fun w' hw' hne => ?_, fun i' k' u' e' w' c' h1 h2 h3 h4 hlt => ?_⟩
  · obtain ⟨i', k', u', c', g1, g2, g3, g4⟩ := h.add w' hw' hne
    exact ⟨i', k', u', c', g1, g2, g3, by omega⟩
  · by_cases z : i' = i ∧ k' = k
    · obtain ⟨rfl, rfl⟩ := z
      rw [hu] at h1
      have e1 := Option.some.inj h1
      subst e1
      rw [he] at h2
      have e2 := Option.some.inj h2
      subst e2
      rw [hw] at h3
      have e3 : w = w' := congrArg (·.2.1) (Option.some.inj h3)
      rw [← e3] at h4
      exact absurd h4 hl
    · exact h.cov i' k' u' e' w' c' h1 h2 h3 h4 (by
        rcases hlt with q | ⟨q1, q2⟩
        · exact .inl q
        · refine .inr ⟨q1, ?_⟩
          have : k' ≠ k := fun r => z ⟨q1, r⟩
          omega)
/-- An edge by which the path to its end comes: that one hangs below too. -/
theorem Bl.push (h : Bl E E' s T outs v all i k) (hR : Right E s T) (hE : ∀ w, w ≠ v → E' (lst T w) = E (lst T w)) (hno : ∀ u c, E' (lst T v) = some (u, v, c) → ¬ Desc E s T v u) (hon : ∀ u, (outs u).Nodup) (h0 : E' 0 = none) {u e w : Int} {c : Nat} (hu : all[i]? = some u) (he : (outs u)[k]? = some e) (hw : E' e = some (u, w, c)) (hl : lst T w = e) :
    w ∉ all ∧ Bl E E' s T outs v (all ++ [w]) i (k + 1) := by
  have hum := List.mem_of_getElem? hu
  have hfw : fnd T w = true := by
    cases q : fnd T w with
    | true => rfl
    | false =>
      have := (hR.non w q).2
      rw [hl] at this
      rw [this, h0] at hw; cases hw
  have hws : w ≠ s := fun z => by
    have := hR.src.2.2
    rw [← z, hl] at this
    rw [this, h0] at hw; cases hw
  have hnot : w ∉ all := fun hm => by
    by_cases z : w = v
    · rw [z] at hw hl
      exact hno u c (by rw [hl]; exact hw) (h.ne u hum).2.2
    · obtain ⟨i', k', u', c', g1, g2, g3, g4⟩ := h.add w hm z
      rw [hl, hw] at g2
      have e1 : u = u' := congrArg (·.1) (Option.some.inj g2)
      subst e1
      have e2 := nodup_idx h.nd g1 hu
      rw [hl] at g3
      have e3 := nodup_idx (hon u) g3 he
      omega
  have hwv : w ≠ v := fun z => hnot (by rw [z]; exact List.mem_of_getElem? h.hd)
  have hd : Desc E s T v w := fun l hc => by
    cases l with
    | nil => exact absurd hc hws
    | cons d l =>
      obtain ⟨h1, h2, u2, c2, h3, h4, h5⟩ := hc
      rw [h2, ← hE w hwv, hl, hw] at h3
      have e1 : u = u2 := congrArg (·.1) (Option.some.inj h3)
      subst e1
      refine .inr ⟨u, c, ?_, (h.ne u hum).2.2 l h5⟩
      rw [h2, ← hE w hwv, hl]; exact hw
  have hil := (List.getElem?_eq_some_iff.1 hu).1
  have at_ : ∀ {i' : Nat} {x : Int}, all[i']? = some x → (all ++ [w])[i']? = some x := fun {i' x} q => by
    rw [List.getElem?_append_left (List.getElem?_eq_some_iff.1 q).1]; exact q
  refine ⟨hnot, ?_, at_ h.hd, fun x hx => ?_, fun x hx hne => ?_, fun i' k' u' e' w' c' h1 h2 h3 h4 hlt => ?_⟩
  · rw [List.nodup_append]
    exact ⟨h.nd, by simp, fun a ha b hb => by rw [List.mem_singleton.1 hb]; exact fun z => hnot (by rw [← z]; exact ha)⟩
  · rcases List.mem_append.1 hx with q | q
    · exact h.ne x q
    · rw [List.mem_singleton.1 q]; exact ⟨hws, hfw, hd⟩
  · rcases List.mem_append.1 hx with q | q
    · obtain ⟨i', k', u', c', g1, g2, g3, g4⟩ := h.add x q hne
      exact ⟨i', k', u', c', at_ g1, g2, g3, by omega⟩
    · rw [List.mem_singleton.1 q]
      exact ⟨i, k, u, c, at_ hu, by rw [hl]; exact hw, by rw [hl]; exact he, .inr ⟨rfl, by omega⟩⟩
  · have hi' : all[i']? = some u' := by
      have hlt2 : i' < all.length := by omega
      rw [List.getElem?_append_left hlt2] at h1; exact h1
    by_cases z : i' = i ∧ k' = k
    · obtain ⟨rfl, rfl⟩ := z
      rw [hu] at hi'
      have e1 := Option.some.inj hi'
      subst e1
      rw [he] at h2
      have e2 := Option.some.inj h2
      subst e2
      rw [hw] at h3
      have e3 : w = w' := congrArg (·.2.1) (Option.some.inj h3)
      rw [← e3]; simp
    · exact List.mem_append.2 (.inl (h.cov i' k' u' e' w' c' hi' h2 h3 h4 (by
        rcases hlt with q | ⟨q1, q2⟩
        · exact .inl q
        · refine .inr ⟨q1, ?_⟩
          have : k' ≠ k := fun r => z ⟨q1, r⟩
          omega)))
/-- All edges of one were gone along. -/
theorem Bl.next (h : Bl E E' s T outs v all i k) {u : Int} (hu : all[i]? = some u) (hk : (outs u).length ≤ k) : Bl E E' s T outs v all (i + 1) 0 := by
  refine ⟨h.nd, h.hd, h.ne, fun w hw hne => ?_, fun i' k' u' e w c h1 h2 h3 h4 hlt => ?_⟩
  · obtain ⟨i', k', u', c', g1, g2, g3, g4⟩ := h.add w hw hne
    exact ⟨i', k', u', c', g1, g2, g3, by omega⟩
  · refine h.cov i' k' u' e w c h1 h2 h3 h4 ?_
    by_cases z : i' = i
    · rw [z, hu] at h1
      have e1 := Option.some.inj h1
      subst e1
      have := (List.getElem?_eq_some_iff.1 h2).1
      exact .inr ⟨z, by omega⟩
    · exact .inl (by omega)
/-- All are met. -/
theorem Bl.done (h : Bl E E' s T outs v all all.length 0) (hE : ∀ w, w ≠ v → fnd T w = true → w ≠ s → E' (lst T w) = E (lst T w)) (ho : ∀ e u w c, E' e = some (u, w, c) → e ∈ outs u) : v ∈ all ∧ s ∉ all ∧ ∀ u w c, u ∈ all → fnd T w = true → w ≠ s → E (lst T w) = some (u, w, c) → w ∈ all := by
  refine ⟨List.mem_of_getElem? h.hd, fun z => (h.ne s z).1 rfl, fun u w c hu hf hs he => ?_⟩
  by_cases z : w = v
  · rw [z]; exact List.mem_of_getElem? h.hd
  · rw [← hE w z hf hs] at he
    obtain ⟨i', hi'⟩ := List.mem_iff_getElem?.1 hu
    obtain ⟨k', hk'⟩ := List.mem_iff_getElem?.1 (ho _ _ _ _ he)
    exact h.cov i' k' u _ w c hi' hk' he rfl (.inl (List.getElem?_eq_some_iff.1 hi').1)
end
end L14
end Go.Proofs.Ytbmcibofecigeaa
