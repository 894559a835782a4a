/- Walks along records: plain mathematics. -/
import Derived.Test.YtagibmgbjhemkaaGreatStGet
namespace Go.Proofs.YtagibmgbjhemkaaGreat
open Go.RowKit Go.Maps

/-- The record that is answered of e. -/
def lk (ps : List (EdgeV × Bool)) (e : Int) : Option EdgeV :=
  if e < 1 then none else match ps[(e - 1).toNat]? with
    | some (x, true) => some x
    | _ => none
theorem lk_yes {ps : List (EdgeV × Bool)} {i : Nat} {x : EdgeV} (h : ps[i]? = some (x, true)) : lk ps ((i : Int) + 1) = some x := by
  unfold lk
  rw [if_neg (by omega)]
  have e : ((i : Int) + 1 - 1).toNat = i := by omega
  rw [e, h]
theorem lk_some {ps : List (EdgeV × Bool)} {e : Int} {x : EdgeV} (h : lk ps e = some x) : ∃ i : Nat, e = (i : Int) + 1 ∧ ps[i]? = some (x, true) := by
  unfold lk at h
  by_cases he : e < 1
  · rw [if_pos he] at h; cases h
  · rw [if_neg he] at h
    refine ⟨(e - 1).toNat, by omega, ?_⟩
    generalize ps[(e - 1).toNat]? = o at h ⊢
    match o, h with
    | some (y, true), h => simp at h; rw [h]
theorem lk_none {ps : List (EdgeV × Bool)} {e : Int} (h : lk ps e = none) (i : Nat) (a : EdgeV) (he : e = (i : Int) + 1) : ps[i]? ≠ some (a, true) := fun hc => by
  subst he; rw [lk_yes hc] at h; cases h

/-- Along these edges from a: the records gone along, and the fault. -/
def trip (ps : List (EdgeV × Bool)) : Int → List Int → List EdgeV × Option Int
  | _, [] => ([], none)
  | a, e :: es => match lk ps e with
    | none => ([], some 6)
    | some x => if x.2.1 = a then (x :: (trip ps x.2.2.1 es).1, (trip ps x.2.2.1 es).2) else ([], some 80)
def endOf (a : Int) (d : List EdgeV) : Int := d.foldl (fun _ x => x.2.2.1) a
theorem endOf_snoc (a : Int) (d : List EdgeV) (x : EdgeV) : endOf a (d ++ [x]) = x.2.2.1 := by simp [endOf]
/-- The records of a walk. -/
def Way (ps : List (EdgeV × Bool)) : Int → List Int → List EdgeV → Prop
  | _, [], d => d = []
  | a, e :: es, d => ∃ x d', d = x :: d' ∧ lk ps e = some x ∧ x.2.1 = a ∧ Way ps x.2.2.1 es d'
theorem Way.len {ps : List (EdgeV × Bool)} : ∀ {es : List Int} {a : Int} {d : List EdgeV}, Way ps a es d → d.length = es.length
  | [], a, d, h => by have h' : d = [] := h; rw [h']; rfl
  | e :: es, a, d, h => by obtain ⟨x, d', rfl, -, -, h4⟩ := h; simp [Way.len h4]
theorem Way.trip {ps : List (EdgeV × Bool)} (es2 : List Int) : ∀ {es : List Int} {a : Int} {d : List EdgeV}, Way ps a es d → trip ps a (es ++ es2) = (d ++ (Go.Proofs.YtagibmgbjhemkaaGreat.trip ps (endOf a d) es2).1, (Go.Proofs.YtagibmgbjhemkaaGreat.trip ps (endOf a d) es2).2)
  | [], a, d, h => by have h' : d = [] := h; rw [h']; rfl
  | e :: es, a, d, h => by
    obtain ⟨x, d', rfl, h2, h3, h4⟩ := h
    have ih := Way.trip es2 h4
    show Go.Proofs.YtagibmgbjhemkaaGreat.trip ps a (e :: (es ++ es2)) = _
    rw [Go.Proofs.YtagibmgbjhemkaaGreat.trip, h2]
    simp only
    rw [if_pos h3, ih]
    rfl
theorem Way.all {ps : List (EdgeV × Bool)} {es : List Int} {a : Int} {d : List EdgeV} (h : Way ps a es d) : Go.Proofs.YtagibmgbjhemkaaGreat.trip ps a es = (d, none) := by
  have := Way.trip [] h
  rw [List.append_nil] at this
  rw [this]; simp [Go.Proofs.YtagibmgbjhemkaaGreat.trip]
theorem Way.append {ps : List (EdgeV × Bool)} {es2 : List Int} {d2 : List EdgeV} : ∀ {es : List Int} {a : Int} {d : List EdgeV}, Way ps a es d → Way ps (endOf a d) es2 d2 → Way ps a (es ++ es2) (d ++ d2)
  | [], a, d, h, h2 => by have h' : d = [] := h; rw [h'] at h2 ⊢; exact h2
  | e :: es, a, d, h, h2 => by
    obtain ⟨x, d', rfl, h3, h4, h5⟩ := h
    exact ⟨x, d' ++ d2, rfl, h3, h4, Way.append h5 h2⟩
theorem Way.snoc {ps : List (EdgeV × Bool)} {es : List Int} {a e : Int} {d : List EdgeV} {x : EdgeV} (h : Way ps a es d) (hl : lk ps e = some x) (hx : x.2.1 = endOf a d) : Way ps a (es ++ [e]) (d ++ [x]) :=
  h.append ⟨x, [], rfl, hl, hx, rfl⟩
theorem Way.split {ps : List (EdgeV × Bool)} {es2 : List Int} : ∀ {es : List Int} {a : Int} {d : List EdgeV}, Way ps a (es ++ es2) d → ∃ d1 d2, d = d1 ++ d2 ∧ Way ps a es d1 ∧ Way ps (endOf a d1) es2 d2
  | [], a, d, h => ⟨[], d, rfl, rfl, h⟩
  | e :: es, a, d, h => by
    obtain ⟨x, d', rfl, h2, h3, h4⟩ := h
    obtain ⟨d1, d2, rfl, h5, h6⟩ := Way.split h4
    exact ⟨x :: d1, d2, rfl, ⟨x, d1, rfl, h2, h3, h5⟩, h6⟩
theorem trip_way {ps : List (EdgeV × Bool)} : ∀ {es : List Int} {a : Int}, (trip ps a es).2 = none → Way ps a es (trip ps a es).1
  | [], a, _ => rfl
  | e :: es, a, h => by
    rw [trip] at h ⊢
    cases hl : lk ps e with
    | none => rw [hl] at h; cases h
    | some x =>
      rw [hl] at h
      simp only at h ⊢
      by_cases hx : x.2.1 = a
      · rw [if_pos hx] at h ⊢; exact ⟨x, _, rfl, hl, hx, trip_way h⟩
      · rw [if_neg hx] at h; cases h
theorem trip_len {ps : List (EdgeV × Bool)} : ∀ (es : List Int) (a : Int), (trip ps a es).1.length ≤ es.length
  | [], a => Nat.le_refl _
  | e :: es, a => by
    rw [trip]
    cases hl : lk ps e with
    | none => exact Nat.zero_le _
    | some x =>
      simp only
      by_cases hx : x.2.1 = a
      · rw [if_pos hx]; exact Nat.succ_le_succ (trip_len es _)
      · rw [if_neg hx]; exact Nat.zero_le _
/-- What is answered of it: the place, the error; how many records are read. -/
def tPlace (t : List EdgeV × Option Int) : Nat := if t.2 = none then 0 else t.1.length
def tCode (t : List EdgeV × Option Int) : Int := t.2.getD 0
end Go.Proofs.YtagibmgbjhemkaaGreat
