/- Lists of runs as sets of whole numbers: what is in one, what putting in and taking out makes of it. No program. -/
import Derived.Test.YtdalghfhpekcfaaBase
namespace Go.Proofs.Ytdalghfhpekcfaa

/-- x is in one of the runs. -/
def In (rs : List (Int × Int)) (x : Int) : Prop := ∃ i, i < rs.length ∧ lo rs i ≤ x ∧ x ≤ hi rs i
/-- All numbers lie between a and b. -/
def Fits (a b : Int) (rs : List (Int × Int)) : Prop := ∀ i, i < rs.length → a ≤ lo rs i ∧ hi rs i ≤ b

theorem lo_cons (r : Int × Int) (rs : List (Int × Int)) (i : Nat) : lo (r :: rs) (i + 1) = lo rs i := by simp [lo]
theorem hi_cons (r : Int × Int) (rs : List (Int × Int)) (i : Nat) : hi (r :: rs) (i + 1) = hi rs i := by simp [hi]
theorem lo_zero (r : Int × Int) (rs : List (Int × Int)) : lo (r :: rs) 0 = r.1 := by simp [lo]
theorem hi_zero (r : Int × Int) (rs : List (Int × Int)) : hi (r :: rs) 0 = r.2 := by simp [hi]

theorem in_cons (r : Int × Int) (rs : List (Int × Int)) (x : Int) : In (r :: rs) x ↔ (r.1 ≤ x ∧ x ≤ r.2) ∨ In rs x := by
  constructor
  · rintro ⟨i, hi1, h2, h3⟩
    cases i with
    | zero => rw [lo_zero] at h2; rw [hi_zero] at h3; exact .inl ⟨h2, h3⟩
    | succ i => rw [lo_cons] at h2; rw [hi_cons] at h3; exact .inr ⟨i, by simpa using hi1, h2, h3⟩
  · rintro (⟨h2, h3⟩ | ⟨i, h1, h2, h3⟩)
    · exact ⟨0, by simp, by rw [lo_zero]; exact h2, by rw [hi_zero]; exact h3⟩
    · exact ⟨i + 1, by simpa using h1, by rw [lo_cons]; exact h2, by rw [hi_cons]; exact h3⟩

theorem canon_nil : Canon [] := ⟨fun i h => by simp at h, fun i j _ h => by simp at h⟩

theorem Canon.tail {r : Int × Int} {rs : List (Int × Int)} (h : Canon (r :: rs)) : Canon rs ∧ r.1 ≤ r.2 ∧ ∀ x, In rs x → r.2 + 1 < x := by
  refine ⟨⟨fun i hi1 => ?_, fun i j h1 h2 => ?_⟩, ?_, ?_⟩
  · have := h.run (i + 1) (by simpa using hi1); rwa [lo_cons, hi_cons] at this
  · have := h.gap (i + 1) (j + 1) (by omega) (by simpa using h2); rwa [lo_cons, hi_cons] at this
  · have := h.run 0 (by simp); rwa [lo_zero, hi_zero] at this
  · rintro x ⟨i, h1, h2, h3⟩
    have := h.gap 0 (i + 1) (by omega) (by simpa using h1); rw [lo_cons, hi_zero] at this; omega

theorem canon_ext : ∀ (rs ss : List (Int × Int)), Canon rs → Canon ss → (∀ x, In rs x ↔ In ss x) → rs = ss
  | [], [], _, _, _ => rfl
  | [], s :: ss, _, hs, h => by
    obtain ⟨-, h1, -⟩ := hs.tail
    obtain ⟨i, hi, -⟩ := (h s.1).2 ((in_cons _ _ _).2 (.inl ⟨Int.le_refl _, h1⟩))
    simp at hi
  | r :: rs, [], hr, _, h => by
    obtain ⟨-, h1, -⟩ := hr.tail
    obtain ⟨i, hi, -⟩ := (h r.1).1 ((in_cons _ _ _).2 (.inl ⟨Int.le_refl _, h1⟩))
    simp at hi
  | r :: rs, s :: ss, hr, hs, h => by
    obtain ⟨cr, r1, r2⟩ := hr.tail
    obtain ⟨cs, s1, s2⟩ := hs.tail
    have e1 : r.1 = s.1 := by
      have a := (in_cons _ _ _).1 ((h r.1).1 ((in_cons _ _ _).2 (.inl ⟨Int.le_refl _, r1⟩)))
      have b := (in_cons _ _ _).1 ((h s.1).2 ((in_cons _ _ _).2 (.inl ⟨Int.le_refl _, s1⟩)))
      rcases a with a | a <;> rcases b with b | b
      · omega
      · have := r2 _ b; omega
      · have := s2 _ a; omega
      · have := r2 _ b; have := s2 _ a; omega
    have e2 : r.2 = s.2 := by
      rcases Int.lt_trichotomy r.2 s.2 with hl | hl | hl
      · have a := (in_cons _ _ _).1 ((h (r.2 + 1)).2 ((in_cons _ _ _).2 (.inl ⟨by omega, by omega⟩)))
        rcases a with a | a
        · omega
        · have := r2 _ a; omega
      · exact hl
      · have a := (in_cons _ _ _).1 ((h (s.2 + 1)).1 ((in_cons _ _ _).2 (.inl ⟨by omega, by omega⟩)))
        rcases a with a | a
        · omega
        · have := s2 _ a; omega
    have e3 : rs = ss := canon_ext rs ss cr cs fun x => by
      constructor
      · intro hx
        have h1 := r2 _ hx
        rcases (in_cons _ _ _).1 ((h x).1 ((in_cons _ _ _).2 (.inr hx))) with a | a
        · omega
        · exact a
      · intro hx
        have h1 := s2 _ hx
        rcases (in_cons _ _ _).1 ((h x).2 ((in_cons _ _ _).2 (.inr hx))) with a | a
        · omega
        · exact a
    rw [e3, show r = s from Prod.ext e1 e2]

theorem getD3 (rs vs : List (Int × Int)) (f e t : Nat) (hf : f ≤ rs.length) : (rs.take f ++ vs ++ rs.drop e).getD t (0, 0) = if t < f then rs.getD t (0, 0) else if t < f + vs.length then vs.getD (t - f) (0, 0) else rs.getD (t - f - vs.length + e) (0, 0) := by
  have hl : (rs.take f).length = f := by simp; omega
  simp only [List.getD_eq_getElem?_getD]
  rw [List.append_assoc, List.getElem?_append, hl]
  split
  · rename_i h; rw [List.getElem?_take, if_pos h]
  · rw [List.getElem?_append]
    split
    · rw [if_pos (by omega)]
    · rw [if_neg (by omega), List.getElem?_drop, Nat.add_comm]
theorem lo3 (rs vs : List (Int × Int)) (f e t : Nat) (hf : f ≤ rs.length) : lo (rs.take f ++ vs ++ rs.drop e) t = if t < f then lo rs t else if t < f + vs.length then lo vs (t - f) else lo rs (t - f - vs.length + e) := by
  unfold lo; rw [getD3 _ _ _ _ _ hf]; split
  · rfl
  · split <;> rfl
theorem hi3 (rs vs : List (Int × Int)) (f e t : Nat) (hf : f ≤ rs.length) : hi (rs.take f ++ vs ++ rs.drop e) t = if t < f then hi rs t else if t < f + vs.length then hi vs (t - f) else hi rs (t - f - vs.length + e) := by
  unfold hi; rw [getD3 _ _ _ _ _ hf]; split
  · rfl
  · split <;> rfl
theorem len3 (rs vs : List (Int × Int)) (f e : Nat) (hf : f ≤ rs.length) : (rs.take f ++ vs ++ rs.drop e).length = f + vs.length + (rs.length - e) := by simp; omega

theorem canon3 {rs vs : List (Int × Int)} {f e : Nat} (hr : Canon rs) (hv : Canon vs) (hfe : f ≤ e) (he : e ≤ rs.length) (h1 : ∀ t s, t < f → s < vs.length → hi rs t + 1 < lo vs s) (h2 : ∀ s t, s < vs.length → e ≤ t → t < rs.length → hi vs s + 1 < lo rs t) :
    Canon (rs.take f ++ vs ++ rs.drop e) := by
  constructor
  · intro t ht
    rw [len3 _ _ _ _ (by omega)] at ht
    rw [lo3 _ _ _ _ _ (by omega), hi3 _ _ _ _ _ (by omega)]
    split
    · exact hr.run _ (by omega)
    · split
      · exact hv.run _ (by omega)
      · exact hr.run _ (by omega)
  · intro t u htu hu
    rw [len3 _ _ _ _ (by omega)] at hu
    rw [lo3 _ _ _ _ _ (by omega), hi3 _ _ _ _ _ (by omega)]
    by_cases a1 : t < f
    · rw [if_pos a1]
      by_cases b1 : u < f
      · rw [if_pos b1]; exact hr.gap _ _ htu (by omega)
      · rw [if_neg b1]
        by_cases b2 : u < f + vs.length
        · rw [if_pos b2]; exact h1 _ _ a1 (by omega)
        · rw [if_neg b2]; exact hr.gap _ _ (by omega) (by omega)
    · rw [if_neg a1, if_neg (show ¬ u < f by omega)]
      by_cases a2 : t < f + vs.length
      · rw [if_pos a2]
        by_cases b2 : u < f + vs.length
        · rw [if_pos b2]; exact hv.gap _ _ (by omega) (by omega)
        · rw [if_neg b2]; exact h2 _ _ (by omega) (by omega) (by omega)
      · rw [if_neg a2, if_neg (show ¬ u < f + vs.length by omega)]
        exact hr.gap _ _ (by omega) (by omega)

theorem in3 {rs vs : List (Int × Int)} {f e : Nat} (hfe : f ≤ e) (he : e ≤ rs.length) (x : Int) :
    In (rs.take f ++ vs ++ rs.drop e) x ↔ (∃ t, t < f ∧ lo rs t ≤ x ∧ x ≤ hi rs t) ∨ In vs x ∨ ∃ t, e ≤ t ∧ t < rs.length ∧ lo rs t ≤ x ∧ x ≤ hi rs t := by
  unfold In
  constructor
  · rintro ⟨t, h1, h2, h3⟩
    rw [len3 _ _ _ _ (by omega)] at h1
    rw [lo3 _ _ _ _ _ (by omega)] at h2
    rw [hi3 _ _ _ _ _ (by omega)] at h3
    by_cases a1 : t < f
    · rw [if_pos a1] at h2 h3; exact .inl ⟨t, a1, h2, h3⟩
    · rw [if_neg a1] at h2 h3
      by_cases a2 : t < f + vs.length
      · rw [if_pos a2] at h2 h3; exact .inr (.inl ⟨t - f, by omega, h2, h3⟩)
      · rw [if_neg a2] at h2 h3; exact .inr (.inr ⟨t - f - vs.length + e, by omega, by omega, h2, h3⟩)
  · rintro (⟨t, a1, h2, h3⟩ | ⟨t, a1, h2, h3⟩ | ⟨t, a0, a1, h2, h3⟩)
    · exact ⟨t, by rw [len3 _ _ _ _ (by omega)]; omega, by rw [lo3 _ _ _ _ _ (by omega), if_pos a1]; exact h2, by rw [hi3 _ _ _ _ _ (by omega), if_pos a1]; exact h3⟩
    · refine ⟨f + t, by rw [len3 _ _ _ _ (by omega)]; omega, ?_, ?_⟩
      · rw [lo3 _ _ _ _ _ (by omega), if_neg (by omega), if_pos (by omega), Nat.add_sub_cancel_left]; exact h2
      · rw [hi3 _ _ _ _ _ (by omega), if_neg (by omega), if_pos (by omega), Nat.add_sub_cancel_left]; exact h3
    · have e1 : t - e + f + vs.length - f - vs.length + e = t := by omega
      refine ⟨t - e + f + vs.length, by rw [len3 _ _ _ _ (by omega)]; omega, ?_, ?_⟩
      · rw [lo3 _ _ _ _ _ (by omega), if_neg (by omega), if_neg (by omega), e1]; exact h2
      · rw [hi3 _ _ _ _ _ (by omega), if_neg (by omega), if_neg (by omega), e1]; exact h3

theorem Canon.mono {rs : List (Int × Int)} (h : Canon rs) {t u : Nat} (htu : t ≤ u) (hu : u < rs.length) : lo rs t ≤ lo rs u ∧ hi rs t ≤ hi rs u := by
  rcases Nat.lt_or_ge t u with h1 | h1
  · have := h.gap t u h1 hu; have := h.run t (by omega); have := h.run u hu; omega
  · have : t = u := by omega
    subst this; omega

theorem fits_of_in {a b : Int} {rs : List (Int × Int)} (hC : Canon rs) (h : ∀ x, In rs x → a ≤ x ∧ x ≤ b) : Fits a b rs := fun i hi1 => by
  have := hC.run i hi1
  exact ⟨(h (lo rs i) ⟨i, hi1, Int.le_refl _, this⟩).1, (h (hi rs i) ⟨i, hi1, this, Int.le_refl _⟩).2⟩
theorem Fits.in {a b : Int} {rs : List (Int × Int)} (h : Fits a b rs) {x : Int} (hx : In rs x) : a ≤ x ∧ x ≤ b := by
  obtain ⟨i, h1, h2, h3⟩ := hx; have := h i h1; omega

theorem canon_one {l h : Int} (hlh : l ≤ h) : Canon [(l, h)] := by
  refine ⟨fun i hi1 => ?_, fun i j h1 h2 => by simp at h2; omega⟩
  have : i = 0 := by simpa using hi1
  subst this; simpa [lo, hi] using hlh
theorem in_one (l h x : Int) : In [(l, h)] x ↔ l ≤ x ∧ x ≤ h := by
  rw [in_cons]; simp [In]

/-- What Add makes. -/
theorem add_runs {rs : List (Int × Int)} (hC : Canon rs) {a b : Int} (hab : a ≤ b) {f e : Nat} {l h : Int} (hfe : f ≤ e) (he : e ≤ rs.length)
    (h1 : ∀ t, t < f → hi rs t + 1 < a) (h2 : ∀ t, e ≤ t → t < rs.length → b + 1 < lo rs t) (h3 : ∀ t, f ≤ t → t < e → a ≤ hi rs t + 1 ∧ lo rs t ≤ b + 1)
    (hl : l = if f < e then min a (lo rs f) else a) (hh : h = if f < e then max b (hi rs (e - 1)) else b) :
    Canon (rs.take f ++ [(l, h)] ++ rs.drop e) ∧ ∀ x, In (rs.take f ++ [(l, h)] ++ rs.drop e) x ↔ In rs x ∨ a ≤ x ∧ x ≤ b := by
  have hl0 : l ≤ a := by rw [hl]; split <;> omega
  have hh0 : b ≤ h := by rw [hh]; split <;> omega
  have key1 : ∀ t, t < f → hi rs t + 1 < l := fun t ht => by
    rw [hl]; split
    · have := h1 t ht; have := hC.gap t f (by omega) (by omega); omega
    · exact h1 t ht
  have key2 : ∀ t, e ≤ t → t < rs.length → h + 1 < lo rs t := fun t ht htl => by
    rw [hh]; split
    · have := h2 t ht htl; have := hC.gap (e - 1) t (by omega) htl; omega
    · exact h2 t ht htl
  refine ⟨canon3 hC (canon_one (by omega)) hfe he (fun t s ht hs => ?_) (fun s t hs ht htl => ?_), fun x => ?_⟩
  · have : s = 0 := by simpa using hs
    subst this; simpa [lo] using key1 t ht
  · have : s = 0 := by simpa using hs
    subst this; simpa [hi] using key2 t ht htl
  · rw [in3 hfe he, in_one]
    constructor
    · rintro (⟨t, g1, g2⟩ | ⟨g1, g2⟩ | ⟨t, g0, g1, g2⟩)
      · exact .inl ⟨t, by omega, g2⟩
      · by_cases c1 : a ≤ x
        · by_cases c2 : x ≤ b
          · exact .inr ⟨c1, c2⟩
          · rw [hh] at g2
            split at g2
            · rename_i hlt
              have := h3 (e - 1) (by omega) (by omega)
              exact .inl ⟨e - 1, by omega, by omega, by omega⟩
            · omega
        · rw [hl] at g1
          split at g1
          · rename_i hlt
            have := h3 f (by omega) hlt
            exact .inl ⟨f, by omega, by omega, by omega⟩
          · omega
      · exact .inl ⟨t, g1, g2⟩
    · rintro (⟨t, g1, g2, g3⟩ | ⟨g1, g2⟩)
      · by_cases c1 : t < f
        · exact .inl ⟨t, c1, g2, g3⟩
        · by_cases c2 : t < e
          · refine .inr (.inl ⟨?_, ?_⟩)
            · rw [hl, if_pos (by omega)]
              have := hC.mono (t := f) (u := t) (by omega) g1; omega
            · rw [hh, if_pos (by omega)]
              have := hC.mono (t := t) (u := e - 1) (by omega) (by omega); omega
          · exact .inr (.inr ⟨t, by omega, g1, g2, g3⟩)
      · exact .inr (.inl ⟨by omega, by omega⟩)

/-- What Cut makes. -/
theorem cut_runs {rs vs : List (Int × Int)} (hC : Canon rs) {a b : Int} (hab : a ≤ b) {f e : Nat} (hfe : f < e) (he : e ≤ rs.length)
    (h1 : ∀ t, t < f → hi rs t < a) (h2 : ∀ t, e ≤ t → t < rs.length → b < lo rs t) (h3 : ∀ t, f ≤ t → t < e → a ≤ hi rs t ∧ lo rs t ≤ b)
    (hv : vs = (if lo rs f < a then [(lo rs f, a - 1)] else []) ++ (if b < hi rs (e - 1) then [(b + 1, hi rs (e - 1))] else [])) :
    Canon (rs.take f ++ vs ++ rs.drop e) ∧ ∀ x, In (rs.take f ++ vs ++ rs.drop e) x ↔ In rs x ∧ ¬ (a ≤ x ∧ x ≤ b) := by
  have hf3 := h3 f (by omega) hfe
  have he3 := h3 (e - 1) (by omega) (by omega)
  have hvin : ∀ x, In vs x ↔ (lo rs f ≤ x ∧ x < a) ∨ (b < x ∧ x ≤ hi rs (e - 1)) := fun x => by
    rw [hv]
    by_cases c1 : lo rs f < a <;> by_cases c2 : b < hi rs (e - 1)
    · rw [if_pos c1, if_pos c2, List.singleton_append, in_cons, in_one]; simp only []; omega
    · rw [if_pos c1, if_neg c2, List.append_nil, in_one]; omega
    · rw [if_neg c1, if_pos c2, List.nil_append, in_one]; omega
    · rw [if_neg c1, if_neg c2]; simp [In]; omega
  have hvc : Canon vs := by
    rw [hv]
    by_cases c1 : lo rs f < a <;> by_cases c2 : b < hi rs (e - 1)
    · rw [if_pos c1, if_pos c2, List.singleton_append]
      refine ⟨fun i hi1 => ?_, fun i j g1 g2 => ?_⟩
      · match i, hi1 with
        | 0, _ => simp [lo, hi] at *; omega
        | 1, _ => simp [lo, hi] at *; omega
      · have g3 : i = 0 ∧ j = 1 := by simp at g2; omega
        obtain ⟨rfl, rfl⟩ := g3
        simp [lo, hi]; omega
    · rw [if_pos c1, if_neg c2, List.append_nil]; exact canon_one (by omega)
    · rw [if_neg c1, if_pos c2, List.nil_append]; exact canon_one (by omega)
    · rw [if_neg c1, if_neg c2]; exact canon_nil
  have hf := hC.run f (by omega)
  have hee := hC.run (e - 1) (by omega)
  refine ⟨canon3 hC hvc (by omega) he (fun t s ht hs => ?_) (fun s t hs ht htl => ?_), fun x => ?_⟩
  · have g := (hvin (lo vs s)).1 ⟨s, hs, Int.le_refl _, hvc.run s hs⟩
    have := hC.gap t f ht (by omega)
    omega
  · have g := (hvin (hi vs s)).1 ⟨s, hs, hvc.run s hs, Int.le_refl _⟩
    have := hC.gap (e - 1) t (by omega) htl
    omega
  · rw [in3 (by omega) he, hvin]
    constructor
    · rintro (⟨t, g1, g2, g3⟩ | (⟨g1, g2⟩ | ⟨g1, g2⟩) | ⟨t, g0, g1, g2, g3⟩)
      · have := h1 t g1; exact ⟨⟨t, by omega, g2, g3⟩, by omega⟩
      · exact ⟨⟨f, by omega, g1, by omega⟩, by omega⟩
      · exact ⟨⟨e - 1, by omega, by omega, g2⟩, by omega⟩
      · have := h2 t g0 g1; exact ⟨⟨t, g1, g2, g3⟩, by omega⟩
    · rintro ⟨⟨t, g1, g2, g3⟩, g4⟩
      by_cases c1 : t < f
      · exact .inl ⟨t, c1, g2, g3⟩
      · by_cases c2 : t < e
        · have m1 := hC.mono (t := f) (u := t) (by omega) g1
          have m2 := hC.mono (t := t) (u := e - 1) (by omega) (by omega)
          exact .inr (.inl (by omega))
        · exact .inr (.inr ⟨t, by omega, g1, g2, g3⟩)

end Go.Proofs.Ytdalghfhpekcfaa
