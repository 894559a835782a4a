/- The reference's set: what was done, and the runs that follow. -/
import Derived.Test.YtdalghfhpekcfaaMath
namespace Go.Proofs.Ytdalghfhpekcfaa

/-- A deed: put in or taken out, from, to. -/
abbrev Deed := Bool × Int × Int
/-- Does the deed name x? -/
def names (d : Deed) (x : Int) : Bool := decide (d.2.1 ≤ x) && decide (x ≤ d.2.2)
/-- Is x in, by the last deed that names it? -/
def isIn (ds : List Deed) (x : Int) : Bool := ds.foldl (fun b d => if names d x then d.1 else b) false

theorem names_iff (d : Deed) (x : Int) : names d x = true ↔ d.2.1 ≤ x ∧ x ≤ d.2.2 := by simp [names]
theorem isIn_nil (x : Int) : isIn [] x = false := rfl
theorem isIn_snoc (ds : List Deed) (d : Deed) (x : Int) : isIn (ds ++ [d]) x = if names d x then d.1 else isIn ds x := by simp [isIn, List.foldl_append]

theorem foldl_alike (x y : Int) : ∀ (ds : List Deed) (b : Bool), (∀ d ∈ ds, names d x = names d y) → ds.foldl (fun b d => if names d x then d.1 else b) b = ds.foldl (fun b d => if names d y then d.1 else b) b
  | [], _, _ => rfl
  | d :: ds, b, h => by
    simp only [List.foldl_cons]
    rw [h d (by simp)]
    exact foldl_alike x y ds _ (fun e he => h e (by simp [he]))
theorem isIn_alike {ds : List Deed} {x y : Int} (h : ∀ d ∈ ds, names d x = names d y) : isIn ds x = isIn ds y := foldl_alike x y ds false h
theorem isIn_none {x : Int} : ∀ {ds : List Deed}, (∀ d ∈ ds, names d x = false) → isIn ds x = false := by
  intro ds h
  have : ∀ (ds : List Deed) (b : Bool), (∀ d ∈ ds, names d x = false) → ds.foldl (fun b d => if names d x then d.1 else b) b = b := by
    intro ds
    induction ds with
    | nil => intros; rfl
    | cons d ds ih =>
      intro b h
      simp only [List.foldl_cons]
      rw [h d (by simp)]
      exact ih b (fun e he => h e (by simp [he]))
  exact this ds false h
theorem isIn_some {ds : List Deed} {x : Int} (h : isIn ds x = true) : ∃ d ∈ ds, names d x = true := by
  by_cases h2 : ∀ d ∈ ds, names d x = false
  · rw [isIn_none h2] at h; cases h
  · simp only [Classical.not_forall] at h2
    obtain ⟨d, hd, hn⟩ := h2
    exact ⟨d, hd, by simpa using hn⟩
/-- Going from the end: what is behind names x not. -/
theorem isIn_take {ds : List Deed} {x : Int} {i : Nat} (_hi : i < ds.length) (h : ∀ j, i < j → j < ds.length → ∀ d, ds[j]? = some d → names d x = false) : isIn ds x = isIn (ds.take (i + 1)) x := by
  have e : ds = ds.take (i + 1) ++ ds.drop (i + 1) := (List.take_append_drop _ _).symm
  have h2 : ∀ d ∈ ds.drop (i + 1), names d x = false := by
    intro d hd
    obtain ⟨j, hj⟩ := List.mem_iff_getElem?.1 hd
    rw [List.getElem?_drop] at hj
    exact h (i + 1 + j) (by omega) ((List.getElem?_eq_some_iff.1 hj).1) d hj
  have g : ∀ (es : List Deed) (b : Bool), (∀ d ∈ es, names d x = false) → es.foldl (fun b d => if names d x then d.1 else b) b = b := by
    intro es
    induction es with
    | nil => intros; rfl
    | cons d es ih =>
      intro b h
      simp only [List.foldl_cons]
      rw [h d (by simp)]
      exact ih b (fun e he => h e (by simp [he]))
  conv => lhs; rw [e]
  unfold isIn
  rw [List.foldl_append]
  exact g _ _ h2
theorem isIn_at {ds : List Deed} {x : Int} {i : Nat} {d : Deed} (hd : ds[i]? = some d) : isIn (ds.take (i + 1)) x = if names d x then d.1 else isIn (ds.take i) x := by
  rw [List.take_add_one, hd]
  exact isIn_snoc _ _ _

/-- A strictly rising list. -/
def Rise (l : List Int) : Prop := ∀ i j, i < j → j < l.length → l.getD i 0 < l.getD j 0

theorem rise_nil : Rise [] := fun i j _ h => by simp at h

/-- The places at which the deeds begin, or behind which they end. -/
structure Cuts (most : Int) (ds : List Deed) (l : List Int) : Prop where
  rise : Rise l
  low : ∀ d ∈ ds, d.2.1 ≤ d.2.2 → d.2.1 ∈ l
  high : ∀ d ∈ ds, d.2.1 ≤ d.2.2 → d.2.2 < most → d.2.2 + 1 ∈ l
  le : ∀ x ∈ l, x ≤ most
  ge : ∀ x ∈ l, -9223372036854775808 ≤ x

theorem getD_mem {l : List Int} {i : Nat} (h : i < l.length) : l.getD i 0 ∈ l := by
  rw [List.getD_eq_getElem?_getD, List.getElem?_eq_getElem h]; simp
theorem mem_getD {l : List Int} {x : Int} (h : x ∈ l) : ∃ i, i < l.length ∧ l.getD i 0 = x := by
  obtain ⟨i, hi, e⟩ := List.mem_iff_getElem.1 h
  exact ⟨i, hi, by rw [List.getD_eq_getElem?_getD, List.getElem?_eq_getElem hi]; simpa using e⟩

/-- Where the numbers that are like l[i] end. -/
def bound (most : Int) (l : List Int) (i : Nat) : Int := if i < l.length then l.getD i 0 else most + 1

theorem Cuts.alike {most : Int} {ds : List Deed} {l : List Int} (h : Cuts most ds l) {i : Nat} (hi : i < l.length) {x : Int} (h1 : l.getD i 0 ≤ x) (h2 : x < bound most l (i + 1)) : isIn ds x = isIn ds (l.getD i 0) := by
  have hb : ∀ y ∈ l, y ≤ x → y ≤ l.getD i 0 := fun y hy hyx => by
    obtain ⟨j, hj, rfl⟩ := mem_getD hy
    rcases Nat.lt_or_ge i j with g | g
    · have : bound most l (i + 1) ≤ l.getD j 0 := by
        unfold bound
        rw [if_pos (by omega)]
        rcases Nat.lt_or_ge (i + 1) j with g2 | g2
        · exact Int.le_of_lt (h.rise _ _ g2 hj)
        · rw [show j = i + 1 by omega]; exact Int.le_refl _
      omega
    · rcases Nat.lt_or_ge j i with g2 | g2
      · exact Int.le_of_lt (h.rise _ _ g2 hi)
      · rw [show j = i by omega]; exact Int.le_refl _
  have hm : x ≤ most := by
    unfold bound at h2
    split at h2
    · rename_i g
      have := h.le _ (getD_mem g); omega
    · omega
  refine isIn_alike fun d hd => ?_
  rw [Bool.eq_iff_iff, names_iff, names_iff]
  constructor
  · rintro ⟨g1, g2⟩
    exact ⟨hb _ (h.low d hd (by omega)) g1, by omega⟩
  · rintro ⟨g1, g2⟩
    refine ⟨by omega, ?_⟩
    rcases Int.lt_or_le d.2.2 x with g3 | g3
    · have := hb _ (h.high d hd (by omega) (by omega)) (by omega)
      omega
    · exact g3

theorem Cuts.below {most : Int} {ds : List Deed} {l : List Int} (h : Cuts most ds l) {x : Int} (h2 : x < bound most l 0) : isIn ds x = false := by
  refine isIn_none fun d hd => ?_
  rw [Bool.eq_false_iff]
  intro hn
  rw [names_iff] at hn
  obtain ⟨j, hj, e⟩ := mem_getD (h.low d hd (by omega))
  unfold bound at h2
  rw [if_pos (by omega)] at h2
  rcases Nat.eq_zero_or_pos j with rfl | g
  · omega
  · have := h.rise 0 j g hj
    omega

theorem Cuts.rises {most : Int} {ds : List Deed} {l : List Int} (h : Cuts most ds l) {i : Nat} (hi : i < l.length) : l.getD i 0 < bound most l (i + 1) := by
  unfold bound
  split
  · exact h.rise _ _ (by omega) (by omega)
  · have := h.le _ (getD_mem hi); omega

/-- The runs behind i places. -/
structure RunsTo (most : Int) (ds : List Deed) (l : List Int) (i : Nat) (rs : List (Int × Int)) : Prop where
  canon : Canon rs
  tell : ∀ x, In rs x ↔ isIn ds x = true ∧ x < bound most l i
  len : rs.length ≤ i
  open' : 0 < i → isIn ds (l.getD (i - 1) 0) = true → ∃ r, rs.getLast? = some r ∧ r.2 + 1 = bound most l i
  shut : (0 < i → isIn ds (l.getD (i - 1) 0) = false) → ∀ k, k < rs.length → hi rs k + 1 < bound most l i

theorem RunsTo.start {most : Int} {ds : List Deed} {l : List Int} (h : Cuts most ds l) : RunsTo most ds l 0 [] := by
  refine ⟨canon_nil, fun x => ⟨fun ⟨i, hi, _⟩ => by simp at hi, fun ⟨h1, h2⟩ => ?_⟩, Nat.le_refl _, fun h => by omega, fun _ k hk => by simp at hk⟩
  rw [h.below h2] at h1; cases h1

theorem bound_at {most : Int} {l : List Int} {i : Nat} (h : i < l.length) : bound most l i = l.getD i 0 := by unfold bound; rw [if_pos h]

theorem in_split {most : Int} {ds : List Deed} {l : List Int} {i : Nat} {rs : List (Int × Int)} (hR : RunsTo most ds l i rs) (h : Cuts most ds l) (hi : i < l.length) (x : Int) :
    (isIn ds x = true ∧ x < bound most l (i + 1)) ↔ (In rs x ∨ (isIn ds (l.getD i 0) = true ∧ l.getD i 0 ≤ x ∧ x < bound most l (i + 1))) := by
  rw [hR.tell, bound_at hi]
  have hr := h.rises hi
  constructor
  · rintro ⟨h1, h2⟩
    rcases Int.lt_or_le x (l.getD i 0) with g | g
    · exact .inl ⟨h1, g⟩
    · exact .inr ⟨by rw [← h.alike hi g h2]; exact h1, g, h2⟩
  · rintro (⟨h1, h2⟩ | ⟨h1, h2, h3⟩)
    · exact ⟨h1, by omega⟩
    · exact ⟨by rw [h.alike hi h2 h3]; exact h1, h3⟩

theorem RunsTo.skip {most : Int} {ds : List Deed} {l : List Int} {i : Nat} {rs : List (Int × Int)} (hR : RunsTo most ds l i rs) (h : Cuts most ds l) (hi : i < l.length) (h0 : isIn ds (l.getD i 0) = false) : RunsTo most ds l (i + 1) rs := by
  have hr := h.rises hi
  refine ⟨hR.canon, fun x => ?_, by have := hR.len; omega, fun _ hh => ?_, fun _ k hk => ?_⟩
  · rw [in_split hR h hi x]
    exact ⟨fun a => .inl a, fun a => a.elim id (fun b => by rw [h0] at b; exact absurd b.1 (by simp))⟩
  · rw [show i + 1 - 1 = i by omega, h0] at hh; cases hh
  · have hin : In rs (Go.Proofs.Ytdalghfhpekcfaa.hi rs k) := ⟨k, hk, hR.canon.run k hk, Int.le_refl _⟩
    have := ((hR.tell _).1 hin).2
    rw [bound_at hi] at this
    omega

theorem hi_append_left {rs ss : List (Int × Int)} {k : Nat} (h : k < rs.length) : hi (rs ++ ss) k = hi rs k := by simp [hi, List.getD_eq_getElem?_getD, List.getElem?_append_left h]
theorem lo_append_left {rs ss : List (Int × Int)} {k : Nat} (h : k < rs.length) : lo (rs ++ ss) k = lo rs k := by simp [lo, List.getD_eq_getElem?_getD, List.getElem?_append_left h]
theorem hi_snoc (rs : List (Int × Int)) (r : Int × Int) : hi (rs ++ [r]) rs.length = r.2 := by simp [hi, List.getD_eq_getElem?_getD]
theorem lo_snoc (rs : List (Int × Int)) (r : Int × Int) : lo (rs ++ [r]) rs.length = r.1 := by simp [lo, List.getD_eq_getElem?_getD]
theorem in_snoc (rs : List (Int × Int)) (r : Int × Int) (x : Int) : In (rs ++ [r]) x ↔ In rs x ∨ (r.1 ≤ x ∧ x ≤ r.2) := by
  constructor
  · rintro ⟨k, h1, h2, h3⟩
    rw [List.length_append, List.length_singleton] at h1
    rcases Nat.lt_or_ge k rs.length with g | g
    · rw [lo_append_left g] at h2; rw [hi_append_left g] at h3; exact .inl ⟨k, g, h2, h3⟩
    · obtain rfl : k = rs.length := by omega
      rw [lo_snoc] at h2; rw [hi_snoc] at h3; exact .inr ⟨h2, h3⟩
  · rintro (⟨k, h1, h2, h3⟩ | ⟨h2, h3⟩)
    · exact ⟨k, by simp; omega, by rw [lo_append_left h1]; exact h2, by rw [hi_append_left h1]; exact h3⟩
    · exact ⟨rs.length, by simp, by rw [lo_snoc]; exact h2, by rw [hi_snoc]; exact h3⟩
theorem canon_snoc {rs : List (Int × Int)} {r : Int × Int} (h : Canon rs) (hr : r.1 ≤ r.2) (hg : ∀ k, k < rs.length → hi rs k + 1 < r.1) : Canon (rs ++ [r]) := by
  refine ⟨fun k hk => ?_, fun i j hij hj => ?_⟩
  · rw [List.length_append, List.length_singleton] at hk
    rcases Nat.lt_or_ge k rs.length with g | g
    · rw [lo_append_left g, hi_append_left g]; exact h.run k g
    · obtain rfl : k = rs.length := by omega
      rw [lo_snoc, hi_snoc]; exact hr
  · rw [List.length_append, List.length_singleton] at hj
    rw [hi_append_left (by omega)]
    rcases Nat.lt_or_ge j rs.length with g | g
    · rw [lo_append_left g]; exact h.gap i j hij g
    · obtain rfl : j = rs.length := by omega
      rw [lo_snoc]; exact hg i (by omega)

/-- A run more. -/
theorem RunsTo.more {most : Int} {ds : List Deed} {l : List Int} {i : Nat} {rs : List (Int × Int)} (hR : RunsTo most ds l i rs) (h : Cuts most ds l) (hi : i < l.length) (h1 : isIn ds (l.getD i 0) = true) (h0 : 0 < i → isIn ds (l.getD (i - 1) 0) = false) :
    RunsTo most ds l (i + 1) (rs ++ [(l.getD i 0, bound most l (i + 1) - 1)]) := by
  have hr := h.rises hi
  refine ⟨canon_snoc hR.canon (by show l.getD i 0 ≤ bound most l (i + 1) - 1; omega) (fun k hk => ?_), fun x => ?_, by simp; exact hR.len, fun _ _ => ⟨(l.getD i 0, bound most l (i + 1) - 1), by simp, by show bound most l (i + 1) - 1 + 1 = _; omega⟩, fun hh => ?_⟩
  · have := hR.shut h0 k hk
    rw [bound_at hi] at this
    exact this
  · rw [in_split hR h hi x, in_snoc]
    simp only [h1, true_and]
    refine or_congr Iff.rfl ⟨fun ⟨a, b⟩ => ⟨a, by omega⟩, fun ⟨a, b⟩ => ⟨a, by omega⟩⟩
  · have := hh (by omega)
    rw [show i + 1 - 1 = i by omega, h1] at this; cases this

/-- The last run is longer. -/
theorem RunsTo.longer {most : Int} {ds : List Deed} {l : List Int} {i : Nat} {rs : List (Int × Int)} {r : Int × Int} (hR : RunsTo most ds l i (rs ++ [r])) (h : Cuts most ds l) (hi : i < l.length) (h1 : isIn ds (l.getD i 0) = true) (hp : 0 < i) (h0 : isIn ds (l.getD (i - 1) 0) = true) :
    RunsTo most ds l (i + 1) (rs ++ [(r.1, bound most l (i + 1) - 1)]) := by
  have hr := h.rises hi
  obtain ⟨r', e, hb⟩ := hR.open' hp h0
  simp at e
  subst e
  rw [bound_at hi] at hb
  have hC := hR.canon
  have hrr : r.1 ≤ r.2 := by have := hC.run rs.length (by simp); rwa [lo_snoc, hi_snoc] at this
  have hC0 : Canon rs := ⟨fun k hk => by have := hC.run k (by simp; omega); rwa [lo_append_left hk, hi_append_left hk] at this, fun i j hij hj => by have := hC.gap i j hij (by simp; omega); rwa [hi_append_left (by omega), lo_append_left hj] at this⟩
  have hg : ∀ k, k < rs.length → Go.Proofs.Ytdalghfhpekcfaa.hi rs k + 1 < r.1 := fun k hk => by have := hC.gap k rs.length hk (by simp); rwa [hi_append_left hk, lo_snoc] at this
  refine ⟨canon_snoc hC0 (by show r.1 ≤ bound most l (i + 1) - 1; omega) hg, fun x => ?_, ?_, fun _ _ => ⟨(r.1, bound most l (i + 1) - 1), by simp, by show bound most l (i + 1) - 1 + 1 = _; omega⟩, fun hh => ?_⟩
  · rw [in_split hR h hi x, in_snoc, in_snoc]
    simp only [h1, true_and]
    constructor
    · rintro (a | ⟨a, b⟩)
      · exact .inl (.inl a)
      · rcases Int.lt_or_le r.2 x with g | g
        · exact .inr ⟨by omega, by omega⟩
        · exact .inl (.inr ⟨a, g⟩)
    · rintro ((a | ⟨a, b⟩) | ⟨a, b⟩)
      · exact .inl a
      · exact .inr ⟨a, by omega⟩
      · exact .inr ⟨by omega, by omega⟩
  · have := hR.len; simp at this ⊢; omega
  · have := hh (by omega)
    rw [show i + 1 - 1 = i by omega, h1] at this; cases this

/-- At the end: the runs of what is in. -/
theorem RunsTo.end' {most : Int} {ds : List Deed} {l : List Int} {rs ss : List (Int × Int)} (hR : RunsTo most ds l l.length rs) (hm : ∀ d ∈ ds, d.2.2 ≤ most) (hC : Canon ss) (hs : ∀ x, In ss x ↔ isIn ds x = true) : rs = ss := by
  refine canon_ext _ _ hR.canon hC fun x => ?_
  rw [hR.tell, hs]
  refine ⟨fun h => h.1, fun h => ⟨h, ?_⟩⟩
  obtain ⟨d, hd, hn⟩ := isIn_some h
  rw [names_iff] at hn
  have := hm d hd
  unfold bound
  rw [if_neg (by omega)]
  omega

/-! ### a number put into a rising list -/

theorem rise_put {l : List Int} {x : Int} {i : Nat} (h : Rise l) (hi : i ≤ l.length) (h1 : ∀ k, k < i → l.getD k 0 < x) (h2 : i < l.length → x < l.getD i 0) : Rise (l.take i ++ [x] ++ l.drop i) := by
  have g : ∀ k, (l.take i ++ [x] ++ l.drop i).getD k 0 = if k < i then l.getD k 0 else if k = i then x else l.getD (k - 1) 0 := fun k => by
    simp only [List.getD_eq_getElem?_getD]
    by_cases e1 : k < i
    · rw [if_pos e1, List.append_assoc, List.getElem?_append_left (by simp; omega), List.getElem?_take_of_lt e1]
    · rw [if_neg e1]
      by_cases e2 : k = i
      · subst e2
        rw [if_pos rfl, List.append_assoc, List.getElem?_append_right (by simp; omega), show k - (l.take k).length = 0 by simp; omega]
        simp
      · rw [if_neg e2, List.getElem?_append_right (by simp; omega), List.getElem?_drop]
        congr 2
        simp
        omega
  have hb : i < l.length → ∀ k, i ≤ k → k < l.length → x < l.getD k 0 := fun hi2 k hk hkl => by
    rcases Nat.lt_or_ge i k with g2 | g2
    · have := h i k g2 hkl; have := h2 hi2; omega
    · rw [show k = i by omega]; exact h2 hi2
  intro a b hab hbl
  simp at hbl
  rw [g, g]
  by_cases e1 : b < i
  · rw [if_pos (by omega), if_pos e1]; exact h a b hab (by omega)
  · rw [if_neg e1]
    by_cases e2 : b = i
    · rw [if_pos e2, if_pos (by omega)]; exact h1 a (by omega)
    · rw [if_neg e2]
      by_cases e3 : a < i
      · rw [if_pos e3]; exact h a (b - 1) (by omega) (by omega)
      · rw [if_neg e3]
        by_cases e4 : a = i
        · rw [if_pos e4]; exact hb (by omega) (b - 1) (by omega) (by omega)
        · rw [if_neg e4]; exact h (a - 1) (b - 1) (by omega) (by omega)
theorem mem_put {l : List Int} {x y : Int} {i : Nat} : y ∈ l.take i ++ [x] ++ l.drop i ↔ y = x ∨ y ∈ l := by
  have e : y ∈ l ↔ y ∈ l.take i ∨ y ∈ l.drop i := by
    conv => lhs; rw [← List.take_append_drop i l]
    exact List.mem_append
  simp only [List.mem_append, List.mem_singleton, e]
  constructor
  · rintro ((h | h) | h)
    · exact .inr (.inl h)
    · exact .inl h
    · exact .inr (.inr h)
  · rintro (h | h | h)
    · exact .inl (.inr h)
    · exact .inl (.inl h)
    · exact .inr h
end Go.Proofs.Ytdalghfhpekcfaa
