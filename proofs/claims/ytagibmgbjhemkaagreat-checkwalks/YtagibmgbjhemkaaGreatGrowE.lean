/- A table grows. -/
import Derived.Test.YtagibmgbjhemkaaGreatPlaces
import Derived.Lib.AppendZeros
namespace Go.Proofs.YtagibmgbjhemkaaGreat

section
structure Lin {K : Type} (lt : K → K → Bool) : Prop where
  irr : ∀ a, lt a a = false
  trans : ∀ a b c, lt a b = true → lt b c = true → lt a c = true
  tot : ∀ a b, a ≠ b → lt a b = true ∨ lt b a = true
def Rising {K : Type} (lt : K → K → Bool) (l : List K) : Prop := l.Pairwise (fun a b => lt a b = true)
section
variable {K : Type} {lt : K → K → Bool}
theorem Rising.nodup (hl : Lin lt) {l : List K} (h : Rising lt l) : l.Nodup := by
  refine List.Pairwise.imp (fun {a b} hab e => ?_) h
  subst e; rw [hl.irr] at hab
  cases hab
theorem rising_ext (hl : Lin lt) : ∀ {l l' : List K}, Rising lt l → Rising lt l' → (∀ k, k ∈ l ↔ k ∈ l') → l = l'
  | [], [], _, _, _ => rfl
  | [], b :: l', _, _, h => by have := (h b).2 (List.mem_cons_self ..); cases this
  | a :: l, [], _, _, h => by have := (h a).1 (List.mem_cons_self ..); cases this
  | a :: l, b :: l', h1, h2, h => by
    have p1 := List.pairwise_cons.1 h1; have p2 := List.pairwise_cons.1 h2; have hab : a = b := by
      rcases List.mem_cons.1 ((h a).1 (List.mem_cons_self ..)) with e | e
      · exact e
      · rcases List.mem_cons.1 ((h b).2 (List.mem_cons_self ..)) with e' | e'
        · exact e'.symm
        · have q1 := p2.1 a e; have q2 := p1.1 b e'; have := hl.trans _ _ _ q1 q2; rw [hl.irr] at this
          cases this
    subst hab; rw [rising_ext hl p1.2 p2.2 (fun k => ?_)]
    constructor
    · intro hk; rcases List.mem_cons.1 ((h k).1 (List.mem_cons_of_mem _ hk)) with e | e
      · subst e; have := p1.1 k hk; rw [hl.irr] at this
        cases this
      · exact e
    · intro hk; rcases List.mem_cons.1 ((h k).2 (List.mem_cons_of_mem _ hk)) with e | e
      · subst e; have := p2.1 k hk; rw [hl.irr] at this
        cases this
      · exact e
def cnt (lt : K → K → Bool) (l : List K) (x : K) : Nat := l.countP (fun y => lt y x)
theorem cnt_cons (a : K) (l : List K) (x : K) : cnt lt (a :: l) x = if lt a x then cnt lt l x + 1 else cnt lt l x := by
  unfold cnt; rw [List.countP_cons]; split <;> rfl
theorem cnt_le (l : List K) (x : K) : cnt lt l x ≤ l.length := List.countP_le_length
theorem cnt_parts (hl : Lin lt) : ∀ {l : List K} (x : K), Rising lt l → (∀ y ∈ l.take (cnt lt l x), lt y x = true) ∧ ∀ y ∈ l.drop (cnt lt l x), lt y x = false
  | [], x, _ => by simp [cnt]
  | a :: l, x, h => by
    have p := List.pairwise_cons.1 h; have ih := cnt_parts hl x p.2; rw [cnt_cons]
    by_cases e : lt a x = true
    · rw [if_pos e, List.take_succ_cons, List.drop_succ_cons]; refine ⟨fun y hy => ?_, ih.2⟩
      rcases List.mem_cons.1 hy with rfl | hy
      · exact e
      · exact ih.1 y hy
    · have hno : ∀ y ∈ a :: l, lt y x = false := fun y hy => by
        cases hyx : lt y x with
        | false => rfl
        | true =>
          rcases List.mem_cons.1 hy with rfl | hy
          · exact absurd hyx e
          · exact absurd (hl.trans _ _ _ (p.1 y hy) hyx) e
      have hc : cnt lt l x = 0 := List.countP_eq_zero.2 (fun y hy => by rw [hno y (List.mem_cons_of_mem _ hy)]; simp)
      rw [if_neg e, hc]; exact ⟨fun y hy => by simp at hy, fun y hy => hno y (by simpa using hy)⟩
theorem cnt_at (hl : Lin lt) {l : List K} {x : K} (h : Rising lt l) (hx : x ∈ l) : l.drop (cnt lt l x) = x :: l.drop (cnt lt l x + 1) := by
  obtain ⟨h1, h2⟩ := cnt_parts hl x h; have hxd : x ∈ l.drop (cnt lt l x) := by
    rw [← List.take_append_drop (cnt lt l x) l] at hx; rcases List.mem_append.1 hx with e | e
    · have := h1 x e; rw [hl.irr] at this
      cases this
    · exact e
  have hr : Rising lt (l.drop (cnt lt l x)) := h.sublist (List.drop_sublist _ _)
  cases hd : l.drop (cnt lt l x) with
  | nil => rw [hd] at hxd; cases hxd
  | cons a r =>
    have har : r = l.drop (cnt lt l x + 1) := by rw [← List.drop_drop, hd]; rfl
    rw [hd] at hxd hr h2; rcases List.mem_cons.1 hxd with e | e
    · rw [← har, e]
    · have p := (List.pairwise_cons.1 hr).1 x e; rw [h2 a (List.mem_cons_self ..)] at p
      cases p
theorem cut_one (hl : Lin lt) {l : List K} {x : K} (h : Rising lt l) (hx : x ∈ l) :
    Rising lt (l.take (cnt lt l x) ++ l.drop (cnt lt l x + 1)) ∧ (∀ k, k ∈ l.take (cnt lt l x) ++ l.drop (cnt lt l x + 1) ↔ k ∈ l ∧ k ≠ x) ∧ (l.take (cnt lt l x) ++ l.drop (cnt lt l x + 1)).length + 1 = l.length ∧ cnt lt l x < l.length := by
  have hd := cnt_at hl h hx; have e : l = l.take (cnt lt l x) ++ x :: l.drop (cnt lt l x + 1) := by rw [← hd, List.take_append_drop]
  have hn := h.nodup hl; have hlen : (l.take (cnt lt l x) ++ l.drop (cnt lt l x + 1)).length + 1 = l.length := by
    have := congrArg List.length e; simp only [List.length_append, List.length_cons] at this ⊢; omega
  generalize hA : l.take (cnt lt l x) = A at *; generalize hB : l.drop (cnt lt l x + 1) = B at *; have hcl : cnt lt l x < l.length := by
    have h1 := cnt_le (lt := lt) l x; rcases Nat.lt_or_ge (cnt lt l x) l.length with g | g
    · exact g
    · rw [List.drop_eq_nil_of_le g] at hd; cases hd
  rw [e] at h hn; obtain ⟨p1, p2, p3⟩ := List.pairwise_append.1 h; have p4 := List.pairwise_cons.1 p2; obtain ⟨n1, n2, n3⟩ := List.pairwise_append.1 hn; have n4 := List.pairwise_cons.1 n2; refine ⟨List.pairwise_append.2 ⟨p1, p4.2, fun a ha b hb => p3 a ha b (List.mem_cons_of_mem _ hb)⟩, fun k => ?_, hlen, hcl⟩
  rw [e, List.mem_append, List.mem_append, List.mem_cons]; constructor
  · rintro (hk | hk)
    · exact ⟨.inl hk, n3 k hk x (List.mem_cons_self ..)⟩
    · exact ⟨.inr (.inr hk), fun e => n4.1 k hk e.symm⟩
  · rintro ⟨hk | hk | hk, hne⟩
    · exact .inl hk
    · exact absurd hk hne
    · exact .inr hk
end
def ltN : Int → Int → Bool := fun a b => decide (a < b)
theorem linN : Lin ltN := ⟨fun a => by simp [ltN], fun a b c h1 h2 => by simp [ltN] at *; omega, fun a b h => by simp [ltN]; omega⟩
theorem put_one {l : List Int} {x : Int} (h : Rising ltN l) (hx : x ∉ l) :
    Rising ltN (l.take (cnt ltN l x) ++ [x] ++ l.drop (cnt ltN l x)) ∧ ∀ k, k ∈ l.take (cnt ltN l x) ++ [x] ++ l.drop (cnt ltN l x) ↔ k = x ∨ k ∈ l := by
  obtain ⟨h1, h2⟩ := cnt_parts linN x h; have e : l = l.take (cnt ltN l x) ++ l.drop (cnt ltN l x) := (List.take_append_drop _ _).symm; generalize l.take (cnt ltN l x) = A at *; generalize l.drop (cnt ltN l x) = B at *; subst e; have hp := List.pairwise_append.1 h; refine ⟨?_, fun k => ?_⟩
  · unfold Rising; rw [List.append_assoc, List.pairwise_append]; refine ⟨hp.1, ?_, fun a ha b hb => ?_⟩
    · rw [List.singleton_append, List.pairwise_cons]; refine ⟨fun b hb => ?_, hp.2.1⟩
      have h3 := h2 b hb; have h4 : b ≠ x := fun e => hx (by rw [← e]; exact List.mem_append_right _ hb)
      simp only [ltN, decide_eq_false_iff_not, decide_eq_true_eq] at h3 ⊢; omega
    · rw [List.singleton_append] at hb; rcases List.mem_cons.1 hb with e | e
      · rw [e]; exact h1 a ha
      · exact hp.2.2 a ha b e
  · simp only [List.mem_append, List.mem_singleton]; constructor
    · rintro ((h | h) | h)
      · exact .inr (.inl h)
      · exact .inl h
      · exact .inr (.inr h)
    · rintro (h | h | h)
      · exact .inl (.inr h)
      · exact .inl (.inl h)
      · exact .inr h
def numsFrom (p : EdgeV → Bool) : List (EdgeV × Bool) → Nat → List Int
  | [], _ => []
  | y :: ps, i => if y.2 && p y.1 then ((i : Int) + 1) :: numsFrom p ps (i + 1) else numsFrom p ps (i + 1)
def numsOf (p : EdgeV → Bool) (ps : List (EdgeV × Bool)) : List Int := numsFrom p ps 0
theorem mem_numsFrom (p : EdgeV → Bool) : ∀ (ps : List (EdgeV × Bool)) (i : Nat) (e : Int), e ∈ numsFrom p ps i ↔ ∃ (j : Nat) (x : EdgeV), ps[j]? = some (x, true) ∧ p x = true ∧ e = ((i + j : Nat) : Int) + 1
  | [], i, e => by simp [numsFrom]
  | (y, b) :: ps, i, e => by
    have ih := mem_numsFrom p ps (i + 1) e; have ih' : e ∈ numsFrom p ps (i + 1) ↔ ∃ (j : Nat) (x : EdgeV), ((y, b) :: ps)[j + 1]? = some (x, true) ∧ p x = true ∧ e = ((i + (j + 1) : Nat) : Int) + 1 := by
      rw [ih]; simp only [List.getElem?_cons_succ, show ∀ j, i + 1 + j = i + (j + 1) from fun j => by omega]
    unfold numsFrom; constructor
    · intro h
      by_cases hb : (b && p y) = true
      · rw [if_pos hb] at h; rw [Bool.and_eq_true] at hb; rcases List.mem_cons.1 h with h | h
        · exact ⟨0, y, by simp [hb.1], hb.2, by simpa using h⟩
        · obtain ⟨j, x, h1⟩ := ih'.1 h; exact ⟨j + 1, x, h1⟩
      · rw [if_neg hb] at h; obtain ⟨j, x, h1⟩ := ih'.1 h; exact ⟨j + 1, x, h1⟩
    · rintro ⟨j, x, h1, h2, h3⟩
      cases j with
      | zero =>
        simp at h1; obtain ⟨rfl, rfl⟩ := h1; rw [if_pos (by simp [h2])]
        exact List.mem_cons.2 (.inl (by simpa using h3))
      | succ j =>
        have := ih'.2 ⟨j, x, h1, h2, h3⟩; split
        · exact List.mem_cons_of_mem _ this
        · exact this
theorem mem_numsOf {p : EdgeV → Bool} {ps : List (EdgeV × Bool)} {e : Int} : e ∈ numsOf p ps ↔ ∃ (j : Nat) (x : EdgeV), ps[j]? = some (x, true) ∧ p x = true ∧ e = (j : Int) + 1 := by
  unfold numsOf; rw [mem_numsFrom]; simp
theorem rising_numsFrom (p : EdgeV → Bool) : ∀ (ps : List (EdgeV × Bool)) (i : Nat), Rising ltN (numsFrom p ps i) ∧ ∀ e ∈ numsFrom p ps i, (i : Int) < e
  | [], i => by simp [numsFrom, Rising]
  | y :: ps, i => by
    obtain ⟨h1, h2⟩ := rising_numsFrom p ps (i + 1); unfold numsFrom; split
    · refine ⟨List.pairwise_cons.2 ⟨fun e he => ?_, h1⟩, fun e he => ?_⟩
      · have := h2 e he; simp only [ltN, decide_eq_true_eq]; omega
      · rcases List.mem_cons.1 he with h | h
        · omega
        · have := h2 e h; omega
    · exact ⟨h1, fun e he => by have := h2 e he; omega⟩
theorem rising_numsOf (p : EdgeV → Bool) (ps : List (EdgeV × Bool)) : Rising ltN (numsOf p ps) := (rising_numsFrom p ps 0).1
theorem length_numsFrom (p : EdgeV → Bool) : ∀ (ps : List (EdgeV × Bool)) (i : Nat), (numsFrom p ps i).length ≤ ps.length
  | [], i => by simp [numsFrom]
  | y :: ps, i => by
    have := length_numsFrom p ps (i + 1); unfold numsFrom; split <;> simp only [List.length_cons] <;> omega
theorem length_numsOf (p : EdgeV → Bool) (ps : List (EdgeV × Bool)) : (numsOf p ps).length ≤ ps.length := length_numsFrom p ps 0
def outs (ps : List (EdgeV × Bool)) (k : Int) : List Int := numsOf (fun x => decide (x.2.1 = k)) ps
def inns (ps : List (EdgeV × Bool)) (k : Int) : List Int := numsOf (fun x => decide (x.2.2.1 = k)) ps
theorem at_put {ps : List (EdgeV × Bool)} {i : Nat} {x : EdgeV} {j : Nat} {y : EdgeV} (hi : ∀ a, ps[i]? ≠ some (a, true)) : ((ps ++ List.replicate (i + 1 - ps.length) (((0, 0, 0, 0) : EdgeV), false)).set i (x, true))[j]? = some (y, true) ↔ (j = i ∧ y = x) ∨ ps[j]? = some (y, true) := by
  have hlen : i < (ps ++ List.replicate (i + 1 - ps.length) (((0, 0, 0, 0) : EdgeV), false)).length := by simp; omega
  by_cases hj : j = i
  · subst hj; rw [List.getElem?_set_self hlen]; constructor
    · intro h; simp at h; exact .inl ⟨rfl, h.symm⟩
    · rintro (⟨-, h⟩ | h)
      · rw [h]
      · exact absurd h (hi y)
  · rw [List.getElem?_set_ne (fun e => hj e.symm), List.getElem?_append]
    constructor
    · intro h; split at h
      · exact .inr h
      · rw [List.getElem?_replicate] at h; split at h <;> simp at h
    · rintro (⟨h, -⟩ | h)
      · exact absurd h hj
      · rw [if_pos (List.getElem?_eq_some_iff.1 h).1]; exact h
theorem at_cut {ps : List (EdgeV × Bool)} {i : Nat} {z : EdgeV} {j : Nat} {y : EdgeV} : (ps.set i (z, false))[j]? = some (y, true) ↔ j ≠ i ∧ ps[j]? = some (y, true) := by
  by_cases hj : j = i
  · subst hj; constructor
    · intro h; have hl : j < ps.length := by have := (List.getElem?_eq_some_iff.1 h).1; simpa using this
      rw [List.getElem?_set_self hl] at h; simp at h
    · rintro ⟨h, -⟩; exact absurd rfl h
  · rw [List.getElem?_set_ne (fun e => hj e.symm)]
    exact ⟨fun h => ⟨hj, h⟩, fun h => h.2⟩
theorem nums_put {p : EdgeV → Bool} {ps ps' : List (EdgeV × Bool)} {i : Nat} {x : EdgeV} (hi : ∀ a, ps[i]? ≠ some (a, true)) (hps : ∀ j y, ps'[j]? = some (y, true) ↔ (j = i ∧ y = x) ∨ ps[j]? = some (y, true)) :
    (p x = true → numsOf p ps' = (numsOf p ps).take (cnt ltN (numsOf p ps) ((i : Int) + 1)) ++ [(i : Int) + 1] ++ (numsOf p ps).drop (cnt ltN (numsOf p ps) ((i : Int) + 1)) ∧ ((i : Int) + 1) ∉ numsOf p ps) ∧ (p x = false → numsOf p ps' = numsOf p ps) := by
  have hno : ((i : Int) + 1) ∉ numsOf p ps := fun h => by
    obtain ⟨j, y, h1, -, h3⟩ := mem_numsOf.1 h; obtain rfl : j = i := by omega
    exact hi y h1
  refine ⟨fun hp => ⟨?_, hno⟩, fun hp => ?_⟩
  · obtain ⟨h1, h2⟩ := put_one (rising_numsOf p ps) hno; refine rising_ext linN (rising_numsOf p ps') h1 (fun k => ?_)
    rw [h2, mem_numsOf, mem_numsOf]; constructor
    · rintro ⟨j, y, g1, g2, g3⟩
      rcases (hps j y).1 g1 with ⟨rfl, rfl⟩ | g
      · exact .inl g3
      · exact .inr ⟨j, y, g, g2, g3⟩
    · rintro (h | ⟨j, y, g1, g2, g3⟩)
      · exact ⟨i, x, (hps i x).2 (.inl ⟨rfl, rfl⟩), hp, h⟩
      · exact ⟨j, y, (hps j y).2 (.inr g1), g2, g3⟩
  · refine rising_ext linN (rising_numsOf p ps') (rising_numsOf p ps) (fun k => ?_)
    rw [mem_numsOf, mem_numsOf]; constructor
    · rintro ⟨j, y, g1, g2, g3⟩
      rcases (hps j y).1 g1 with ⟨rfl, rfl⟩ | g
      · rw [hp] at g2; cases g2
      · exact ⟨j, y, g, g2, g3⟩
    · rintro ⟨j, y, g1, g2, g3⟩
      exact ⟨j, y, (hps j y).2 (.inr g1), g2, g3⟩
theorem nums_cut {p : EdgeV → Bool} {ps ps' : List (EdgeV × Bool)} {i : Nat} {x : EdgeV} (hi : ps[i]? = some (x, true)) (hps : ∀ j y, ps'[j]? = some (y, true) ↔ j ≠ i ∧ ps[j]? = some (y, true)) :
    (p x = true → numsOf p ps' = (numsOf p ps).take (cnt ltN (numsOf p ps) ((i : Int) + 1)) ++ (numsOf p ps).drop (cnt ltN (numsOf p ps) ((i : Int) + 1) + 1) ∧ ((i : Int) + 1) ∈ numsOf p ps) ∧ (p x = false → numsOf p ps' = numsOf p ps) := by
  refine ⟨fun hp => ?_, fun hp => ?_⟩
  · have hin : ((i : Int) + 1) ∈ numsOf p ps := mem_numsOf.2 ⟨i, x, hi, hp, rfl⟩; refine ⟨?_, hin⟩; obtain ⟨h1, h2, -, -⟩ := cut_one linN (rising_numsOf p ps) hin; refine rising_ext linN (rising_numsOf p ps') h1 (fun k => ?_)
    rw [h2, mem_numsOf, mem_numsOf]; constructor
    · rintro ⟨j, y, g1, g2, g3⟩
      obtain ⟨g4, g5⟩ := (hps j y).1 g1; exact ⟨⟨j, y, g5, g2, g3⟩, fun e => g4 (by omega)⟩
    · rintro ⟨⟨j, y, g1, g2, g3⟩, hne⟩
      exact ⟨j, y, (hps j y).2 ⟨fun e => hne (by rw [g3, e]), g1⟩, g2, g3⟩
  · refine rising_ext linN (rising_numsOf p ps') (rising_numsOf p ps) (fun k => ?_)
    rw [mem_numsOf, mem_numsOf]; constructor
    · rintro ⟨j, y, g1, g2, g3⟩
      exact ⟨j, y, ((hps j y).1 g1).2, g2, g3⟩
    · rintro ⟨j, y, g1, g2, g3⟩
      refine ⟨j, y, (hps j y).2 ⟨fun e => ?_, g1⟩, g2, g3⟩
      subst e; rw [hi] at g1
      cases g1
      rw [hp] at g2; cases g2
end

section
open Go.RowKit Go.Maps
structure TAtE [Inhabited EntI] (w : World) (t hp : Nat) (v : Value) (most : Int) (ps : List (EdgeV × Bool)) (ms : List EntI) (n : Nat) (G : Nat → Prop) : Prop where
  box : w.heap[t]? = some (.cells #[.int .i64 most, v, .pointer (some ⟨hp, 0, none⟩)] 166 (0, 0))
  row : w.ownsRow 0 172 5 v ps.length (encE ps)
  on : OnI w hp G ms n
  fr : Frees ps ms
  nt : ¬ G t
  nv : v.ownBlock ≠ some t
  ng : ∀ b, v.ownBlock = some b → ¬ G b
  len : (ps.length : Int) ≤ most
  top : most ≤ 65536
theorem TAtE.cells [Inhabited EntI] {w : World} {t hp : Nat} {v : Value} {most : Int} {ps : List (EdgeV × Bool)} {ms : List EntI} {n : Nat} {G : Nat → Prop} (h : TAtE w t hp v most ps ms n G) :
    w.cell? ⟨t, 0, none⟩ = some (.int .i64 most) ∧ w.cell? ⟨t, 1, none⟩ = some v ∧ w.cell? ⟨t, 2, none⟩ = some (.pointer (some ⟨hp, 0, none⟩)) ∧ ∀ o, w.frozen? ⟨t, o, none⟩ = false := by
  refine ⟨?_, ?_, ?_, fun o => frozen_of_row w t o _ _ h.box⟩ <;> rw [cell_of_row w t _ _ _ _ h.box] <;> rfl
theorem TAtE.lt [Inhabited EntI] {w : World} {t hp : Nat} {v : Value} {most : Int} {ps : List (EdgeV × Bool)} {ms : List EntI} {n : Nat} {G : Nat → Prop} (h : TAtE w t hp v most ps ms n G) {k : Nat} (hk : Feet t v G k) : k < w.heap.size := by
  rcases hk with rfl | hk | hk
  · exact (Array.getElem?_eq_some_iff.1 h.box).1
  · exact (h.row.lt k hk).2
  · exact h.on.lt hk
theorem TAtE.kept [Inhabited EntI] {w w' : World} {t hp : Nat} {v : Value} {most : Int} {ps : List (EdgeV × Bool)} {ms : List EntI} {n : Nat} {G : Nat → Prop} (h : TAtE w t hp v most ps ms n G) (hk : ∀ k, Feet t v G k → w'.heap[k]? = w.heap[k]?) : TAtE w' t hp v most ps ms n G :=
  ⟨(hk t (.inl rfl)).trans h.box, row_kept5 h.row (fun k e => hk k (.inr (.inl e))), h.on.kept (fun k e => hk k (.inr (.inr e))), h.fr, h.nt, h.nv, h.ng, h.len, h.top⟩
theorem TAtE.some_ [Inhabited EntI] {w : World} {t hp : Nat} {v : Value} {most : Int} {ps : List (EdgeV × Bool)} {ms : List EntI} {n : Nat} {G : Nat → Prop} (h : TAtE w t hp v most ps ms n G) (h0 : 0 < ps.length) :
    ∃ b c, v = .slice (some ⟨b, 0, none⟩) ps.length c ∧ b ≠ t ∧ (∀ o, w.frozen? ⟨b, o, none⟩ = false) ∧ ∀ i a x, ps[i]? = some (a, x) → (w.cell? ⟨b, i * 5, none⟩ = some (.int .i64 a.1) ∧ w.cell? ⟨b, i * 5 + 1, none⟩ = some (.int .i64 a.2.1) ∧ w.cell? ⟨b, i * 5 + 2, none⟩ = some (.int .i64 a.2.2.1) ∧ w.cell? ⟨b, i * 5 + 3, none⟩ = some (.int .u32 a.2.2.2)) ∧ w.cell? ⟨b, i * 5 + 4, none⟩ = some (.bool x) := by
  have hr := h.row; have h1 := h.nv; rcases h.row.2 with ⟨-, h3⟩ | ⟨g, cap, cur, rfl, -, hg, hc, hm, -⟩
  · omega
  · have add : ∀ j, (⟨g, 0, none⟩ : Addr).add j = ⟨g, j, none⟩ := fun j => by unfold Addr.add; split <;> simp_all
    refine ⟨g, cap, rfl, fun e => h1 (by simp [Value.ownBlock, e]), fun o => frozen_of_row w g o _ _ hg, fun i a x hi => ?_⟩
    have hcl := hr.cells (g := g) rfl; obtain ⟨e1, e2, e3, e4, e5⟩ := encE_at ps i a x hi; have f1 := hcl _ _ e1; have f2 := hcl _ _ e2; have f3 := hcl _ _ e3; have f4 := hcl _ _ e4; have f5 := hcl _ _ e5; rw [add] at f1 f2 f3 f4 f5; exact ⟨⟨f1, f2, f3, f4⟩, f5⟩
theorem TAtE.shape [Inhabited EntI] {w : World} {t hp : Nat} {v : Value} {most : Int} {ps : List (EdgeV × Bool)} {ms : List EntI} {n : Nat} {G : Nat → Prop} (h : TAtE w t hp v most ps ms n G) : ∃ a c, v = .slice a ps.length c := by
  rcases h.row.2 with ⟨rfl, h3⟩ | ⟨g, cap, cur, rfl, -⟩
  · exact ⟨none, 0, by rw [h3]⟩
  · exact ⟨_, _, rfl⟩
set_option maxHeartbeats 1000000 in
set_option maxRecDepth 100000 in
theorem takenOutE [Inhabited EntI] {t hp : Nat} {v : Value} {most : Int} {ps : List (EdgeV × Bool)} {ms : List EntI} {n : Nat} {G : Nat → Prop} (k : Int) (w : World) (h : TAtE w t hp v most ps ms n G) (hk : k < 1 ∨ (ps.length : Int) < k) :
    Calls Tryz.prog 118 #[.pointer (some ⟨t, 0, none⟩), .int .i64 k] w fun e w' => e = .returned (.bool false) ∧ w' = w := by
  obtain ⟨-, c1, -, -⟩ := h.cells; obtain ⟨a, c, rfl⟩ := h.shape; generalize ps.length = L at *; clear h
  by_cases h1 : k < 1
  · have h2 : ¬ 1 ≤ k := by omega
    clear hk
    go_enter Tryz.func118, Tryz.ntmps118
    go_wp2_with fail
    go_ret
    exact ⟨rfl, rfl⟩
  · have h2 : 1 ≤ k := by omega
    have h3 : ¬ k ≤ (L : Int) := by omega
    clear hk h1
    go_enter Tryz.func118, Tryz.ntmps118
    go_wp2_with fail
    go_ret
    exact ⟨rfl, rfl⟩
set_option maxHeartbeats 1000000 in
set_option maxRecDepth 100000 in
theorem takenAtE [Inhabited EntI] {t hp : Nat} {v : Value} {most : Int} {ps : List (EdgeV × Bool)} {ms : List EntI} {n : Nat} {G : Nat → Prop} {a : EdgeV} {b : Bool} (i : Nat) (w : World) (h : TAtE w t hp v most ps ms n G) (hi : ps[i]? = some (a, b)) :
    Calls Tryz.prog 118 #[.pointer (some ⟨t, 0, none⟩), .int .i64 ((i : Int) + 1)] w fun e w' => e = .returned (.bool b) ∧ w' = w := by
  obtain ⟨-, c1, -, -⟩ := h.cells; have hil := lt_of_at hi; obtain ⟨g, c, rfl, -, -, hc⟩ := h.some_ (by omega)
  have d2 := (hc i a b hi).2; have hl := h.len; have ht := h.top; generalize ps.length = L at *; have h1 : (1 : Int) ≤ (i : Int) + 1 := by omega
  have h2 : (i : Int) + 1 ≤ (L : Int) := by omega
  have h3 : (i : Int) < (L : Int) := by omega
  have h4 : (L : Int) ≤ 65536 := by omega
  clear h hc hi hl ht hil
  go_enter Tryz.func118, Tryz.ntmps118
  go_wp2_with fail
  go_ret
  exact ⟨rfl, rfl⟩
end

section
open Go.RowKit Go.Maps
theorem infoPE : (Tryz.prog.info? 172).map (fun i => (i.zero, i.size, i.bytes)) = some (some (.agg #[.int .i64 0, .int .i64 0, .int .i64 0, .int .u32 0, .bool false]), 5, 40) := by kernel_rfl
theorem growMemE [Inhabited EntI] {w : World} {t hp : Nat} {v : Value} {most : Int} {ps : List (EdgeV × Bool)} {ms : List EntI} {n : Nat} {G : Nat → Prop} (h : TAtE w t hp v most ps ms n G) (hlt : (ps.length : Int) < most) :
    ∃ g c w', (Builtin.append_ #[164, 164] 164 #[v, .slice (some ⟨w.heap.size, 0, none⟩) 1 1]).run Tryz.prog (w.alloc (.cells #[.int .i64 0, .int .i64 0, .int .i64 0, .int .u32 0, .bool false] 172)) = .ok (.slice (some ⟨g, 0, none⟩) (ps.length + 1) c) w' ∧
      w'.cell? ⟨t, 2, none⟩ = some (.pointer (some ⟨hp, 0, none⟩)) ∧ (∃ u, w'.cell? ⟨t, 1, none⟩ = some u) ∧ (∀ o, w'.frozen? ⟨t, o, none⟩ = false) ∧
      (w'.setCell ⟨t, 1, none⟩ (.slice (some ⟨g, 0, none⟩) (ps.length + 1) c)).heap[t]? = some (.cells #[.int .i64 most, .slice (some ⟨g, 0, none⟩) (ps.length + 1) c, .pointer (some ⟨hp, 0, none⟩)] 166 (0, 0)) ∧
      (w'.setCell ⟨t, 1, none⟩ (.slice (some ⟨g, 0, none⟩) (ps.length + 1) c)).ownsRow 0 172 5 (.slice (some ⟨g, 0, none⟩) (ps.length + 1) c) (ps.length + 1) (encE (ps ++ [(((0, 0, 0, 0) : EdgeV), false)])) ∧
      OnI (w'.setCell ⟨t, 1, none⟩ (.slice (some ⟨g, 0, none⟩) (ps.length + 1) c)) hp G ms n ∧ g ≠ t ∧ ¬ G g ∧ (v.ownBlock = some g ∨ w.heap.size ≤ g) ∧
      Turned (Feet t v G) w (w'.setCell ⟨t, 1, none⟩ (.slice (some ⟨g, 0, none⟩) (ps.length + 1) c)) := by
  obtain ⟨i0, hi0, hz0, hzs, hzb⟩ := info_parts infoPE; have hl := h.len; have ht := h.top; have htl := h.lt (.inl rfl); have hs1 : (w.alloc (.cells #[.int .i64 0, .int .i64 0, .int .i64 0, .int .u32 0, .bool false] 172)).heap.size = w.heap.size + 1 := by simp
  have hrowA : (w.alloc (.cells #[.int .i64 0, .int .i64 0, .int .i64 0, .int .u32 0, .bool false] 172)).ownsRow 0 172 5 v ps.length (encE ps) := row_kept5 h.row (fun j hj => ((Below.refl w.heap.size w).alloc (Nat.le_refl _) _).block j (h.row.lt j hj).2)
  obtain ⟨v', w', hr, hown', hgr, -, hloc⟩ := run_append_own_at (P := Tryz.prog) (w.alloc (.cells #[.int .i64 0, .int .i64 0, .int .i64 0, .int .u32 0, .bool false] 172)) 0 164 164 172 i0 _ 5 40 Tryz.underlying164 hi0 hz0 hzs hzb rfl (by omega) v ps.length (encE ps) hrowA ⟨w.heap.size, 0, none⟩ 1 1 [.int .i64 0, .int .i64 0, .int .i64 0, .int .u32 0, .bool false] rfl
    (fun j u hj => by
      have add : (⟨w.heap.size, 0, none⟩ : Addr).add j = ⟨w.heap.size, j, none⟩ := by unfold Addr.add; split <;> simp_all
      have h1 : j < 5 := by
        have := (List.getElem?_eq_some_iff.1 hj).1; simpa using this
      rw [add, World.cell?_alloc_at _ _ _ _ (by simp)]
      match j, h1 with
      | 0, _ => simpa using hj
      | 1, _ => simpa using hj
      | 2, _ => simpa using hj
      | 3, _ => simpa using hj
      | 4, _ => simpa using hj) (by intro u hu; simp at hu; rcases hu with rfl | rfl | rfl <;> rfl) (by unfold maxLen; omega) (by omega) (Nat.zero_le _)
  have hloc' : ∀ b, v'.ownBlock = some b → v.ownBlock = some b ∨ w.heap.size + 1 ≤ b := fun b hb => by
    rcases hloc with e | e
    · exact .inl (e ▸ hb)
    · rw [hb, hs1] at e; exact .inr (by have := Option.some.inj e; omega)
  have hw1 : ∀ j, j < w.heap.size → v.ownBlock ≠ some j → w'.heap[j]? = w.heap[j]? := fun j hj hne => by
    rw [hgr.block j (by rw [hs1]; omega) (fun e => hne e.symm)]
    exact ((Below.refl w.heap.size w).alloc (Nat.le_refl _) _).block j hj
  have hws : w.heap.size + 1 ≤ w'.heap.size := by have := hgr.size; omega
  have box1 : w'.heap[t]? = some (.cells #[.int .i64 most, v, .pointer (some ⟨hp, 0, none⟩)] 166 (0, 0)) := (hw1 t htl h.nv).trans h.box; obtain ⟨g, c, rfl⟩ : ∃ g c, v' = .slice (some ⟨g, 0, none⟩) (ps.length + 1) c := by
    rcases hown'.2 with ⟨-, h3⟩ | ⟨g, cap, cur, rfl, -⟩
    · omega
    · exact ⟨g, cap, rfl⟩
  have hgo := hloc' g rfl; have hgt : g ≠ t := fun e => by
    subst e; rcases hgo with e | e
    · exact h.nv e
    · omega
  have hgG : ¬ G g := fun e => by
    rcases hgo with e2 | e2
    · exact h.ng g e2 e
    · have := h.on.lt e; omega
  refine ⟨g, c, w', hr, ?_, ⟨v, ?_⟩, fun o => frozen_of_row w' t o _ _ box1, ?_, ?_, ?_, hgt, hgG, hgo.imp id (fun e => by omega), ?_⟩
  · rw [cell_of_row w' t _ _ _ _ box1]; rfl
  · rw [cell_of_row w' t _ _ _ _ box1]; rfl
  · rw [heap_setCell_same _ _ _ _ _ _ box1]; rfl
  · have henc : encE (ps ++ [(((0, 0, 0, 0) : EdgeV), false)]) = encE ps ++ [.int .i64 0, .int .i64 0, .int .i64 0, .int .u32 0, .bool false] := by rw [encE_append]; rfl
    rw [henc]; refine row_kept5 hown' (fun b hb => ?_)
    have hbg : g = b := by simpa [Value.ownBlock] using hb
    rw [heap_setCell_other _ _ _ _ (by rw [← hbg]; exact hgt)]
  · refine h.on.kept (fun k hk => ?_)
    have hne : k ≠ t := fun e => h.nt (by rw [← e]; exact hk)
    rw [heap_setCell_other _ _ _ _ hne]; exact hw1 k (h.on.lt hk) (fun e => h.ng k e hk)
  · refine ⟨hgr.os, hgr.tape, hgr.output, ?_, fun j hj hf => ?_⟩
    · have : (w'.setCell ⟨t, 1, none⟩ (.slice (some ⟨g, 0, none⟩) (ps.length + 1) c)).heap.size = w'.heap.size := by simp
      omega
    · rw [heap_setCell_other _ _ _ _ (fun e => hf (.inl e))]
      exact hw1 j hj (fun e => hf (.inr (.inl e)))
theorem grownE [Inhabited EntI] {w w2 w3 : World} {t hp g c : Nat} {v : Value} {most : Int} {ps : List (EdgeV × Bool)} {ms : List EntI} {n : Nat} {G G' : Nat → Prop} (h : TAtE w t hp v most ps ms n G) (hlt : (ps.length : Int) < most)
    (box : w2.heap[t]? = some (.cells #[.int .i64 most, .slice (some ⟨g, 0, none⟩) (ps.length + 1) c, .pointer (some ⟨hp, 0, none⟩)] 166 (0, 0))) (row : w2.ownsRow 0 172 5 (.slice (some ⟨g, 0, none⟩) (ps.length + 1) c) (ps.length + 1) (encE (ps ++ [(((0, 0, 0, 0) : EdgeV), false)])))
    (hgt : g ≠ t) (hgG : ¬ G g) (hgo : v.ownBlock = some g ∨ w.heap.size ≤ g) (ht : Turned (Feet t v G) w w2)
    (on : OnI w3 hp G' (ms ++ [⟨(ps.length : Int) + 1, (ps.length : Int) + 1, n⟩]) (n + 1)) (h3 : Turned G w2 w3) (hG : ∀ j, G' j → G j ∨ w2.heap.size ≤ j) :
    TAtE w3 t hp (.slice (some ⟨g, 0, none⟩) (ps.length + 1) c) most (ps ++ [(((0, 0, 0, 0) : EdgeV), false)]) (ms ++ [⟨(ps.length : Int) + 1, (ps.length : Int) + 1, n⟩]) (n + 1) G' ∧ Turned (Feet t v G) w w3 ∧ ∀ j, Feet t (.slice (some ⟨g, 0, none⟩) (ps.length + 1) c) G' j → Feet t v G j ∨ w.heap.size ≤ j := by
  have htl := (Array.getElem?_eq_some_iff.1 box).1; have hgl := (row.lt g rfl).2; have hs := ht.size; have hlen : (ps ++ [(((0, 0, 0, 0) : EdgeV), false)]).length = ps.length + 1 := by simp
  have ntG : ¬ G' t := fun e => by
    rcases hG t e with e | e
    · exact h.nt e
    · omega
  have ngG : ¬ G' g := fun e => by
    rcases hG g e with e | e
    · exact hgG e
    · omega
  refine ⟨⟨(h3.block t htl h.nt).trans box, ?_, on, frees_grow h.fr _ _, ntG, fun e => hgt (by simpa [Value.ownBlock] using e), fun b hb => ?_, ?_, h.top⟩, ?_, fun j hj => ?_⟩
  · rw [hlen]; refine row_kept5 row (fun b hb => ?_)
    have hbg : g = b := by simpa [Value.ownBlock] using hb
    subst hbg; exact h3.block g hgl hgG
  · have hbg : g = b := by simpa [Value.ownBlock] using hb
    subst hbg; exact ngG
  · rw [hlen]; push_cast; omega
  · exact ht.then_ h3 (fun i _ hg => .inr (.inr hg))
  · rcases hj with rfl | hj | hj
    · exact .inl (.inl rfl)
    · have hbg : g = j := by simpa [Value.ownBlock] using hj
      subst hbg; exact hgo.imp (fun e => .inr (.inl e)) id
    · rcases hG j hj with e | e
      · exact .inl (.inr (.inr e))
      · exact .inr (Nat.le_trans hs e)
end

end Go.Proofs.YtagibmgbjhemkaaGreat
