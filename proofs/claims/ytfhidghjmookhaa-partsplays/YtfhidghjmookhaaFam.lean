/- Families of parts, as mathematics: rising lists, no thing in two of them. -/
import Derived.Test.YtfhidghjmookhaaBase
namespace Go.Proofs.Ytfhidghjmookhaa

/-- An order of one line. -/
structure Lin {K : Type} (lt : K → K → Bool) : Prop where
  irr : ∀ a, lt a a = false
  trans : ∀ a b c, lt a b = true → lt b c = true → lt a c = true
  tot : ∀ a b, a ≠ b → lt a b = true ∨ lt b a = true

def Rising {K : Type} (lt : K → K → Bool) (l : List K) : Prop := l.Pairwise (fun a b => lt a b = true)

/-- A part: the block of its box, its slice, its things. -/
structure Part (K : Type) where
  q : Nat
  v : Value
  ks : List K

section
variable {K : Type} {lt : K → K → Bool}

theorem Rising.nodup (hl : Lin lt) {l : List K} (h : Rising lt l) : l.Nodup := by
  refine List.Pairwise.imp (fun {a b} hab e => ?_) h
  subst e
  rw [hl.irr] at hab
  cases hab

/-- Two rising lists with the same things are one. -/
theorem rising_ext (hl : Lin lt) : ∀ {l l' : List K}, Rising lt l → Rising lt l' → (∀ k, k ∈ l ↔ k ∈ l') → l = l'
  | [], [], _, _, _ => rfl
  | [], b :: l', _, _, h => by have := (h b).2 (List.mem_cons_self ..); cases this
  | a :: l, [], _, _, h => by have := (h a).1 (List.mem_cons_self ..); cases this
  | a :: l, b :: l', h1, h2, h => by
    have p1 := List.pairwise_cons.1 h1
    have p2 := List.pairwise_cons.1 h2
    have hab : a = b := by
      rcases List.mem_cons.1 ((h a).1 (List.mem_cons_self ..)) with e | e
      · exact e
      · rcases List.mem_cons.1 ((h b).2 (List.mem_cons_self ..)) with e' | e'
        · exact e'.symm
        · have q1 := p2.1 a e
          have q2 := p1.1 b e'
          have := hl.trans _ _ _ q1 q2
          rw [hl.irr] at this
          cases this
    subst hab
    rw [rising_ext hl p1.2 p2.2 (fun k => ?_)]
    constructor
    · intro hk
      rcases List.mem_cons.1 ((h k).1 (List.mem_cons_of_mem _ hk)) with e | e
      · subst e
        have := p1.1 k hk
        rw [hl.irr] at this
        cases this
      · exact e
    · intro hk
      rcases List.mem_cons.1 ((h k).2 (List.mem_cons_of_mem _ hk)) with e | e
      · subst e
        have := p2.1 k hk
        rw [hl.irr] at this
        cases this
      · exact e

/-- How many are before x. -/
def cnt (lt : K → K → Bool) (l : List K) (x : K) : Nat := l.countP (fun y => lt y x)

theorem cnt_cons (a : K) (l : List K) (x : K) : cnt lt (a :: l) x = if lt a x then cnt lt l x + 1 else cnt lt l x := by
  unfold cnt; rw [List.countP_cons]; split <;> rfl

theorem cnt_le (l : List K) (x : K) : cnt lt l x ≤ l.length := List.countP_le_length

/-- In a rising list those before x stand first. -/
theorem cnt_parts (hl : Lin lt) : ∀ {l : List K} (x : K), Rising lt l → (∀ y ∈ l.take (cnt lt l x), lt y x = true) ∧ ∀ y ∈ l.drop (cnt lt l x), lt y x = false
  | [], x, _ => by simp [cnt]
  | a :: l, x, h => by
    have p := List.pairwise_cons.1 h
    have ih := cnt_parts hl x p.2
    rw [cnt_cons]
    by_cases e : lt a x = true
    · rw [if_pos e, List.take_succ_cons, List.drop_succ_cons]
      refine ⟨fun y hy => ?_, ih.2⟩
      rcases List.mem_cons.1 hy with rfl | hy
      · exact e
      · exact ih.1 y hy
    · have hno : ∀ y ∈ a :: l, lt y x = false := fun y hy => by
        cases hyx : lt y x with
        | false => rfl
        | true =>
          rcases List.mem_cons.1 hy with rfl | hy
          · exact absurd hyx e
          · exact absurd (hl.trans _ _ _ (p.1 y hy) hyx) e
      have hc : cnt lt l x = 0 := List.countP_eq_zero.2 (fun y hy => by rw [hno y (List.mem_cons_of_mem _ hy)]; simp)
      rw [if_neg e, hc]
      exact ⟨fun y hy => by simp at hy, fun y hy => hno y (by simpa using hy)⟩

/-- x stands where those before it end. -/
theorem cnt_at (hl : Lin lt) {l : List K} {x : K} (h : Rising lt l) (hx : x ∈ l) : l.drop (cnt lt l x) = x :: l.drop (cnt lt l x + 1) := by
  obtain ⟨h1, h2⟩ := cnt_parts hl x h
  have hxd : x ∈ l.drop (cnt lt l x) := by
    rw [← List.take_append_drop (cnt lt l x) l] at hx
    rcases List.mem_append.1 hx with e | e
    · have := h1 x e
      rw [hl.irr] at this
      cases this
    · exact e
  have hr : Rising lt (l.drop (cnt lt l x)) := h.sublist (List.drop_sublist _ _)
  cases hd : l.drop (cnt lt l x) with
  | nil => rw [hd] at hxd; cases hxd
  | cons a r =>
    have har : r = l.drop (cnt lt l x + 1) := by rw [← List.drop_drop, hd]; rfl
    rw [hd] at hxd hr h2
    rcases List.mem_cons.1 hxd with e | e
    · rw [← har, e]
    · have p := (List.pairwise_cons.1 hr).1 x e
      rw [h2 a (List.mem_cons_self ..)] at p
      cases p

/-- A rising list with one thing out. -/
theorem cut_one (hl : Lin lt) {l : List K} {x : K} (h : Rising lt l) (hx : x ∈ l) :
    Rising lt (l.take (cnt lt l x) ++ l.drop (cnt lt l x + 1)) ∧ (∀ k, k ∈ l.take (cnt lt l x) ++ l.drop (cnt lt l x + 1) ↔ k ∈ l ∧ k ≠ x) ∧ (l.take (cnt lt l x) ++ l.drop (cnt lt l x + 1)).length + 1 = l.length ∧ cnt lt l x < l.length := by
  have hd := cnt_at hl h hx
  have e : l = l.take (cnt lt l x) ++ x :: l.drop (cnt lt l x + 1) := by rw [← hd, List.take_append_drop]
  have hn := h.nodup hl
  have hlen : (l.take (cnt lt l x) ++ l.drop (cnt lt l x + 1)).length + 1 = l.length := by
    have := congrArg List.length e
    simp only [List.length_append, List.length_cons] at this ⊢
    omega
  generalize hA : l.take (cnt lt l x) = A at *
  generalize hB : l.drop (cnt lt l x + 1) = B at *
  have hcl : cnt lt l x < l.length := by
    have h1 := cnt_le (lt := lt) l x
    rcases Nat.lt_or_ge (cnt lt l x) l.length with g | g
    · exact g
    · rw [List.drop_eq_nil_of_le g] at hd; cases hd
  rw [e] at h hn
  obtain ⟨p1, p2, p3⟩ := List.pairwise_append.1 h
  have p4 := List.pairwise_cons.1 p2
  obtain ⟨n1, n2, n3⟩ := List.pairwise_append.1 hn
  have n4 := List.pairwise_cons.1 n2
  refine ⟨List.pairwise_append.2 ⟨p1, p4.2, fun a ha b hb => p3 a ha b (List.mem_cons_of_mem _ hb)⟩, fun k => ?_, hlen, hcl⟩
  rw [e, List.mem_append, List.mem_append, List.mem_cons]
  constructor
  · rintro (hk | hk)
    · exact ⟨.inl hk, n3 k hk x (List.mem_cons_self ..)⟩
    · exact ⟨.inr (.inr hk), fun e => n4.1 k hk e.symm⟩
  · rintro ⟨hk | hk | hk, hne⟩
    · exact .inl hk
    · exact absurd hk hne
    · exact .inr hk

/-! ### families -/

structure Fam (lt : K → K → Bool) (ok : K → Prop) (S : List (Part K)) : Prop where
  rise : ∀ x ∈ S, Rising lt x.ks
  some_ : ∀ x ∈ S, x.ks ≠ []
  keys : ∀ x ∈ S, ∀ k ∈ x.ks, ok k
  apart : S.Pairwise (fun x y => x.q ≠ y.q ∧ (∀ b, x.v.ownBlock = some b → y.v.ownBlock ≠ some b) ∧ ∀ k ∈ x.ks, k ∉ y.ks)

def tot (S : List (Part K)) : Nat := (S.map (fun x => x.ks.length)).sum
theorem tot_append (S T : List (Part K)) : tot (S ++ T) = tot S + tot T := by simp [tot]

/-! ### a part is taken out, parts are laid in -/

def Apart (x y : Part K) : Prop := x.q ≠ y.q ∧ (∀ b, x.v.ownBlock = some b → y.v.ownBlock ≠ some b) ∧ ∀ k ∈ x.ks, k ∉ y.ks

theorem Apart.symm {x y : Part K} (h : Apart x y) : Apart y x := ⟨fun e => h.1 e.symm, fun b hb hb' => h.2.1 b hb' hb, fun k hk hk' => h.2.2 k hk' hk⟩

def without (x : Part K) (S : List (Part K)) : List (Part K) := S.filter (fun z => decide (z.q ≠ x.q))

theorem mem_without {x z : Part K} {S : List (Part K)} : z ∈ without x S ↔ z ∈ S ∧ z.q ≠ x.q := by simp [without]

theorem Fam.without {ok : K → Prop} {S : List (Part K)} (h : Fam lt ok S) (x : Part K) : Fam lt ok (without x S) :=
  ⟨fun z hz => h.rise z (mem_without.1 hz).1, fun z hz => h.some_ z (mem_without.1 hz).1, fun z hz => h.keys z (mem_without.1 hz).1, h.apart.sublist List.filter_sublist⟩

theorem Fam.append {ok : K → Prop} {S T : List (Part K)} (h : Fam lt ok S) (h' : Fam lt ok T) (ha : ∀ x ∈ S, ∀ y ∈ T, Apart x y) : Fam lt ok (S ++ T) :=
  ⟨fun z hz => (List.mem_append.1 hz).elim (h.rise z) (h'.rise z), fun z hz => (List.mem_append.1 hz).elim (h.some_ z) (h'.some_ z), fun z hz => (List.mem_append.1 hz).elim (h.keys z) (h'.keys z), List.pairwise_append.2 ⟨h.apart, h'.apart, ha⟩⟩

theorem fam_one {ok : K → Prop} {x : Part K} (h1 : Rising lt x.ks) (h2 : x.ks ≠ []) (h3 : ∀ k ∈ x.ks, ok k) : Fam lt ok [x] :=
  ⟨fun z hz => by rw [List.mem_singleton.1 hz]; exact h1, fun z hz => by rw [List.mem_singleton.1 hz]; exact h2, fun z hz => by rw [List.mem_singleton.1 hz]; exact h3, List.pairwise_singleton _ _⟩

theorem Fam.of {ok : K → Prop} {S : List (Part K)} (h : Fam lt ok S) {x y : Part K} (hx : x ∈ S) (hy : y ∈ S) : x = y ∨ Apart x y := by
  have hp := h.apart
  clear h
  induction S with
  | nil => cases hx
  | cons z S ih =>
    have p := List.pairwise_cons.1 hp
    rcases List.mem_cons.1 hx with e1 | h1
    · rcases List.mem_cons.1 hy with e2 | h2
      · exact .inl (e1.trans e2.symm)
      · rw [e1]; exact .inr (p.1 y h2)
    · rcases List.mem_cons.1 hy with e2 | h2
      · rw [e2]; exact .inr (Apart.symm (p.1 x h1))
      · exact ih h1 h2 p.2

theorem tot_without {ok : K → Prop} {S : List (Part K)} (h : Fam lt ok S) {x : Part K} (hx : x ∈ S) : tot S = x.ks.length + tot (without x S) := by
  have hp := h.apart
  clear h
  induction S with
  | nil => cases hx
  | cons z S ih =>
    have p := List.pairwise_cons.1 hp
    have e1 : tot (z :: S) = z.ks.length + tot S := by simp [tot]
    rcases List.mem_cons.1 hx with rfl | hx
    · have e2 : without x (x :: S) = S := by
        unfold without
        rw [List.filter_cons, if_neg (by simp)]
        exact List.filter_eq_self.2 (fun y hy => by simpa using fun e => (p.1 y hy).1 e.symm)
      rw [e1, e2]
    · have e2 : without x (z :: S) = z :: without x S := by
        unfold without
        rw [List.filter_cons, if_pos (by simpa using (p.1 x hx).1)]
      have e3 : tot (z :: without x S) = z.ks.length + tot (without x S) := by simp [tot]
      rw [e1, e2, e3, ih hx p.2]
      omega

theorem tot_one (x : Part K) : tot [x] = x.ks.length := by simp [tot]
theorem len_le_tot {S : List (Part K)} {x : Part K} (hx : x ∈ S) : x.ks.length ≤ tot S := by
  induction S with
  | nil => cases hx
  | cons z S ih =>
    have e1 : tot (z :: S) = z.ks.length + tot S := by simp [tot]
    rcases List.mem_cons.1 hx with rfl | hx
    · omega
    · have := ih hx; omega

variable [DecidableEq K]

/-- The part in which k stands: its box. -/
def fOf (S : List (Part K)) (k : K) : Option Nat := (S.find? (fun x => decide (k ∈ x.ks))).map (·.q)

theorem fOf_nil (k : K) : fOf ([] : List (Part K)) k = none := rfl
theorem fOf_cons (x : Part K) (S : List (Part K)) (k : K) : fOf (x :: S) k = if k ∈ x.ks then some x.q else fOf S k := by
  unfold fOf
  rw [List.find?_cons]
  by_cases e : k ∈ x.ks
  · rw [if_pos e, decide_eq_true e]; rfl
  · rw [if_neg e, decide_eq_false e]
theorem fOf_none {S : List (Part K)} {k : K} : fOf S k = none ↔ ∀ x ∈ S, k ∉ x.ks := by
  unfold fOf
  rw [Option.map_eq_none_iff, List.find?_eq_none]
  simp
theorem fOf_append (S T : List (Part K)) (k : K) : fOf (S ++ T) k = (fOf S k).or (fOf T k) := by
  induction S with
  | nil => simp [fOf_nil]
  | cons x S ih =>
    rw [List.cons_append, fOf_cons, fOf_cons, ih]
    split <;> simp
theorem fOf_some {ok : K → Prop} {S : List (Part K)} (h : Fam lt ok S) {x : Part K} (hx : x ∈ S) {k : K} (hk : k ∈ x.ks) : fOf S k = some x.q := by
  have hp := h.apart
  clear h
  induction S with
  | nil => cases hx
  | cons y S ih =>
    rw [fOf_cons]
    have p := List.pairwise_cons.1 hp
    rcases List.mem_cons.1 hx with rfl | hx
    · rw [if_pos hk]
    · rw [if_neg (fun e => (p.1 x hx).2.2 k e hk)]
      exact ih hx p.2
theorem fOf_mem {S : List (Part K)} {k : K} {q : Nat} (h : fOf S k = some q) : ∃ x ∈ S, k ∈ x.ks ∧ x.q = q := by
  unfold fOf at h
  rw [Option.map_eq_some_iff] at h
  obtain ⟨x, hx, rfl⟩ := h
  exact ⟨x, List.mem_of_find?_eq_some hx, by simpa using List.find?_some hx, rfl⟩

theorem fOf_without {ok : K → Prop} {S : List (Part K)} (h : Fam lt ok S) {x : Part K} (hx : x ∈ S) (k : K) : fOf (without x S) k = if k ∈ x.ks then none else fOf S k := by
  by_cases e : k ∈ x.ks
  · rw [if_pos e, fOf_none]
    intro z hz hk
    obtain ⟨h1, h2⟩ := mem_without.1 hz
    rcases h.of hx h1 with rfl | ha
    · exact h2 rfl
    · exact ha.2.2 k e hk
  · rw [if_neg e]
    cases hf : fOf S k with
    | none =>
      rw [fOf_none] at hf ⊢
      exact fun z hz => hf z (mem_without.1 hz).1
    | some q =>
      obtain ⟨y, hy, hk, rfl⟩ := fOf_mem hf
      refine fOf_some (h.without x) (mem_without.2 ⟨hy, fun e2 => ?_⟩) hk
      rcases h.of hx hy with rfl | ha
      · exact e hk
      · exact ha.1 e2.symm
theorem fOf_one (x : Part K) (k : K) : fOf [x] k = if k ∈ x.ks then some x.q else none := by rw [fOf_cons, fOf_nil]
end
end Go.Proofs.Ytfhidghjmookhaa
