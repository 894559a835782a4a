/- Drop and New over a table of edges. -/
import Derived.Test.YtgocbcacfcfblaaGreatLaws2
import Derived.Test.YtgocbcacfcfblaaGreatMoreI
import Derived.Lib.AppendZeros
import Derived.Laws.ResultCell
import Derived.Deep.MidRow
import Derived.Deep.CutRange
namespace Go.Proofs.YtgocbcacfcfblaaGreat

section
/-- How many places hold something. -/
def tk {α : Type} (ps : List (α × Bool)) : Nat := ps.countP (fun p => p.2)

theorem tk_set {α : Type} : ∀ (ps : List (α × Bool)) (i : Nat) (a x : α) (b c : Bool), ps[i]? = some (a, b) → tk (ps.set i (x, c)) + b.toNat = tk ps + c.toNat
  | [], i, a, x, b, c, h => by simp at h
  | p :: ps, 0, a, x, b, c, h => by
    simp at h; subst h
    simp only [List.set_cons_zero, tk, List.countP_cons]
    cases b <;> cases c <;> simp
  | p :: ps, i + 1, a, x, b, c, h => by
    have := tk_set ps i a x b c (by simpa using h)
    simp only [List.set_cons_succ, tk, List.countP_cons] at this ⊢
    omega
theorem tk_snoc {α : Type} (ps : List (α × Bool)) (x : α) : tk (ps ++ [(x, false)]) = tk ps := by simp [tk]

structure Frees {α : Type} (ps : List (α × Bool)) (ms : List (Ent Int Int)) : Prop where
  rank : ∀ x ∈ ms, x.rank = x.key
  key : ∀ x ∈ ms, ∃ (i : Nat) (a : α), x.key = (i : Int) + 1 ∧ ps[i]? = some (a, false)
  all : ∀ (i : Nat) (a : α), ps[i]? = some (a, false) → ∃ x ∈ ms, x.key = (i : Int) + 1
  cnt : ms.length + tk ps = ps.length

theorem frees_nil {α : Type} : Frees ([] : List (α × Bool)) [] := ⟨by simp, by simp, by simp, rfl⟩

theorem lt_of_at {α : Type} {l : List α} {i : Nat} {x : α} (h : l[i]? = some x) : i < l.length := (List.getElem?_eq_some_iff.1 h).1
theorem at_of_lt {α : Type} {ps : List (α × Bool)} {i : Nat} (h : i < ps.length) : ∃ a b, ps[i]? = some (a, b) := ⟨ps[i].1, ps[i].2, by rw [List.getElem?_eq_getElem h]⟩

theorem frees_grow {α : Type} {ps : List (α × Bool)} {ms : List (Ent Int Int)} (h : Frees ps ms) (x : α) (n : Nat) : Frees (ps ++ [(x, false)]) (ms ++ [⟨(ps.length : Int) + 1, (ps.length : Int) + 1, n⟩]) := by
  refine ⟨fun y hy => ?_, fun y hy => ?_, fun i a hi => ?_, ?_⟩
  · rcases List.mem_append.1 hy with hy | hy
    · exact h.rank y hy
    · simp at hy; subst hy; rfl
  · rcases List.mem_append.1 hy with hy | hy
    · obtain ⟨i, a, e, g⟩ := h.key y hy
      exact ⟨i, a, e, by rw [List.getElem?_append_left (lt_of_at g)]; exact g⟩
    · simp at hy; subst hy
      exact ⟨ps.length, x, rfl, by simp⟩
  · rcases Nat.lt_or_ge i ps.length with hl | hl
    · rw [List.getElem?_append_left hl] at hi
      obtain ⟨y, hy, e⟩ := h.all i a hi
      exact ⟨y, List.mem_append_left _ hy, e⟩
    · have h2 := lt_of_at hi
      simp at h2
      obtain rfl : i = ps.length := by omega
      exact ⟨_, List.mem_append_right _ (List.mem_singleton.2 rfl), rfl⟩
  · rw [tk_snoc]; have := h.cnt; simp; omega

theorem length_without {α ρ : Type} [DecidableEq α] : ∀ {ms : List (Ent α ρ)} {x : Ent α ρ}, KeysOnce ms → x ∈ ms → (without x.key ms).length + 1 = ms.length
  | [], x, _, h => by simp at h
  | y :: ms, x, hk, h => by
    have hk2 : KeysOnce ms := (List.pairwise_cons.1 hk).2
    have hk1 := (List.pairwise_cons.1 hk).1
    by_cases e : y.key = x.key
    · have hw : without x.key (y :: ms) = ms := by
        unfold without
        rw [List.filter_cons, if_neg (by simp [e]), List.filter_eq_self.2 (fun z hz => by
          have := hk1 z hz
          rw [e] at this
          exact decide_eq_true (Ne.symm this))]
      rw [hw]; rfl
    · have hx : x ∈ ms := by
        rcases List.mem_cons.1 h with rfl | h
        · exact absurd rfl e
        · exact h
      have := length_without hk2 hx
      unfold without at this ⊢
      rw [List.filter_cons, if_pos (by simp [e]), List.length_cons, List.length_cons]
      omega

theorem frees_take {α : Type} {ps : List (α × Bool)} {ms : List (Ent Int Int)} (h : Frees ps ms) (hk : KeysOnce ms) {i : Nat} {a : α} (hi : ps[i]? = some (a, false)) (x : α) : Frees (ps.set i (x, true)) (without ((i : Int) + 1) ms) := by
  refine ⟨fun y hy => h.rank y (mem_without.1 hy).1, fun y hy => ?_, fun j b hj => ?_, ?_⟩
  · obtain ⟨h1, h2⟩ := mem_without.1 hy
    obtain ⟨j, b, e, g⟩ := h.key y h1
    exact ⟨j, b, e, by rw [List.getElem?_set_ne (by omega)]; exact g⟩
  · by_cases hij : i = j
    · subst hij
      rw [List.getElem?_set_self (lt_of_at hi)] at hj
      simp at hj
    · rw [List.getElem?_set_ne hij] at hj
      obtain ⟨y, hy, e⟩ := h.all j b hj
      exact ⟨y, mem_without.2 ⟨hy, by omega⟩, e⟩
  · obtain ⟨y, hy, e⟩ := h.all i a hi
    have h1 := length_without hk hy
    rw [e] at h1
    have h2 := tk_set ps i a x false true hi
    have h3 := h.cnt
    simp at h2 ⊢
    omega

theorem frees_free {α : Type} {ps : List (α × Bool)} {ms : List (Ent Int Int)} (h : Frees ps ms) {i : Nat} {a : α} (hi : ps[i]? = some (a, true)) (x : α) (n : Nat) : Frees (ps.set i (x, false)) (ms ++ [⟨(i : Int) + 1, (i : Int) + 1, n⟩]) := by
  refine ⟨fun y hy => ?_, fun y hy => ?_, fun j b hj => ?_, ?_⟩
  · rcases List.mem_append.1 hy with hy | hy
    · exact h.rank y hy
    · simp at hy; subst hy; rfl
  · rcases List.mem_append.1 hy with hy | hy
    · obtain ⟨j, b, e, g⟩ := h.key y hy
      refine ⟨j, b, e, ?_⟩
      by_cases hij : i = j
      · subst hij; rw [hi] at g; simp at g
      · rw [List.getElem?_set_ne hij]; exact g
    · simp at hy; subst hy
      exact ⟨i, x, rfl, List.getElem?_set_self (lt_of_at hi)⟩
  · by_cases hij : i = j
    · subst hij
      exact ⟨_, List.mem_append_right _ (List.mem_singleton.2 rfl), rfl⟩
    · rw [List.getElem?_set_ne hij] at hj
      obtain ⟨y, hy, e⟩ := h.all j b hj
      exact ⟨y, List.mem_append_left _ hy, e⟩
  · have h2 := tk_set ps i a x true false hi
    have h3 := h.cnt
    simp at h2 ⊢
    omega

theorem frees_set {α : Type} {ps : List (α × Bool)} {ms : List (Ent Int Int)} (h : Frees ps ms) {i : Nat} {a : α} (hi : ps[i]? = some (a, true)) (x : α) : Frees (ps.set i (x, true)) ms := by
  refine ⟨h.rank, fun y hy => ?_, fun j b hj => ?_, ?_⟩
  · obtain ⟨j, b, e, g⟩ := h.key y hy
    refine ⟨j, b, e, ?_⟩
    by_cases hij : i = j
    · subst hij; rw [hi] at g; simp at g
    · rw [List.getElem?_set_ne hij]; exact g
  · by_cases hij : i = j
    · subst hij
      rw [List.getElem?_set_self (lt_of_at hi)] at hj
      simp at hj
    · rw [List.getElem?_set_ne hij] at hj
      exact h.all j b hj
  · have h2 := tk_set ps i a x true true hi
    have h3 := h.cnt
    simp at h2 ⊢
    omega

/-- No place below n is free. -/
def Full {α : Type} (ps : List (α × Bool)) (n : Nat) : Prop := ∀ j, j < n → ∃ b, ps[j]? = some (b, true)

theorem frees_first {α : Type} {ps : List (α × Bool)} {ms : List (Ent Int Int)} (h : Frees ps ms) {x : Ent Int Int} (hx : x ∈ ms) (hle : ∀ y ∈ ms, le (fun x => x) x y) : ∃ (i : Nat) (a : α), x.key = (i : Int) + 1 ∧ ps[i]? = some (a, false) ∧ Full ps i := by
  obtain ⟨i, a, e, g⟩ := h.key x hx
  refine ⟨i, a, e, g, fun j hj => ?_⟩
  obtain ⟨b, c, hb⟩ := at_of_lt (Nat.lt_trans hj (lt_of_at g))
  cases c with
  | true => exact ⟨b, hb⟩
  | false =>
    obtain ⟨y, hy, e2⟩ := h.all j b hb
    have h1 := hle y hy
    have h2 := h.rank x hx
    have h3 := h.rank y hy
    simp only [le] at h1
    omega
theorem frees_none {α : Type} {ps : List (α × Bool)} (h : Frees ps []) : Full ps ps.length := fun j hj => by
  obtain ⟨b, c, hb⟩ := at_of_lt hj
  cases c with
  | true => exact ⟨b, hb⟩
  | false =>
    obtain ⟨y, hy, -⟩ := h.all j b hb
    simp at hy

/-- The number that Put would give. -/
def FreeIs {α : Type} (ps : List (α × Bool)) (most r : Int) : Prop :=
  (∃ (i : Nat) (a : α), r = (i : Int) + 1 ∧ ps[i]? = some (a, false) ∧ Full ps i) ∨ (Full ps ps.length ∧ ((ps.length : Int) = most ∧ r = 0 ∨ (ps.length : Int) ≠ most ∧ r = (ps.length : Int) + 1))

/-- The number that Next gives. -/
def NextIs {α : Type} (ps : List (α × Bool)) (k r : Int) : Prop :=
  (r = 0 ∧ ∀ (j : Nat) b, ps[j]? = some (b, true) → (j : Int) + 1 < k) ∨ ∃ (i : Nat) (a : α), r = (i : Int) + 1 ∧ ps[i]? = some (a, true) ∧ k ≤ (i : Int) + 1 ∧ ∀ (j : Nat) b, j < i → ps[j]? = some (b, true) → (j : Int) + 1 < k
end

section
open Go.RowKit Go.Maps
/-- An edge: its number, where it leaves and enters, its bits. -/
abbrev EdgeV : Type := Int × Int × Int × Int
def encE (ps : List (EdgeV × Bool)) : List Value := ps.flatMap fun p => [.int .i64 p.1.1, .int .i64 p.1.2.1, .int .i64 p.1.2.2.1, .int .u32 p.1.2.2.2, .bool p.2]

theorem encE_length (ps : List (EdgeV × Bool)) : (encE ps).length = ps.length * 5 := by
  induction ps with
  | nil => rfl
  | cons r rs ih => simp [encE] at ih ⊢; omega
theorem encE_append (a b : List (EdgeV × Bool)) : encE (a ++ b) = encE a ++ encE b := by simp [encE]
theorem encE_cons (p : EdgeV × Bool) (b : List (EdgeV × Bool)) : encE (p :: b) = .int .i64 p.1.1 :: .int .i64 p.1.2.1 :: .int .i64 p.1.2.2.1 :: .int .u32 p.1.2.2.2 :: .bool p.2 :: encE b := by simp [encE]
theorem encE_at : ∀ (ps : List (EdgeV × Bool)) (i : Nat) (a : EdgeV) (x : Bool), ps[i]? = some (a, x) → (encE ps)[i * 5]? = some (.int .i64 a.1) ∧ (encE ps)[i * 5 + 1]? = some (.int .i64 a.2.1) ∧ (encE ps)[i * 5 + 2]? = some (.int .i64 a.2.2.1) ∧ (encE ps)[i * 5 + 3]? = some (.int .u32 a.2.2.2) ∧ (encE ps)[i * 5 + 4]? = some (.bool x)
  | [], i, a, x, h => by simp at h
  | p :: ps, 0, a, x, h => by simp at h; subst h; simp [encE]
  | p :: ps, i + 1, a, x, h => by
    have := encE_at ps i a x (by simpa using h)
    rw [show (i + 1) * 5 = i * 5 + 1 + 1 + 1 + 1 + 1 by omega, encE_cons, show i * 5 + 1 + 1 + 1 + 1 + 1 + 1 = i * 5 + 1 + 1 + 1 + 1 + 1 + 1 from rfl]
    refine ⟨?_, ?_, ?_, ?_, ?_⟩
    · simp only [List.getElem?_cons_succ]; exact this.1
    · rw [show i * 5 + 1 + 1 + 1 + 1 + 1 + 1 = (i * 5 + 1) + 1 + 1 + 1 + 1 + 1 by omega]; simp only [List.getElem?_cons_succ]; exact this.2.1
    · rw [show i * 5 + 1 + 1 + 1 + 1 + 1 + 2 = (i * 5 + 2) + 1 + 1 + 1 + 1 + 1 by omega]; simp only [List.getElem?_cons_succ]; exact this.2.2.1
    · rw [show i * 5 + 1 + 1 + 1 + 1 + 1 + 3 = (i * 5 + 3) + 1 + 1 + 1 + 1 + 1 by omega]; simp only [List.getElem?_cons_succ]; exact this.2.2.2.1
    · rw [show i * 5 + 1 + 1 + 1 + 1 + 1 + 4 = (i * 5 + 4) + 1 + 1 + 1 + 1 + 1 by omega]; simp only [List.getElem?_cons_succ]; exact this.2.2.2.2
/-- The five cells of a place, written. -/
def putE (l : List Value) (i : Nat) (a : EdgeV) (x : Bool) : List Value := ((((l.set (i * 5) (.int .i64 a.1)).set (i * 5 + 1) (.int .i64 a.2.1)).set (i * 5 + 2) (.int .i64 a.2.2.1)).set (i * 5 + 3) (.int .u32 a.2.2.2)).set (i * 5 + 4) (.bool x)
theorem encE_set : ∀ (ps : List (EdgeV × Bool)) (i : Nat) (a : EdgeV) (x : Bool), encE (ps.set i (a, x)) = putE (encE ps) i a x
  | [], i, a, x => by simp [encE, putE]
  | p :: ps, 0, a, x => by simp [encE, putE]
  | p :: ps, i + 1, a, x => by
    rw [List.set_cons_succ, encE_cons, encE_set ps i a x, encE_cons, putE, putE, show (i + 1) * 5 = i * 5 + 1 + 1 + 1 + 1 + 1 by omega, show i * 5 + 1 + 1 + 1 + 1 + 1 + 1 = (i * 5 + 1) + 1 + 1 + 1 + 1 + 1 by omega, show i * 5 + 1 + 1 + 1 + 1 + 1 + 2 = (i * 5 + 2) + 1 + 1 + 1 + 1 + 1 by omega, show i * 5 + 1 + 1 + 1 + 1 + 1 + 3 = (i * 5 + 3) + 1 + 1 + 1 + 1 + 1 by omega, show i * 5 + 1 + 1 + 1 + 1 + 1 + 4 = (i * 5 + 4) + 1 + 1 + 1 + 1 + 1 by omega]
    simp only [List.set_cons_succ]
theorem encE_one (ps : List (EdgeV × Bool)) : ∀ u ∈ encE ps, u.oneCell' = true := by
  intro u hu
  simp only [encE, List.mem_flatMap, List.mem_cons, List.not_mem_nil, or_false] at hu
  obtain ⟨r, -, rfl | rfl | rfl | rfl | rfl⟩ := hu <;> rfl

theorem row_kept5 {w w' : World} {e : TypeId} {v : Value} {L : Nat} {xs : List Value} (h : w.ownsRow 0 e 5 v L xs) (hk : ∀ k, v.ownBlock = some k → w'.heap[k]? = w.heap[k]?) : w'.ownsRow 0 e 5 v L xs := by
  refine ⟨h.1, ?_⟩
  rcases h.2 with hn | ⟨g, cap, cur, rfl, hb, hgg, rest⟩
  · exact .inl hn
  · exact .inr ⟨g, cap, cur, rfl, hb, (hk g rfl).trans hgg, rest⟩

/-- A table's blocks. -/
def Feet (t : Nat) (v : Value) (G : Nat → Prop) (k : Nat) : Prop := k = t ∨ v.ownBlock = some k ∨ G k

/-- So many places. -/
def clamp (m : Int) : Int := min (max m 0) 65536

theorem less_of {g : Nat} (hf : ∀ args w, (callFunc g args).run Tryz.prog w = .ok (.enter g args) w) (h : ∀ (x y : Int) (w : World), Calls Tryz.prog g #[.int .i64 x, .int .i64 y] w fun e w' => e = .returned (.bool (decide (x < y))) ∧ w' = w) : Less (.func (.func g) #[] #[]) (fun x => x) :=
  ⟨g, #[], rfl, hf, h⟩

set_option maxHeartbeats 400000 in
theorem less23 : Less (.func (.func 80) #[] #[]) (fun x => x) := by
  refine less_of (enters_of Tryz.func80 (by kernel_rfl) rfl) (fun x y w => ?_)
  go_enter Tryz.func80, Tryz.ntmps80
  go_wp2
  go_ret
  exact ⟨rfl, rfl⟩

/-- How many places the table at t has. -/
def plen (w : World) (t : Nat) : Nat := match w.cell? ⟨t, 1, none⟩ with
  | some (.slice _ n _) => n
  | _ => 0
theorem plen_of {w : World} {t n c : Nat} {a : Option Addr} (h : w.cell? ⟨t, 1, none⟩ = some (.slice a n c)) : plen w t = n := by unfold plen; rw [h]

theorem key_fit (i : Nat) (h : (i : Int) ≤ 65536) : KeyOkI ((i : Int) + 1) := WalkArith.wf_i64 (by omega)
theorem frees_not {α : Type} {ps : List (α × Bool)} {ms : List EntI} (h : Frees ps ms) {i : Nat} (hi : ∀ a, ps[i]? ≠ some (a, false)) : ∀ x ∈ ms, x.key ≠ (i : Int) + 1 := fun x hx e => by
  obtain ⟨j, a, e2, g⟩ := h.key x hx
  obtain rfl : j = i := by omega
  exact hi a g
end

section
/-- An order of one line. -/
structure Lin {K : Type} (lt : K → K → Bool) : Prop where
  irr : ∀ a, lt a a = false
  trans : ∀ a b c, lt a b = true → lt b c = true → lt a c = true
  tot : ∀ a b, a ≠ b → lt a b = true ∨ lt b a = true

def Rising {K : Type} (lt : K → K → Bool) (l : List K) : Prop := l.Pairwise (fun a b => lt a b = true)

section
variable {K : Type} {lt : K → K → Bool}

theorem Rising.nodup (hl : Lin lt) {l : List K} (h : Rising lt l) : l.Nodup := by
  refine List.Pairwise.imp (fun {a b} hab e => ?_) h
  subst e
  rw [hl.irr] at hab
  cases hab

/-- Two rising lists with the same things are one. -/
theorem rising_ext (hl : Lin lt) : ∀ {l l' : List K}, Rising lt l → Rising lt l' → (∀ k, k ∈ l ↔ k ∈ l') → l = l'
  | [], [], _, _, _ => rfl
  | [], b :: l', _, _, h => by have := (h b).2 (List.mem_cons_self ..); cases this
  | a :: l, [], _, _, h => by have := (h a).1 (List.mem_cons_self ..); cases this
  | a :: l, b :: l', h1, h2, h => by
    have p1 := List.pairwise_cons.1 h1
    have p2 := List.pairwise_cons.1 h2
    have hab : a = b := by
      rcases List.mem_cons.1 ((h a).1 (List.mem_cons_self ..)) with e | e
      · exact e
      · rcases List.mem_cons.1 ((h b).2 (List.mem_cons_self ..)) with e' | e'
        · exact e'.symm
        · have q1 := p2.1 a e
          have q2 := p1.1 b e'
          have := hl.trans _ _ _ q1 q2
          rw [hl.irr] at this
          cases this
    subst hab
    rw [rising_ext hl p1.2 p2.2 (fun k => ?_)]
    constructor
    · intro hk
      rcases List.mem_cons.1 ((h k).1 (List.mem_cons_of_mem _ hk)) with e | e
      · subst e
        have := p1.1 k hk
        rw [hl.irr] at this
        cases this
      · exact e
    · intro hk
      rcases List.mem_cons.1 ((h k).2 (List.mem_cons_of_mem _ hk)) with e | e
      · subst e
        have := p2.1 k hk
        rw [hl.irr] at this
        cases this
      · exact e

/-- How many are before x. -/
def cnt (lt : K → K → Bool) (l : List K) (x : K) : Nat := l.countP (fun y => lt y x)

theorem cnt_cons (a : K) (l : List K) (x : K) : cnt lt (a :: l) x = if lt a x then cnt lt l x + 1 else cnt lt l x := by
  unfold cnt; rw [List.countP_cons]; split <;> rfl

theorem cnt_le (l : List K) (x : K) : cnt lt l x ≤ l.length := List.countP_le_length

/-- In a rising list those before x stand first. -/
theorem cnt_parts (hl : Lin lt) : ∀ {l : List K} (x : K), Rising lt l → (∀ y ∈ l.take (cnt lt l x), lt y x = true) ∧ ∀ y ∈ l.drop (cnt lt l x), lt y x = false
  | [], x, _ => by simp [cnt]
  | a :: l, x, h => by
    have p := List.pairwise_cons.1 h
    have ih := cnt_parts hl x p.2
    rw [cnt_cons]
    by_cases e : lt a x = true
    · rw [if_pos e, List.take_succ_cons, List.drop_succ_cons]
      refine ⟨fun y hy => ?_, ih.2⟩
      rcases List.mem_cons.1 hy with rfl | hy
      · exact e
      · exact ih.1 y hy
    · have hno : ∀ y ∈ a :: l, lt y x = false := fun y hy => by
        cases hyx : lt y x with
        | false => rfl
        | true =>
          rcases List.mem_cons.1 hy with rfl | hy
          · exact absurd hyx e
          · exact absurd (hl.trans _ _ _ (p.1 y hy) hyx) e
      have hc : cnt lt l x = 0 := List.countP_eq_zero.2 (fun y hy => by rw [hno y (List.mem_cons_of_mem _ hy)]; simp)
      rw [if_neg e, hc]
      exact ⟨fun y hy => by simp at hy, fun y hy => hno y (by simpa using hy)⟩

/-- x stands where those before it end. -/
theorem cnt_at (hl : Lin lt) {l : List K} {x : K} (h : Rising lt l) (hx : x ∈ l) : l.drop (cnt lt l x) = x :: l.drop (cnt lt l x + 1) := by
  obtain ⟨h1, h2⟩ := cnt_parts hl x h
  have hxd : x ∈ l.drop (cnt lt l x) := by
    rw [← List.take_append_drop (cnt lt l x) l] at hx
    rcases List.mem_append.1 hx with e | e
    · have := h1 x e
      rw [hl.irr] at this
      cases this
    · exact e
  have hr : Rising lt (l.drop (cnt lt l x)) := h.sublist (List.drop_sublist _ _)
  cases hd : l.drop (cnt lt l x) with
  | nil => rw [hd] at hxd; cases hxd
  | cons a r =>
    have har : r = l.drop (cnt lt l x + 1) := by rw [← List.drop_drop, hd]; rfl
    rw [hd] at hxd hr h2
    rcases List.mem_cons.1 hxd with e | e
    · rw [← har, e]
    · have p := (List.pairwise_cons.1 hr).1 x e
      rw [h2 a (List.mem_cons_self ..)] at p
      cases p

/-- A rising list with one thing out. -/
theorem cut_one (hl : Lin lt) {l : List K} {x : K} (h : Rising lt l) (hx : x ∈ l) :
    Rising lt (l.take (cnt lt l x) ++ l.drop (cnt lt l x + 1)) ∧ (∀ k, k ∈ l.take (cnt lt l x) ++ l.drop (cnt lt l x + 1) ↔ k ∈ l ∧ k ≠ x) ∧ (l.take (cnt lt l x) ++ l.drop (cnt lt l x + 1)).length + 1 = l.length ∧ cnt lt l x < l.length := by
  have hd := cnt_at hl h hx
  have e : l = l.take (cnt lt l x) ++ x :: l.drop (cnt lt l x + 1) := by rw [← hd, List.take_append_drop]
  have hn := h.nodup hl
  have hlen : (l.take (cnt lt l x) ++ l.drop (cnt lt l x + 1)).length + 1 = l.length := by
    have := congrArg List.length e
    simp only [List.length_append, List.length_cons] at this ⊢
    omega
  generalize hA : l.take (cnt lt l x) = A at *
  generalize hB : l.drop (cnt lt l x + 1) = B at *
  have hcl : cnt lt l x < l.length := by
    have h1 := cnt_le (lt := lt) l x
    rcases Nat.lt_or_ge (cnt lt l x) l.length with g | g
    · exact g
    · rw [List.drop_eq_nil_of_le g] at hd; cases hd
  rw [e] at h hn
  obtain ⟨p1, p2, p3⟩ := List.pairwise_append.1 h
  have p4 := List.pairwise_cons.1 p2
  obtain ⟨n1, n2, n3⟩ := List.pairwise_append.1 hn
  have n4 := List.pairwise_cons.1 n2
  refine ⟨List.pairwise_append.2 ⟨p1, p4.2, fun a ha b hb => p3 a ha b (List.mem_cons_of_mem _ hb)⟩, fun k => ?_, hlen, hcl⟩
  rw [e, List.mem_append, List.mem_append, List.mem_cons]
  constructor
  · rintro (hk | hk)
    · exact ⟨.inl hk, n3 k hk x (List.mem_cons_self ..)⟩
    · exact ⟨.inr (.inr hk), fun e => n4.1 k hk e.symm⟩
  · rintro ⟨hk | hk | hk, hne⟩
    · exact .inl hk
    · exact absurd hk hne
    · exact .inr hk
end

def ltN : Int → Int → Bool := fun a b => decide (a < b)
theorem linN : Lin ltN := ⟨fun a => by simp [ltN], fun a b c h1 h2 => by simp [ltN] at *; omega, fun a b h => by simp [ltN]; omega⟩

/-- A rising list with one more. -/
theorem put_one {l : List Int} {x : Int} (h : Rising ltN l) (hx : x ∉ l) :
    Rising ltN (l.take (cnt ltN l x) ++ [x] ++ l.drop (cnt ltN l x)) ∧ ∀ k, k ∈ l.take (cnt ltN l x) ++ [x] ++ l.drop (cnt ltN l x) ↔ k = x ∨ k ∈ l := by
  obtain ⟨h1, h2⟩ := cnt_parts linN x h
  have e : l = l.take (cnt ltN l x) ++ l.drop (cnt ltN l x) := (List.take_append_drop _ _).symm
  generalize l.take (cnt ltN l x) = A at *
  generalize l.drop (cnt ltN l x) = B at *
  subst e
  have hp := List.pairwise_append.1 h
  refine ⟨?_, fun k => ?_⟩
  · unfold Rising
    rw [List.append_assoc, List.pairwise_append]
    refine ⟨hp.1, ?_, fun a ha b hb => ?_⟩
    · rw [List.singleton_append, List.pairwise_cons]
      refine ⟨fun b hb => ?_, hp.2.1⟩
      have h3 := h2 b hb
      have h4 : b ≠ x := fun e => hx (by rw [← e]; exact List.mem_append_right _ hb)
      simp only [ltN, decide_eq_false_iff_not, decide_eq_true_eq] at h3 ⊢
      omega
    · rw [List.singleton_append] at hb
      rcases List.mem_cons.1 hb with e | e
      · rw [e]; exact h1 a ha
      · exact hp.2.2 a ha b e
  · simp only [List.mem_append, List.mem_singleton]
    constructor
    · rintro ((h | h) | h)
      · exact .inr (.inl h)
      · exact .inl h
      · exact .inr (.inr h)
    · rintro (h | h | h)
      · exact .inl (.inr h)
      · exact .inl (.inl h)
      · exact .inr h

/-- The numbers of the edges of which p says yes, rising. -/
def numsFrom (p : EdgeV → Bool) : List (EdgeV × Bool) → Nat → List Int
  | [], _ => []
  | y :: ps, i => if y.2 && p y.1 then ((i : Int) + 1) :: numsFrom p ps (i + 1) else numsFrom p ps (i + 1)
def numsOf (p : EdgeV → Bool) (ps : List (EdgeV × Bool)) : List Int := numsFrom p ps 0

theorem mem_numsFrom (p : EdgeV → Bool) : ∀ (ps : List (EdgeV × Bool)) (i : Nat) (e : Int), e ∈ numsFrom p ps i ↔ ∃ (j : Nat) (x : EdgeV), ps[j]? = some (x, true) ∧ p x = true ∧ e = ((i + j : Nat) : Int) + 1
  | [], i, e => by simp [numsFrom]
  | (y, b) :: ps, i, e => by
    have ih := mem_numsFrom p ps (i + 1) e
    have ih' : e ∈ numsFrom p ps (i + 1) ↔ ∃ (j : Nat) (x : EdgeV), ((y, b) :: ps)[j + 1]? = some (x, true) ∧ p x = true ∧ e = ((i + (j + 1) : Nat) : Int) + 1 := by
      rw [ih]
      simp only [List.getElem?_cons_succ, show ∀ j, i + 1 + j = i + (j + 1) from fun j => by omega]
    unfold numsFrom
    constructor
    · intro h
      by_cases hb : (b && p y) = true
      · rw [if_pos hb] at h
        rw [Bool.and_eq_true] at hb
        rcases List.mem_cons.1 h with h | h
        · exact ⟨0, y, by simp [hb.1], hb.2, by simpa using h⟩
        · obtain ⟨j, x, h1⟩ := ih'.1 h
          exact ⟨j + 1, x, h1⟩
      · rw [if_neg hb] at h
        obtain ⟨j, x, h1⟩ := ih'.1 h
        exact ⟨j + 1, x, h1⟩
    · rintro ⟨j, x, h1, h2, h3⟩
      cases j with
      | zero =>
        simp at h1
        obtain ⟨rfl, rfl⟩ := h1
        rw [if_pos (by simp [h2])]
        exact List.mem_cons.2 (.inl (by simpa using h3))
      | succ j =>
        have := ih'.2 ⟨j, x, h1, h2, h3⟩
        split
        · exact List.mem_cons_of_mem _ this
        · exact this
theorem mem_numsOf {p : EdgeV → Bool} {ps : List (EdgeV × Bool)} {e : Int} : e ∈ numsOf p ps ↔ ∃ (j : Nat) (x : EdgeV), ps[j]? = some (x, true) ∧ p x = true ∧ e = (j : Int) + 1 := by
  unfold numsOf; rw [mem_numsFrom]; simp
theorem rising_numsFrom (p : EdgeV → Bool) : ∀ (ps : List (EdgeV × Bool)) (i : Nat), Rising ltN (numsFrom p ps i) ∧ ∀ e ∈ numsFrom p ps i, (i : Int) < e
  | [], i => by simp [numsFrom, Rising]
  | y :: ps, i => by
    obtain ⟨h1, h2⟩ := rising_numsFrom p ps (i + 1)
    unfold numsFrom
    split
    · refine ⟨List.pairwise_cons.2 ⟨fun e he => ?_, h1⟩, fun e he => ?_⟩
      · have := h2 e he
        simp only [ltN, decide_eq_true_eq]; omega
      · rcases List.mem_cons.1 he with h | h
        · omega
        · have := h2 e h; omega
    · exact ⟨h1, fun e he => by have := h2 e he; omega⟩
theorem rising_numsOf (p : EdgeV → Bool) (ps : List (EdgeV × Bool)) : Rising ltN (numsOf p ps) := (rising_numsFrom p ps 0).1
theorem length_numsFrom (p : EdgeV → Bool) : ∀ (ps : List (EdgeV × Bool)) (i : Nat), (numsFrom p ps i).length ≤ ps.length
  | [], i => by simp [numsFrom]
  | y :: ps, i => by
    have := length_numsFrom p ps (i + 1)
    unfold numsFrom
    split <;> simp only [List.length_cons] <;> omega
theorem length_numsOf (p : EdgeV → Bool) (ps : List (EdgeV × Bool)) : (numsOf p ps).length ≤ ps.length := length_numsFrom p ps 0

/-- What leaves k, what enters it. -/
def outs (ps : List (EdgeV × Bool)) (k : Int) : List Int := numsOf (fun x => decide (x.2.1 = k)) ps
def inns (ps : List (EdgeV × Bool)) (k : Int) : List Int := numsOf (fun x => decide (x.2.2.1 = k)) ps

/-- The places with one edge more. -/
theorem at_put {ps : List (EdgeV × Bool)} {i : Nat} {x : EdgeV} {j : Nat} {y : EdgeV} (hi : ∀ a, ps[i]? ≠ some (a, true)) : ((ps ++ List.replicate (i + 1 - ps.length) (((0, 0, 0, 0) : EdgeV), false)).set i (x, true))[j]? = some (y, true) ↔ (j = i ∧ y = x) ∨ ps[j]? = some (y, true) := by
  have hlen : i < (ps ++ List.replicate (i + 1 - ps.length) (((0, 0, 0, 0) : EdgeV), false)).length := by simp; omega
  by_cases hj : j = i
  · subst hj
    rw [List.getElem?_set_self hlen]
    constructor
    · intro h; simp at h; exact .inl ⟨rfl, h.symm⟩
    · rintro (⟨-, h⟩ | h)
      · rw [h]
      · exact absurd h (hi y)
  · rw [List.getElem?_set_ne (fun e => hj e.symm), List.getElem?_append]
    constructor
    · intro h
      split at h
      · exact .inr h
      · rw [List.getElem?_replicate] at h
        split at h <;> simp at h
    · rintro (⟨h, -⟩ | h)
      · exact absurd h hj
      · rw [if_pos (List.getElem?_eq_some_iff.1 h).1]; exact h
/-- .. with one less. -/
theorem at_cut {ps : List (EdgeV × Bool)} {i : Nat} {z : EdgeV} {j : Nat} {y : EdgeV} : (ps.set i (z, false))[j]? = some (y, true) ↔ j ≠ i ∧ ps[j]? = some (y, true) := by
  by_cases hj : j = i
  · subst hj
    constructor
    · intro h
      have hl : j < ps.length := by have := (List.getElem?_eq_some_iff.1 h).1; simpa using this
      rw [List.getElem?_set_self hl] at h
      simp at h
    · rintro ⟨h, -⟩; exact absurd rfl h
  · rw [List.getElem?_set_ne (fun e => hj e.symm)]
    exact ⟨fun h => ⟨hj, h⟩, fun h => h.2⟩

theorem nums_put {p : EdgeV → Bool} {ps ps' : List (EdgeV × Bool)} {i : Nat} {x : EdgeV} (hi : ∀ a, ps[i]? ≠ some (a, true)) (hps : ∀ j y, ps'[j]? = some (y, true) ↔ (j = i ∧ y = x) ∨ ps[j]? = some (y, true)) :
    (p x = true → numsOf p ps' = (numsOf p ps).take (cnt ltN (numsOf p ps) ((i : Int) + 1)) ++ [(i : Int) + 1] ++ (numsOf p ps).drop (cnt ltN (numsOf p ps) ((i : Int) + 1)) ∧ ((i : Int) + 1) ∉ numsOf p ps) ∧ (p x = false → numsOf p ps' = numsOf p ps) := by
  have hno : ((i : Int) + 1) ∉ numsOf p ps := fun h => by
    obtain ⟨j, y, h1, -, h3⟩ := mem_numsOf.1 h
    obtain rfl : j = i := by omega
    exact hi y h1
  refine ⟨fun hp => ⟨?_, hno⟩, fun hp => ?_⟩
  · obtain ⟨h1, h2⟩ := put_one (rising_numsOf p ps) hno
    refine rising_ext linN (rising_numsOf p ps') h1 (fun k => ?_)
    rw [h2, mem_numsOf, mem_numsOf]
    constructor
    · rintro ⟨j, y, g1, g2, g3⟩
      rcases (hps j y).1 g1 with ⟨rfl, rfl⟩ | g
      · exact .inl g3
      · exact .inr ⟨j, y, g, g2, g3⟩
    · rintro (h | ⟨j, y, g1, g2, g3⟩)
      · exact ⟨i, x, (hps i x).2 (.inl ⟨rfl, rfl⟩), hp, h⟩
      · exact ⟨j, y, (hps j y).2 (.inr g1), g2, g3⟩
  · refine rising_ext linN (rising_numsOf p ps') (rising_numsOf p ps) (fun k => ?_)
    rw [mem_numsOf, mem_numsOf]
    constructor
    · rintro ⟨j, y, g1, g2, g3⟩
      rcases (hps j y).1 g1 with ⟨rfl, rfl⟩ | g
      · rw [hp] at g2; cases g2
      · exact ⟨j, y, g, g2, g3⟩
    · rintro ⟨j, y, g1, g2, g3⟩
      exact ⟨j, y, (hps j y).2 (.inr g1), g2, g3⟩
theorem nums_cut {p : EdgeV → Bool} {ps ps' : List (EdgeV × Bool)} {i : Nat} {x : EdgeV} (hi : ps[i]? = some (x, true)) (hps : ∀ j y, ps'[j]? = some (y, true) ↔ j ≠ i ∧ ps[j]? = some (y, true)) :
    (p x = true → numsOf p ps' = (numsOf p ps).take (cnt ltN (numsOf p ps) ((i : Int) + 1)) ++ (numsOf p ps).drop (cnt ltN (numsOf p ps) ((i : Int) + 1) + 1) ∧ ((i : Int) + 1) ∈ numsOf p ps) ∧ (p x = false → numsOf p ps' = numsOf p ps) := by
  refine ⟨fun hp => ?_, fun hp => ?_⟩
  · have hin : ((i : Int) + 1) ∈ numsOf p ps := mem_numsOf.2 ⟨i, x, hi, hp, rfl⟩
    refine ⟨?_, hin⟩
    obtain ⟨h1, h2, -, -⟩ := cut_one linN (rising_numsOf p ps) hin
    refine rising_ext linN (rising_numsOf p ps') h1 (fun k => ?_)
    rw [h2, mem_numsOf, mem_numsOf]
    constructor
    · rintro ⟨j, y, g1, g2, g3⟩
      obtain ⟨g4, g5⟩ := (hps j y).1 g1
      exact ⟨⟨j, y, g5, g2, g3⟩, fun e => g4 (by omega)⟩
    · rintro ⟨⟨j, y, g1, g2, g3⟩, hne⟩
      exact ⟨j, y, (hps j y).2 ⟨fun e => hne (by rw [g3, e]), g1⟩, g2, g3⟩
  · refine rising_ext linN (rising_numsOf p ps') (rising_numsOf p ps) (fun k => ?_)
    rw [mem_numsOf, mem_numsOf]
    constructor
    · rintro ⟨j, y, g1, g2, g3⟩
      exact ⟨j, y, ((hps j y).1 g1).2, g2, g3⟩
    · rintro ⟨j, y, g1, g2, g3⟩
      refine ⟨j, y, (hps j y).2 ⟨fun e => ?_, g1⟩, g2, g3⟩
      subst e
      rw [hi] at g1
      cases g1
      rw [hp] at g2; cases g2
end

section
open Go.RowKit Go.Maps
/-- At t stands a table; its row of places v, its heap at hp. -/
structure TAtE [Inhabited EntI] (w : World) (t hp : Nat) (v : Value) (most : Int) (ps : List (EdgeV × Bool)) (ms : List EntI) (n : Nat) (G : Nat → Prop) : Prop where
  box : w.heap[t]? = some (.cells #[.int .i64 most, v, .pointer (some ⟨hp, 0, none⟩)] 139 (0, 0))
  row : w.ownsRow 0 145 5 v ps.length (encE ps)
  on : OnI w hp G ms n
  fr : Frees ps ms
  nt : ¬ G t
  nv : v.ownBlock ≠ some t
  ng : ∀ b, v.ownBlock = some b → ¬ G b
  len : (ps.length : Int) ≤ most
  top : most ≤ 65536

theorem TAtE.cells [Inhabited EntI] {w : World} {t hp : Nat} {v : Value} {most : Int} {ps : List (EdgeV × Bool)} {ms : List EntI} {n : Nat} {G : Nat → Prop} (h : TAtE w t hp v most ps ms n G) :
    w.cell? ⟨t, 0, none⟩ = some (.int .i64 most) ∧ w.cell? ⟨t, 1, none⟩ = some v ∧ w.cell? ⟨t, 2, none⟩ = some (.pointer (some ⟨hp, 0, none⟩)) ∧ ∀ o, w.frozen? ⟨t, o, none⟩ = false := by
  refine ⟨?_, ?_, ?_, fun o => frozen_of_row w t o _ _ h.box⟩ <;> rw [cell_of_row w t _ _ _ _ h.box] <;> rfl

theorem TAtE.lt [Inhabited EntI] {w : World} {t hp : Nat} {v : Value} {most : Int} {ps : List (EdgeV × Bool)} {ms : List EntI} {n : Nat} {G : Nat → Prop} (h : TAtE w t hp v most ps ms n G) {k : Nat} (hk : Feet t v G k) : k < w.heap.size := by
  rcases hk with rfl | hk | hk
  · exact (Array.getElem?_eq_some_iff.1 h.box).1
  · exact (h.row.lt k hk).2
  · exact h.on.lt hk

theorem TAtE.kept [Inhabited EntI] {w w' : World} {t hp : Nat} {v : Value} {most : Int} {ps : List (EdgeV × Bool)} {ms : List EntI} {n : Nat} {G : Nat → Prop} (h : TAtE w t hp v most ps ms n G) (hk : ∀ k, Feet t v G k → w'.heap[k]? = w.heap[k]?) : TAtE w' t hp v most ps ms n G :=
  ⟨(hk t (.inl rfl)).trans h.box, row_kept5 h.row (fun k e => hk k (.inr (.inl e))), h.on.kept (fun k e => hk k (.inr (.inr e))), h.fr, h.nt, h.nv, h.ng, h.len, h.top⟩

/-- Where there are places: their cells. -/
theorem TAtE.some_ [Inhabited EntI] {w : World} {t hp : Nat} {v : Value} {most : Int} {ps : List (EdgeV × Bool)} {ms : List EntI} {n : Nat} {G : Nat → Prop} (h : TAtE w t hp v most ps ms n G) (h0 : 0 < ps.length) :
    ∃ b c, v = .slice (some ⟨b, 0, none⟩) ps.length c ∧ b ≠ t ∧ (∀ o, w.frozen? ⟨b, o, none⟩ = false) ∧ ∀ i a x, ps[i]? = some (a, x) → (w.cell? ⟨b, i * 5, none⟩ = some (.int .i64 a.1) ∧ w.cell? ⟨b, i * 5 + 1, none⟩ = some (.int .i64 a.2.1) ∧ w.cell? ⟨b, i * 5 + 2, none⟩ = some (.int .i64 a.2.2.1) ∧ w.cell? ⟨b, i * 5 + 3, none⟩ = some (.int .u32 a.2.2.2)) ∧ w.cell? ⟨b, i * 5 + 4, none⟩ = some (.bool x) := by
  have hr := h.row
  have h1 := h.nv
  rcases h.row.2 with ⟨-, h3⟩ | ⟨g, cap, cur, rfl, -, hg, hc, hm, -⟩
  · omega
  · have add : ∀ j, (⟨g, 0, none⟩ : Addr).add j = ⟨g, j, none⟩ := fun j => by unfold Addr.add; split <;> simp_all
    refine ⟨g, cap, rfl, fun e => h1 (by simp [Value.ownBlock, e]), fun o => frozen_of_row w g o _ _ hg, fun i a x hi => ?_⟩
    have hcl := hr.cells (g := g) rfl
    obtain ⟨e1, e2, e3, e4, e5⟩ := encE_at ps i a x hi
    have f1 := hcl _ _ e1
    have f2 := hcl _ _ e2
    have f3 := hcl _ _ e3
    have f4 := hcl _ _ e4
    have f5 := hcl _ _ e5
    rw [add] at f1 f2 f3 f4 f5
    exact ⟨⟨f1, f2, f3, f4⟩, f5⟩

theorem TAtE.shape [Inhabited EntI] {w : World} {t hp : Nat} {v : Value} {most : Int} {ps : List (EdgeV × Bool)} {ms : List EntI} {n : Nat} {G : Nat → Prop} (h : TAtE w t hp v most ps ms n G) : ∃ a c, v = .slice a ps.length c := by
  rcases h.row.2 with ⟨rfl, h3⟩ | ⟨g, cap, cur, rfl, -⟩
  · exact ⟨none, 0, by rw [h3]⟩
  · exact ⟨_, _, rfl⟩

set_option maxHeartbeats 1000000 in
set_option maxRecDepth 100000 in
theorem takenOutE [Inhabited EntI] {t hp : Nat} {v : Value} {most : Int} {ps : List (EdgeV × Bool)} {ms : List EntI} {n : Nat} {G : Nat → Prop} (k : Int) (w : World) (h : TAtE w t hp v most ps ms n G) (hk : k < 1 ∨ (ps.length : Int) < k) :
    Calls Tryz.prog 101 #[.pointer (some ⟨t, 0, none⟩), .int .i64 k] w fun e w' => e = .returned (.bool false) ∧ w' = w := by
  obtain ⟨-, c1, -, -⟩ := h.cells
  obtain ⟨a, c, rfl⟩ := h.shape
  generalize ps.length = L at *
  clear h
  by_cases h1 : k < 1
  · have h2 : ¬ 1 ≤ k := by omega
    clear hk
    go_enter Tryz.func101, Tryz.ntmps101
    go_wp2_with fail
    go_ret
    exact ⟨rfl, rfl⟩
  · have h2 : 1 ≤ k := by omega
    have h3 : ¬ k ≤ (L : Int) := by omega
    clear hk h1
    go_enter Tryz.func101, Tryz.ntmps101
    go_wp2_with fail
    go_ret
    exact ⟨rfl, rfl⟩

set_option maxHeartbeats 1000000 in
set_option maxRecDepth 100000 in
theorem takenAtE [Inhabited EntI] {t hp : Nat} {v : Value} {most : Int} {ps : List (EdgeV × Bool)} {ms : List EntI} {n : Nat} {G : Nat → Prop} {a : EdgeV} {b : Bool} (i : Nat) (w : World) (h : TAtE w t hp v most ps ms n G) (hi : ps[i]? = some (a, b)) :
    Calls Tryz.prog 101 #[.pointer (some ⟨t, 0, none⟩), .int .i64 ((i : Int) + 1)] w fun e w' => e = .returned (.bool b) ∧ w' = w := by
  obtain ⟨-, c1, -, -⟩ := h.cells
  have hil := lt_of_at hi
  obtain ⟨g, c, rfl, -, -, hc⟩ := h.some_ (by omega)
  have d2 := (hc i a b hi).2
  have hl := h.len
  have ht := h.top
  generalize ps.length = L at *
  have h1 : (1 : Int) ≤ (i : Int) + 1 := by omega
  have h2 : (i : Int) + 1 ≤ (L : Int) := by omega
  have h3 : (i : Int) < (L : Int) := by omega
  have h4 : (L : Int) ≤ 65536 := by omega
  clear h hc hi hl ht hil
  go_enter Tryz.func101, Tryz.ntmps101
  go_wp2_with fail
  go_ret
  exact ⟨rfl, rfl⟩
end

section
open Go.RowKit Go.Maps
theorem infoPE : (Tryz.prog.info? 145).map (fun i => (i.zero, i.size, i.bytes)) = some (some (.agg #[.int .i64 0, .int .i64 0, .int .i64 0, .int .u32 0, .bool false]), 5, 40) := by kernel_rfl

/-- One place more: the append and the store. -/
theorem growMemE [Inhabited EntI] {w : World} {t hp : Nat} {v : Value} {most : Int} {ps : List (EdgeV × Bool)} {ms : List EntI} {n : Nat} {G : Nat → Prop} (h : TAtE w t hp v most ps ms n G) (hlt : (ps.length : Int) < most) :
    ∃ g c w', (Builtin.append_ #[137, 137] 137 #[v, .slice (some ⟨w.heap.size, 0, none⟩) 1 1]).run Tryz.prog (w.alloc (.cells #[.int .i64 0, .int .i64 0, .int .i64 0, .int .u32 0, .bool false] 145)) = .ok (.slice (some ⟨g, 0, none⟩) (ps.length + 1) c) w' ∧
      w'.cell? ⟨t, 2, none⟩ = some (.pointer (some ⟨hp, 0, none⟩)) ∧ (∃ u, w'.cell? ⟨t, 1, none⟩ = some u) ∧ (∀ o, w'.frozen? ⟨t, o, none⟩ = false) ∧
      (w'.setCell ⟨t, 1, none⟩ (.slice (some ⟨g, 0, none⟩) (ps.length + 1) c)).heap[t]? = some (.cells #[.int .i64 most, .slice (some ⟨g, 0, none⟩) (ps.length + 1) c, .pointer (some ⟨hp, 0, none⟩)] 139 (0, 0)) ∧
      (w'.setCell ⟨t, 1, none⟩ (.slice (some ⟨g, 0, none⟩) (ps.length + 1) c)).ownsRow 0 145 5 (.slice (some ⟨g, 0, none⟩) (ps.length + 1) c) (ps.length + 1) (encE (ps ++ [(((0, 0, 0, 0) : EdgeV), false)])) ∧
      OnI (w'.setCell ⟨t, 1, none⟩ (.slice (some ⟨g, 0, none⟩) (ps.length + 1) c)) hp G ms n ∧ g ≠ t ∧ ¬ G g ∧ (v.ownBlock = some g ∨ w.heap.size ≤ g) ∧
      Turned (Feet t v G) w (w'.setCell ⟨t, 1, none⟩ (.slice (some ⟨g, 0, none⟩) (ps.length + 1) c)) := by
  obtain ⟨i0, hi0, hz0, hzs, hzb⟩ := info_parts infoPE
  have hl := h.len
  have ht := h.top
  have htl := h.lt (.inl rfl)
  have hs1 : (w.alloc (.cells #[.int .i64 0, .int .i64 0, .int .i64 0, .int .u32 0, .bool false] 145)).heap.size = w.heap.size + 1 := by simp
  have hrowA : (w.alloc (.cells #[.int .i64 0, .int .i64 0, .int .i64 0, .int .u32 0, .bool false] 145)).ownsRow 0 145 5 v ps.length (encE ps) := row_kept5 h.row (fun j hj => ((Below.refl w.heap.size w).alloc (Nat.le_refl _) _).block j (h.row.lt j hj).2)
  obtain ⟨v', w', hr, hown', hgr, -, hloc⟩ := run_append_own_at (P := Tryz.prog) (w.alloc (.cells #[.int .i64 0, .int .i64 0, .int .i64 0, .int .u32 0, .bool false] 145)) 0 137 137 145 i0 _ 5 40 Tryz.underlying137 hi0 hz0 hzs hzb rfl (by omega) v ps.length (encE ps) hrowA ⟨w.heap.size, 0, none⟩ 1 1 [.int .i64 0, .int .i64 0, .int .i64 0, .int .u32 0, .bool false] rfl
    (fun j u hj => by
      have add : (⟨w.heap.size, 0, none⟩ : Addr).add j = ⟨w.heap.size, j, none⟩ := by unfold Addr.add; split <;> simp_all
      have h1 : j < 5 := by
        have := (List.getElem?_eq_some_iff.1 hj).1
        simpa using this
      rw [add, World.cell?_alloc_at _ _ _ _ (by simp)]
      match j, h1 with
      | 0, _ => simpa using hj
      | 1, _ => simpa using hj
      | 2, _ => simpa using hj
      | 3, _ => simpa using hj
      | 4, _ => simpa using hj) (by intro u hu; simp at hu; rcases hu with rfl | rfl | rfl <;> rfl) (by unfold maxLen; omega) (by omega) (Nat.zero_le _)
  have hloc' : ∀ b, v'.ownBlock = some b → v.ownBlock = some b ∨ w.heap.size + 1 ≤ b := fun b hb => by
    rcases hloc with e | e
    · exact .inl (e ▸ hb)
    · rw [hb, hs1] at e; exact .inr (by have := Option.some.inj e; omega)
  have hw1 : ∀ j, j < w.heap.size → v.ownBlock ≠ some j → w'.heap[j]? = w.heap[j]? := fun j hj hne => by
    rw [hgr.block j (by rw [hs1]; omega) (fun e => hne e.symm)]
    exact ((Below.refl w.heap.size w).alloc (Nat.le_refl _) _).block j hj
  have hws : w.heap.size + 1 ≤ w'.heap.size := by have := hgr.size; omega
  have box1 : w'.heap[t]? = some (.cells #[.int .i64 most, v, .pointer (some ⟨hp, 0, none⟩)] 139 (0, 0)) := (hw1 t htl h.nv).trans h.box
  obtain ⟨g, c, rfl⟩ : ∃ g c, v' = .slice (some ⟨g, 0, none⟩) (ps.length + 1) c := by
    rcases hown'.2 with ⟨-, h3⟩ | ⟨g, cap, cur, rfl, -⟩
    · omega
    · exact ⟨g, cap, rfl⟩
  have hgo := hloc' g rfl
  have hgt : g ≠ t := fun e => by
    subst e
    rcases hgo with e | e
    · exact h.nv e
    · omega
  have hgG : ¬ G g := fun e => by
    rcases hgo with e2 | e2
    · exact h.ng g e2 e
    · have := h.on.lt e; omega
  refine ⟨g, c, w', hr, ?_, ⟨v, ?_⟩, fun o => frozen_of_row w' t o _ _ box1, ?_, ?_, ?_, hgt, hgG, hgo.imp id (fun e => by omega), ?_⟩
  · rw [cell_of_row w' t _ _ _ _ box1]; rfl
  · rw [cell_of_row w' t _ _ _ _ box1]; rfl
  · rw [heap_setCell_same _ _ _ _ _ _ box1]; rfl
  · have henc : encE (ps ++ [(((0, 0, 0, 0) : EdgeV), false)]) = encE ps ++ [.int .i64 0, .int .i64 0, .int .i64 0, .int .u32 0, .bool false] := by rw [encE_append]; rfl
    rw [henc]
    refine row_kept5 hown' (fun b hb => ?_)
    have hbg : g = b := by simpa [Value.ownBlock] using hb
    rw [heap_setCell_other _ _ _ _ (by rw [← hbg]; exact hgt)]
  · refine h.on.kept (fun k hk => ?_)
    have hne : k ≠ t := fun e => h.nt (by rw [← e]; exact hk)
    rw [heap_setCell_other _ _ _ _ hne]
    exact hw1 k (h.on.lt hk) (fun e => h.ng k e hk)
  · refine ⟨hgr.os, hgr.tape, hgr.output, ?_, fun j hj hf => ?_⟩
    · have : (w'.setCell ⟨t, 1, none⟩ (.slice (some ⟨g, 0, none⟩) (ps.length + 1) c)).heap.size = w'.heap.size := by simp
      omega
    · rw [heap_setCell_other _ _ _ _ (fun e => hf (.inl e))]
      exact hw1 j hj (fun e => hf (.inr (.inl e)))

/-- Behind the heap's Push. -/
theorem grownE [Inhabited EntI] {w w2 w3 : World} {t hp g c : Nat} {v : Value} {most : Int} {ps : List (EdgeV × Bool)} {ms : List EntI} {n : Nat} {G G' : Nat → Prop} (h : TAtE w t hp v most ps ms n G) (hlt : (ps.length : Int) < most)
    (box : w2.heap[t]? = some (.cells #[.int .i64 most, .slice (some ⟨g, 0, none⟩) (ps.length + 1) c, .pointer (some ⟨hp, 0, none⟩)] 139 (0, 0))) (row : w2.ownsRow 0 145 5 (.slice (some ⟨g, 0, none⟩) (ps.length + 1) c) (ps.length + 1) (encE (ps ++ [(((0, 0, 0, 0) : EdgeV), false)])))
    (hgt : g ≠ t) (hgG : ¬ G g) (hgo : v.ownBlock = some g ∨ w.heap.size ≤ g) (ht : Turned (Feet t v G) w w2)
    (on : OnI w3 hp G' (ms ++ [⟨(ps.length : Int) + 1, (ps.length : Int) + 1, n⟩]) (n + 1)) (h3 : Turned G w2 w3) (hG : ∀ j, G' j → G j ∨ w2.heap.size ≤ j) :
    TAtE w3 t hp (.slice (some ⟨g, 0, none⟩) (ps.length + 1) c) most (ps ++ [(((0, 0, 0, 0) : EdgeV), false)]) (ms ++ [⟨(ps.length : Int) + 1, (ps.length : Int) + 1, n⟩]) (n + 1) G' ∧ Turned (Feet t v G) w w3 ∧ ∀ j, Feet t (.slice (some ⟨g, 0, none⟩) (ps.length + 1) c) G' j → Feet t v G j ∨ w.heap.size ≤ j := by
  have htl := (Array.getElem?_eq_some_iff.1 box).1
  have hgl := (row.lt g rfl).2
  have hs := ht.size
  have hlen : (ps ++ [(((0, 0, 0, 0) : EdgeV), false)]).length = ps.length + 1 := by simp
  have ntG : ¬ G' t := fun e => by
    rcases hG t e with e | e
    · exact h.nt e
    · omega
  have ngG : ¬ G' g := fun e => by
    rcases hG g e with e | e
    · exact hgG e
    · omega
  refine ⟨⟨(h3.block t htl h.nt).trans box, ?_, on, frees_grow h.fr _ _, ntG, fun e => hgt (by simpa [Value.ownBlock] using e), fun b hb => ?_, ?_, h.top⟩, ?_, fun j hj => ?_⟩
  · rw [hlen]
    refine row_kept5 row (fun b hb => ?_)
    have hbg : g = b := by simpa [Value.ownBlock] using hb
    subst hbg
    exact h3.block g hgl hgG
  · have hbg : g = b := by simpa [Value.ownBlock] using hb
    subst hbg; exact ngG
  · rw [hlen]; push_cast; omega
  · exact ht.then_ h3 (fun i _ hg => .inr (.inr hg))
  · rcases hj with rfl | hj | hj
    · exact .inl (.inl rfl)
    · have hbg : g = j := by simpa [Value.ownBlock] using hj
      subst hbg
      exact hgo.imp (fun e => .inr (.inl e)) id
    · rcases hG j hj with e | e
      · exact .inl (.inr (.inr e))
      · exact .inr (Nat.le_trans hs e)
end

section
open Go.RowKit Go.Maps
set_option maxHeartbeats 1000000 in
set_option maxRecDepth 100000 in
theorem growToE [Inhabited EntI] {t hp : Nat} {v : Value} {most : Int} {ps : List (EdgeV × Bool)} {ms : List EntI} {n : Nat} {G : Nat → Prop} (k : Nat) (w : World) (h : TAtE w t hp v most ps ms n G) (hk : (k : Int) ≤ most) (hn : n ≤ 1000000000) :
    Calls Tryz.prog 103 #[.pointer (some ⟨t, 0, none⟩), .int .i64 k] w fun e w' => e = .returned (.tuple #[]) ∧ Hid (∃ v' ms' G', TAtE w' t hp v' most (ps ++ List.replicate (k - ps.length) (((0, 0, 0, 0) : EdgeV), false)) ms' (n + (k - ps.length)) G' ∧ Turned (Feet t v G) w w' ∧ ∀ j, Feet t v' G' j → Feet t v G j ∨ w.heap.size ≤ j) := by
  have HK := hide hk
  have HN := hide hn
  have HT := hide h
  clear h hk hn
  go_enter Tryz.func103, Tryz.ntmps103
  go_wp2_with fail
  go_loopw [8] (fun _ wr => ∃ (d : Nat) (v' : Value) (ms' : List EntI) (G' : Nat → Prop), Hid (d ≤ k - ps.length) ∧ Hid (TAtE wr t hp v' most (ps ++ List.replicate d (((0, 0, 0, 0) : EdgeV), false)) ms' (n + d) G' ∧ Turned (Feet t v G) w wr ∧ ∀ j, Feet t v' G' j → Feet t v G j ∨ w.heap.size ≤ j)) (fun _ wr => k - plen wr t)
  case atStart => exact ⟨0, v, ms, G, Nat.zero_le _, by simpa using unhide HT, Turned.refl _ _, fun j hj => .inl hj⟩
  case round =>
    obtain ⟨d, v', ms', G', hd, hh⟩ := hrel
    obtain ⟨h1, h2, h3⟩ := unhide hh
    have hlen : (ps ++ List.replicate d ((((0, 0, 0, 0) : EdgeV), false) : EdgeV × Bool)).length = ps.length + d := by simp
    obtain ⟨-, c1, -, cf⟩ := h1.cells
    obtain ⟨a, c, rfl⟩ := h1.shape
    have hm1 := h1.len
    have hm2 := h1.top
    have HPL := hide (plen_of c1)
    by_cases hlt : (ps ++ List.replicate d ((((0, 0, 0, 0) : EdgeV), false) : EdgeV × Bool)).length < k
    · have hltm : ((ps ++ List.replicate d ((((0, 0, 0, 0) : EdgeV), false) : EdgeV × Bool)).length : Int) < most := by have := unhide HK; omega
      obtain ⟨g, c', w', hr, e2, ⟨u, e1⟩, ef, box, row, on, hgt, hgG, hgo, ht⟩ := growMemE h1 hltm
      have hnot : ∀ x ∈ ms', x.key ≠ ((ps ++ List.replicate d ((((0, 0, 0, 0) : EdgeV), false) : EdgeV × Bool)).length : Int) + 1 := frees_not h1.fr (fun a e => by have := lt_of_at e; omega)
      have hml : ms'.length ≤ 65536 := by have := h1.fr.cnt; omega
      have HQ : Hid (∀ w3 G3, OnI w3 hp G3 (ms' ++ [⟨((ps ++ List.replicate d ((((0, 0, 0, 0) : EdgeV), false) : EdgeV × Bool)).length : Int) + 1, ((ps ++ List.replicate d ((((0, 0, 0, 0) : EdgeV), false) : EdgeV × Bool)).length : Int) + 1, n + d⟩]) (n + d + 1) → Turned G' (w'.setCell ⟨t, 1, none⟩ (.slice (some ⟨g, 0, none⟩) ((ps ++ List.replicate d ((((0, 0, 0, 0) : EdgeV), false) : EdgeV × Bool)).length + 1) c')) w3 → (∀ j, G3 j → G' j ∨ (w'.setCell ⟨t, 1, none⟩ (.slice (some ⟨g, 0, none⟩) ((ps ++ List.replicate d ((((0, 0, 0, 0) : EdgeV), false) : EdgeV × Bool)).length + 1) c')).heap.size ≤ j) → _) := fun w3 G3 => grownE h1 hltm box row hgt hgG hgo ht
      have CP : Hid (∀ q, Calls Tryz.prog 89 #[.pointer (some ⟨hp, 0, none⟩), .int .i64 (((ps ++ List.replicate d ((((0, 0, 0, 0) : EdgeV), false) : EdgeV × Bool)).length : Int) + 1), .int .i64 (((ps ++ List.replicate d ((((0, 0, 0, 0) : EdgeV), false) : EdgeV × Bool)).length : Int) + 1)] ((w'.setCell ⟨t, 1, none⟩ (.slice (some ⟨g, 0, none⟩) ((ps ++ List.replicate d ((((0, 0, 0, 0) : EdgeV), false) : EdgeV × Bool)).length + 1) c')).drewN q) fun e w3 => e = .returned (.bool true) ∧ Hid (∃ G3, OnI w3 hp G3 (ms' ++ [⟨((ps ++ List.replicate d ((((0, 0, 0, 0) : EdgeV), false) : EdgeV × Bool)).length : Int) + 1, ((ps ++ List.replicate d ((((0, 0, 0, 0) : EdgeV), false) : EdgeV × Bool)).length : Int) + 1, n + d⟩]) (n + d + 1) ∧ Turned G' (w'.setCell ⟨t, 1, none⟩ (.slice (some ⟨g, 0, none⟩) ((ps ++ List.replicate d ((((0, 0, 0, 0) : EdgeV), false) : EdgeV × Bool)).length + 1) c')) w3 ∧ ∀ j, G3 j → G' j ∨ (w'.setCell ⟨t, 1, none⟩ (.slice (some ⟨g, 0, none⟩) ((ps ++ List.replicate d ((((0, 0, 0, 0) : EdgeV), false) : EdgeV × Bool)).length + 1) c')).heap.size ≤ j)) := fun q => by
        refine ((on.kept (w' := (w'.setCell ⟨t, 1, none⟩ (.slice (some ⟨g, 0, none⟩) ((ps ++ List.replicate d ((((0, 0, 0, 0) : EdgeV), false) : EdgeV × Bool)).length + 1) c')).drewN q) (fun _ _ => rfl)).push _ _ (key_fit _ (by omega)) hnot (by omega) (by have := unhide HN; have := unhide hd; omega)).mono ?_
        rintro e w3 ⟨he, F', g1, g2, g3⟩
        exact ⟨he, F', g1, ⟨g2.os, g2.tape, g2.output, g2.size, g2.block⟩, g3⟩
      have d1 : (w'.setCell ⟨t, 1, none⟩ (.slice (some ⟨g, 0, none⟩) ((ps ++ List.replicate d ((((0, 0, 0, 0) : EdgeV), false) : EdgeV × Bool)).length + 1) c')).cell? ⟨t, 1, none⟩ = some (.slice (some ⟨g, 0, none⟩) ((ps ++ List.replicate d ((((0, 0, 0, 0) : EdgeV), false) : EdgeV × Bool)).length + 1) c') := by rw [cell_of_row _ t _ _ _ _ box]; rfl
      have d2 : (w'.setCell ⟨t, 1, none⟩ (.slice (some ⟨g, 0, none⟩) ((ps ++ List.replicate d ((((0, 0, 0, 0) : EdgeV), false) : EdgeV × Bool)).length + 1) c')).cell? ⟨t, 2, none⟩ = some (.pointer (some ⟨hp, 0, none⟩)) := by rw [cell_of_row _ t _ _ _ _ box]; rfl
      have HR := hide hr
      have HLN := hide hlen
      have HH2 := hide (And.intro h2 h3)
      have hltz : ((ps ++ List.replicate d ((((0, 0, 0, 0) : EdgeV), false) : EdgeV × Bool)).length : Int) < (k : Int) := by omega
      have hl6 : ((ps ++ List.replicate d ((((0, 0, 0, 0) : EdgeV), false) : EdgeV × Bool)).length : Int) ≤ 65536 := by omega
      clear hlen hh h1 h2 h3 hr hnot hml box row on hgt hgG hgo ht hm1 hm2 hltm cf
      generalize (ps ++ List.replicate d ((((0, 0, 0, 0) : EdgeV), false) : EdgeV × Bool)).length = L at *
      go_wp2_with (at_builtin; refine Lib.wpList_append_run _ rfl _ _ 137 137 rfl (.slice a L c) (.slice (some ⟨wr.heap.size, 0, none⟩) 1 1) rfl rfl _ _ HR.out ?_)
      generalize (w'.setCell ⟨t, 1, none⟩ (.slice (some ⟨g, 0, none⟩) (L + 1) c')) = w2 at *
      refine region_still_tail 14 mixed (by kernel_rfl) ?_
      simp only [List.take_succ_cons, List.take_zero, List.drop_succ_cons, List.drop_zero]
      repeat still_step
      refine wpStill_nil ?_
      go_wp2_with fail
      refine (unhide CP 1).mono ?_
      rintro e w3 ⟨rfl, h3⟩
      obtain ⟨G3, o1, o2, o3⟩ := unhide h3
      have HQ3 := hide (unhide HQ w3 G3 o1 o2 o3)
      clear CP HQ h3 o1 o2 o3
      go_wp2_with fail
      go_roundw
      case rel =>
        obtain ⟨q1, q2, q3⟩ := unhide HQ3
        obtain ⟨p2, p3⟩ := unhide HH2
        rw [List.append_assoc, ← List.replicate_succ'] at q1
        have l1 : d + 1 ≤ k - ps.length := by have := unhide HLN; omega
        exact ⟨d + 1, _, _, G3, l1, q1, p2.then_ q2 (fun i hi hf => (p3 i hf).elim id (fun e => by omega)), fun j hj => (q3 j hj).elim (p3 j) (fun e => .inr (Nat.le_trans p2.size e))⟩
      case measure =>
        obtain ⟨q1, -, -⟩ := unhide HQ3
        have := plen_of q1.cells.2.1
        rw [this, unhide HPL]; omega
    · have hltz : ¬ ((ps ++ List.replicate d ((((0, 0, 0, 0) : EdgeV), false) : EdgeV × Bool)).length : Int) < (k : Int) := by omega
      have HE : Hid (d = k - ps.length) := by show d = _; have := unhide hd; omega
      have HH := hide (And.intro h1 (And.intro h2 h3))
      clear hh h1 h2 h3 hlen hlt hm1 hm2
      generalize (ps ++ List.replicate d ((((0, 0, 0, 0) : EdgeV), false) : EdgeV × Bool)).length = L at *
      go_wp2_with fail
      go_end0
      obtain ⟨h1, h2, h3⟩ := unhide HH
      have e := unhide HE
      subst e
      exact ⟨rfl, _, _, _, h1, h2, h3⟩
end

section
open Go.RowKit Go.Maps
/-- Nothing stands at k. -/
theorem takenNoE [Inhabited EntI] {t hp : Nat} {v : Value} {most : Int} {ps : List (EdgeV × Bool)} {ms : List EntI} {n : Nat} {G : Nat → Prop} (k : Int) (w : World) (h : TAtE w t hp v most ps ms n G) (hk : ∀ (i : Nat) a, k = (i : Int) + 1 → ps[i]? ≠ some (a, true)) :
    Calls Tryz.prog 101 #[.pointer (some ⟨t, 0, none⟩), .int .i64 k] w fun e w' => e = .returned (.bool false) ∧ w' = w := by
  by_cases h1 : k < 1 ∨ (ps.length : Int) < k
  · exact takenOutE k w h h1
  · obtain ⟨i, rfl⟩ : ∃ i : Nat, k = (i : Int) + 1 := ⟨(k - 1).toNat, by omega⟩
    obtain ⟨a, b, hi⟩ := at_of_lt (ps := ps) (i := i) (by omega)
    cases b with
    | true => exact absurd hi (hk i a rfl)
    | false => exact takenAtE i w h hi

set_option maxHeartbeats 1000000 in
set_option maxRecDepth 100000 in
theorem freeE [Inhabited EntI] {t hp : Nat} {v : Value} {most : Int} {ps : List (EdgeV × Bool)} {ms : List EntI} {n : Nat} {G : Nat → Prop} (w : World) (h : TAtE w t hp v most ps ms n G) :
    Calls Tryz.prog 77 #[.pointer (some ⟨t, 0, none⟩)] w fun e w' => ∃ r, e = .returned (.int .i64 r) ∧ Hid (FreeIs ps most r ∧ ∃ q, w' = w.drewN q) := by
  obtain ⟨c0, c1, c2, -⟩ := h.cells
  rcases Nat.eq_zero_or_pos ms.length with h0 | h0
  · obtain rfl : ms = [] := List.length_eq_zero_iff.1 h0
    have CP := hide h.on.peekNone
    have HF := hide (frees_none h.fr)
    have hl := h.len
    have ht := h.top
    obtain ⟨a, c, rfl⟩ := h.shape
    have hL : (ps.length : Int) ≤ 65536 := by omega
    by_cases hm : (ps.length : Int) = most
    · have HR : Hid (FreeIs ps most 0) := .inr ⟨unhide HF, .inl ⟨hm, rfl⟩⟩
      subst hm
      generalize ps.length = L at *
      clear h HF hl ht h0
      go_enter Tryz.func77, Tryz.ntmps77
      go_wp2_with fail
      refine (unhide CP).mono ?_
      rintro e w2 ⟨rfl, rfl⟩
      clear CP
      go_wp2_with fail
      go_quiet (fail)
      go_wp2_with fail
      go_ret
      exact ⟨0, rfl, unhide HR, _, rfl⟩
    · have HR : Hid (FreeIs ps most ((ps.length : Int) + 1)) := .inr ⟨unhide HF, .inr ⟨hm, rfl⟩⟩
      have hm2 : ((ps.length : Int) == most) = false := by simpa using hm
      generalize ps.length = L at *
      clear h HF hl ht h0
      go_enter Tryz.func77, Tryz.ntmps77
      go_wp2_with fail
      refine (unhide CP).mono ?_
      rintro e w2 ⟨rfl, rfl⟩
      clear CP
      go_wp2_with fail
      go_quiet (fail)
      go_wp2_with fail
      go_ret
      exact ⟨_, rfl, unhide HR, _, rfl⟩
  · have CP := hide (h.on.peek h0)
    have HF := hide h.fr
    clear h h0
    go_enter Tryz.func77, Tryz.ntmps77
    go_wp2_with fail
    refine (unhide CP).mono ?_
    rintro e w2 ⟨x, hx, rfl, hle, q, rfl⟩
    have HR : Hid (FreeIs ps most x.key) := .inl (frees_first (unhide HF) hx hle)
    clear CP hx hle
    go_wp2_with fail
    go_ret
    exact ⟨_, rfl, unhide HR, _, rfl⟩

/-- An edge's four cells, as a value. -/
theorem load34 (w : World) (g : Nat) (a b c d : Value) (h : w.heap[g]? = some (.cells #[a, b, c, d] 50 (0, 0))) : (loadVar 50 ⟨g, 0, none⟩).run Tryz.prog w = .ok (.agg #[a, b, c, d]) w :=
  run_loadVar_mid (P := Tryz.prog) w g 0 50 [a, b, c, d] _ (fun j v hj => by
    match j with
    | 0 => simp at hj; subst hj; exact (cell_of_row _ _ 0 _ 50 (0, 0) h).trans rfl
    | 1 => simp at hj; subst hj; exact (cell_of_row _ _ 1 _ 50 (0, 0) h).trans rfl
    | 2 => simp at hj; subst hj; exact (cell_of_row _ _ 2 _ 50 (0, 0) h).trans rfl
    | 3 => simp at hj; subst hj; exact (cell_of_row _ _ 3 _ 50 (0, 0) h).trans rfl
    | j + 4 => simp at hj) Tryz.underlying50 rfl (by kernel_rfl)
theorem resE {fn : Func} {p u : Tmp} (h : fn.results = #[.cell p 50, .tmp u]) (tmps : Array Value) (w : World) (g : Nat) (a b c d : Value) (hp : tmps.getD p undef = .pointer (some ⟨g, 0, none⟩)) (hg : w.heap[g]? = some (.cells #[a, b, c, d] 50 (0, 0))) :
    (results fn tmps).run Tryz.prog w = .ok (.tuple #[.agg #[a, b, c, d], tmps.getD u undef]) w := by
  rw [results_cell_tmp h, hp]
  simp only [asAddr, Sem.run_pure, Result.andThen_ok, load34 w g a b c d hg]
/-- The four cells of a result, written. -/
def set4 (w : World) (g : Nat) (a b c d : Value) : World := (((w.setCell ⟨g, 0, none⟩ a).setCell ⟨g, 1, none⟩ b).setCell ⟨g, 2, none⟩ c).setCell ⟨g, 3, none⟩ d
theorem set4_at {w : World} {g : Nat} {x0 x1 x2 x3 : Value} (h : w.heap[g]? = some (.cells #[x0, x1, x2, x3] 50 (0, 0))) (a b c d : Value) : (set4 w g a b c d).heap[g]? = some (.cells #[a, b, c, d] 50 (0, 0)) := by
  have e0 : (w.setCell ⟨g, 0, none⟩ a).heap[g]? = some (.cells #[a, x1, x2, x3] 50 (0, 0)) := by rw [heap_setCell_same _ _ _ _ _ _ h]; rfl
  have e1 : ((w.setCell ⟨g, 0, none⟩ a).setCell ⟨g, 1, none⟩ b).heap[g]? = some (.cells #[a, b, x2, x3] 50 (0, 0)) := by rw [heap_setCell_same _ _ _ _ _ _ e0]; rfl
  have e2 : (((w.setCell ⟨g, 0, none⟩ a).setCell ⟨g, 1, none⟩ b).setCell ⟨g, 2, none⟩ c).heap[g]? = some (.cells #[a, b, c, x3] 50 (0, 0)) := by rw [heap_setCell_same _ _ _ _ _ _ e1]; rfl
  unfold set4
  rw [heap_setCell_same _ _ _ _ _ _ e2]; rfl
theorem set4_below {w0 w : World} {g B : Nat} (h : Below B w0 w) (hg : B ≤ g) (a b c d : Value) : Below B w0 (set4 w g a b c d) :=
  (((h.setCell (p := ⟨g, 0, none⟩) hg a).setCell (p := ⟨g, 1, none⟩) hg b).setCell (p := ⟨g, 2, none⟩) hg c).setCell (p := ⟨g, 3, none⟩) hg d
def o34 : Obj := .cells #[.int .i64 0, .int .i64 0, .int .i64 0, .int .u32 0] 50 (0, 0)

set_option maxHeartbeats 1000000 in
set_option maxRecDepth 100000 in
theorem atNoE [Inhabited EntI] {t hp : Nat} {v : Value} {most : Int} {ps : List (EdgeV × Bool)} {ms : List EntI} {n : Nat} {G : Nat → Prop} (k : Int) (w : World) (h : TAtE w t hp v most ps ms n G) (hk : ∀ (i : Nat) a, k = (i : Int) + 1 → ps[i]? ≠ some (a, true)) :
    Calls Tryz.prog 83 #[.pointer (some ⟨t, 0, none⟩), .int .i64 k] w fun e w' => e = .returned (.tuple #[.agg #[.int .i64 0, .int .i64 0, .int .i64 0, .int .u32 0], .bool false]) ∧ Below w.heap.size w w' := by
  have CT := hide (takenNoE k (w.alloc o34) (h.kept (fun j hj => heap_alloc_old _ _ (h.lt hj))) hk)
  have hg : (w.alloc o34).heap[w.heap.size]? = some o34 := heap_alloc_new _ _
  have HB : Hid (Below w.heap.size w (w.alloc o34)) := (Below.refl _ _).alloc (Nat.le_refl _) _
  have HG := hide hg
  have g0 : (w.alloc o34).cell? ⟨w.heap.size, 0, none⟩ = some (.int .i64 0) := (cell_of_row _ _ 0 _ 50 (0, 0) hg).trans rfl
  have g1 : (w.alloc o34).cell? ⟨w.heap.size, 1, none⟩ = some (.int .i64 0) := (cell_of_row _ _ 1 _ 50 (0, 0) hg).trans rfl
  have g2 : (w.alloc o34).cell? ⟨w.heap.size, 2, none⟩ = some (.int .i64 0) := (cell_of_row _ _ 2 _ 50 (0, 0) hg).trans rfl
  have g3 : (w.alloc o34).cell? ⟨w.heap.size, 3, none⟩ = some (.int .u32 0) := (cell_of_row _ _ 3 _ 50 (0, 0) hg).trans rfl
  have gf : ∀ o, (w.alloc o34).frozen? ⟨w.heap.size, o, none⟩ = false := fun o => frozen_of_row _ _ o _ _ hg
  clear h hk hg
  go_enter Tryz.func83, Tryz.ntmps83
  go_upto_region 1 with fail
  change Code.wp _ _ _ _ (w.alloc o34)
  generalize w.alloc o34 = w1 at *
  generalize hb : w.heap.size = b at *
  go_wp2_with fail
  refine (unhide CT).mono ?_
  rintro e w2 ⟨rfl, rfl⟩
  clear CT
  go_wp2_with fail
  (try simp only [Exit.inBlock, Exit.then])
  change bodyPost _ _ _ _ _ (set4 w2 b _ _ _ _)
  refine bodyPost_ret (resE rfl _ _ b _ _ _ _ rfl (set4_at (unhide HG) _ _ _ _)) rfl ?_
  exact ⟨rfl, by rw [hb]; exact set4_below (unhide HB) (Nat.le_refl _) _ _ _ _⟩

set_option maxHeartbeats 1000000 in
set_option maxRecDepth 100000 in
theorem atYesE [Inhabited EntI] {t hp : Nat} {v : Value} {most : Int} {ps : List (EdgeV × Bool)} {ms : List EntI} {n : Nat} {G : Nat → Prop} {a : EdgeV} (i : Nat) (w : World) (h : TAtE w t hp v most ps ms n G) (hi : ps[i]? = some (a, true)) :
    Calls Tryz.prog 83 #[.pointer (some ⟨t, 0, none⟩), .int .i64 ((i : Int) + 1)] w fun e w' => e = .returned (.tuple #[.agg #[.int .i64 (a).1, .int .i64 (a).2.1, .int .i64 (a).2.2.1, .int .u32 (a).2.2.2], .bool true]) ∧ Below w.heap.size w w' := by
  have h' := h.kept (w' := w.alloc o34) (fun j hj => heap_alloc_old _ _ (h.lt hj))
  have CT := hide (takenAtE i (w.alloc o34) h' hi)
  obtain ⟨-, c1, -, -⟩ := h'.cells
  have hil := lt_of_at hi
  obtain ⟨g, c, rfl, -, -, hc⟩ := h'.some_ (by omega)
  obtain ⟨d1, d2, d3, d4⟩ := (hc i a true hi).1
  have hl := h.len
  have ht := h.top
  generalize ps.length = L at *
  have h3 : (i : Int) < (L : Int) := by omega
  have h4 : (L : Int) ≤ 65536 := by omega
  have hg : (w.alloc o34).heap[w.heap.size]? = some o34 := heap_alloc_new _ _
  have HB : Hid (Below w.heap.size w (w.alloc o34)) := (Below.refl _ _).alloc (Nat.le_refl _) _
  have HG := hide hg
  have g0 : (w.alloc o34).cell? ⟨w.heap.size, 0, none⟩ = some (.int .i64 0) := (cell_of_row _ _ 0 _ 50 (0, 0) hg).trans rfl
  have g1 : (w.alloc o34).cell? ⟨w.heap.size, 1, none⟩ = some (.int .i64 0) := (cell_of_row _ _ 1 _ 50 (0, 0) hg).trans rfl
  have g2 : (w.alloc o34).cell? ⟨w.heap.size, 2, none⟩ = some (.int .i64 0) := (cell_of_row _ _ 2 _ 50 (0, 0) hg).trans rfl
  have g3 : (w.alloc o34).cell? ⟨w.heap.size, 3, none⟩ = some (.int .u32 0) := (cell_of_row _ _ 3 _ 50 (0, 0) hg).trans rfl
  have gf : ∀ o, (w.alloc o34).frozen? ⟨w.heap.size, o, none⟩ = false := fun o => frozen_of_row _ _ o _ _ hg
  clear h h' hc hi hl ht hil hg
  go_enter Tryz.func83, Tryz.ntmps83
  go_upto_region 1 with fail
  change Code.wp _ _ _ _ (w.alloc o34)
  generalize w.alloc o34 = w1 at *
  generalize hb : w.heap.size = b at *
  go_wp2_with fail
  refine (unhide CT).mono ?_
  rintro e w2 ⟨rfl, rfl⟩
  clear CT
  go_wp2_with fail
  (try simp only [Exit.inBlock, Exit.then])
  change bodyPost _ _ _ _ _ (set4 w2 b _ _ _ _)
  refine bodyPost_ret (resE rfl _ _ b _ _ _ _ rfl (set4_at (unhide HG) _ _ _ _)) rfl ?_
  exact ⟨rfl, by rw [hb]; exact set4_below (unhide HB) (Nat.le_refl _) _ _ _ _⟩
end

section
open Go.RowKit Go.Maps
/-- The five cells of the place i of the row g, written. -/
def setP (w : World) (g i : Nat) (x : EdgeV) (b : Bool) : World := ((((w.setCell ⟨g, i * 5, none⟩ (.int .i64 x.1)).setCell ⟨g, i * 5 + 1, none⟩ (.int .i64 x.2.1)).setCell ⟨g, i * 5 + 2, none⟩ (.int .i64 x.2.2.1)).setCell ⟨g, i * 5 + 3, none⟩ (.int .u32 x.2.2.2)).setCell ⟨g, i * 5 + 4, none⟩ (.bool b)

structure TRawE [Inhabited EntI] (w : World) (t hp : Nat) (v : Value) (most : Int) (ps : List (EdgeV × Bool)) (ms : List EntI) (n : Nat) (G : Nat → Prop) : Prop where
  box : w.heap[t]? = some (.cells #[.int .i64 most, v, .pointer (some ⟨hp, 0, none⟩)] 139 (0, 0))
  row : w.ownsRow 0 145 5 v ps.length (encE ps)
  on : OnI w hp G ms n
  nt : ¬ G t
  nv : v.ownBlock ≠ some t
  ng : ∀ b, v.ownBlock = some b → ¬ G b
  len : (ps.length : Int) ≤ most
  top : most ≤ 65536

section
variable [Inhabited EntI] {w w' : World} {t hp : Nat} {v : Value} {most : Int} {ps : List (EdgeV × Bool)} {ms ms' : List EntI} {n n' : Nat} {G G' : Nat → Prop}

theorem TAtE.raw (h : TAtE w t hp v most ps ms n G) : TRawE w t hp v most ps ms n G := ⟨h.box, h.row, h.on, h.nt, h.nv, h.ng, h.len, h.top⟩
theorem TRawE.full (h : TRawE w t hp v most ps ms n G) (hf : Frees ps ms) : TAtE w t hp v most ps ms n G := ⟨h.box, h.row, h.on, hf, h.nt, h.nv, h.ng, h.len, h.top⟩
theorem TRawE.cells (h : TRawE w t hp v most ps ms n G) : w.cell? ⟨t, 0, none⟩ = some (.int .i64 most) ∧ w.cell? ⟨t, 1, none⟩ = some v ∧ w.cell? ⟨t, 2, none⟩ = some (.pointer (some ⟨hp, 0, none⟩)) := by
  refine ⟨?_, ?_, ?_⟩ <;> rw [cell_of_row w t _ _ _ _ h.box] <;> rfl

/-- The heap is turned. -/
theorem TRawE.heap (h : TRawE w t hp v most ps ms n G) (on : OnI w' hp G' ms' n') (ht : Turned G w w') (hG : ∀ j, G' j → G j ∨ w.heap.size ≤ j) : TRawE w' t hp v most ps ms' n' G' ∧ Turned (Feet t v G) w w' ∧ ∀ j, Feet t v G' j → Feet t v G j ∨ w.heap.size ≤ j := by
  have htl := (Array.getElem?_eq_some_iff.1 h.box).1
  refine ⟨⟨(ht.block t htl h.nt).trans h.box, row_kept5 h.row (fun b hb => ht.block b (h.row.lt b hb).2 (h.ng b hb)), on, fun e => ?_, h.nv, fun b hb e => ?_, h.len, h.top⟩, ht.mono (fun k _ hk => .inr (.inr hk)), fun j hj => ?_⟩
  · rcases hG t e with e | e
    · exact h.nt e
    · omega
  · rcases hG b e with e | e
    · exact h.ng b hb e
    · have := (h.row.lt b hb).2; omega
  · rcases hj with hj | hj | hj
    · exact .inl (.inl hj)
    · exact .inl (.inr (.inl hj))
    · exact (hG j hj).imp (fun e => .inr (.inr e)) id

/-- A place is written. -/
theorem TRawE.store {g L c : Nat} (h : TRawE w t hp (.slice (some ⟨g, 0, none⟩) L c) most ps ms n G) (i : Nat) (x : EdgeV) (b : Bool) :
    TRawE (setP w g i x b) t hp (.slice (some ⟨g, 0, none⟩) L c) most (ps.set i (x, b)) ms n G ∧ Turned (Feet t (.slice (some ⟨g, 0, none⟩) L c) G) w (setP w g i x b) := by
  have hgt : t ≠ g := fun e => h.nv (by simp [Value.ownBlock, e])
  have hgG := h.ng g rfl
  have hL : L = ps.length := by
    rcases h.row.2 with ⟨e, -⟩ | ⟨g', cap, cur, e, -⟩
    · cases e
    · cases e; rfl
  subst hL
  have oth : ∀ k, k ≠ g → (setP w g i x b).heap[k]? = w.heap[k]? := fun k hk => by
    unfold setP
    rw [heap_setCell_other _ _ _ _ hk, heap_setCell_other _ _ _ _ hk, heap_setCell_other _ _ _ _ hk, heap_setCell_other _ _ _ _ hk, heap_setCell_other _ _ _ _ hk]
  refine ⟨⟨(oth t hgt).trans h.box, ?_, h.on.kept (fun k hk => oth k (fun e => hgG (by rw [← e]; exact hk))), h.nt, h.nv, h.ng, by simpa using h.len, h.top⟩, ?_⟩
  · rw [encE_set, List.length_set]
    exact (((((h.row.stored _ _).1.stored _ _).1.stored _ _).1.stored _ _).1.stored _ _).1
  · exact ((((turned_setCell _ _ _ (.inr (.inl rfl))).trans (turned_setCell _ _ _ (.inr (.inl rfl)))).trans (turned_setCell _ _ _ (.inr (.inl rfl)))).trans (turned_setCell _ _ _ (.inr (.inl rfl)))).trans (turned_setCell _ _ _ (.inr (.inl rfl)))
end

/-- The places up to k. -/
def groE (ps : List (EdgeV × Bool)) (k : Nat) : List (EdgeV × Bool) := ps ++ List.replicate (k - ps.length) (((0, 0, 0, 0) : EdgeV), false)
theorem groE_at {ps : List (EdgeV × Bool)} {i : Nat} (hk : ∀ a, ps[i]? ≠ some (a, true)) : ∃ a, (groE ps (i + 1))[i]? = some (a, false) := by
  unfold groE
  rcases Nat.lt_or_ge i ps.length with h | h
  · obtain ⟨a, b, e⟩ := at_of_lt h
    rw [List.getElem?_append_left h, e]
    cases b with
    | true => exact absurd e (hk a)
    | false => exact ⟨a, rfl⟩
  · refine ⟨((0, 0, 0, 0) : EdgeV), ?_⟩
    rw [List.getElem?_append_right h, List.getElem?_replicate, if_pos (by omega)]
theorem groE_in {ps : List (EdgeV × Bool)} {k : Nat} (h : k ≤ ps.length) : groE ps k = ps := by
  unfold groE
  rw [show k - ps.length = 0 by omega]; simp
theorem groE_end (ps : List (EdgeV × Bool)) : groE ps (ps.length + 1) = ps ++ [(((0, 0, 0, 0) : EdgeV), false)] := by
  unfold groE
  rw [show ps.length + 1 - ps.length = 1 by omega]; rfl
theorem groE_length (ps : List (EdgeV × Bool)) (k : Nat) : (groE ps k).length = max ps.length k := by
  unfold groE
  simp; omega
end

section
open Go.RowKit Go.Maps
/-- What a call leaves: the table with these places, its blocks old ones of its own or new. -/
def ThenE [Inhabited EntI] (w w' : World) (t hp : Nat) (v : Value) (most : Int) (ps : List (EdgeV × Bool)) (n : Nat) (G : Nat → Prop) : Prop :=
  ∃ v' ms' n' G', n' ≤ n + 65536 ∧ TAtE w' t hp v' most ps ms' n' G' ∧ Turned (Feet t v G) w w' ∧ ∀ j, Feet t v' G' j → Feet t v G j ∨ w.heap.size ≤ j

/-- An edge in a box. -/
def oE (x : EdgeV) : Obj := .cells #[.int .i64 x.1, .int .i64 x.2.1, .int .i64 x.2.2.1, .int .u32 x.2.2.2] 50 (0, 0)
theorem ThenE.boxed [Inhabited EntI] {w w' : World} {t hp : Nat} {v : Value} {most : Int} {ps ps' : List (EdgeV × Bool)} {ms : List EntI} {n n0 : Nat} {G : Nat → Prop} (_ : TAtE w t hp v most ps ms n0 G) (o : Obj) (h : ThenE (w.alloc o) w' t hp v most ps' n G) : ThenE w w' t hp v most ps' n G := by
  obtain ⟨v', ms', n', G', h1, h2, h3, h4⟩ := h
  have hs : (w.alloc o).heap.size = w.heap.size + 1 := by simp
  have hb : Below w.heap.size w (w.alloc o) := (Below.refl _ _).alloc (Nat.le_refl _) _
  refine ⟨v', ms', n', G', h1, h2, ⟨h3.os.trans hb.os, h3.tape.trans hb.tape, h3.output.trans hb.output, Nat.le_trans hb.size h3.size, fun j hj hf => (h3.block j (by omega) hf).trans (hb.block j hj)⟩, fun j hj => (h4 j hj).imp id (fun e => by omega)⟩

set_option maxHeartbeats 1000000 in
set_option maxRecDepth 100000 in
theorem putAtNoE [Inhabited EntI] {t hp : Nat} {v : Value} {most : Int} {ps : List (EdgeV × Bool)} {ms : List EntI} {n : Nat} {G : Nat → Prop} (k : Int) (x : EdgeV) (w : World) (h : TAtE w t hp v most ps ms n G) (hk : k < 1 ∨ most < k ∨ ∃ (i : Nat) (a : EdgeV), k = (i : Int) + 1 ∧ ps[i]? = some (a, true)) :
    Calls Tryz.prog 86 #[.pointer (some ⟨t, 0, none⟩), .int .i64 k, .agg #[.int .i64 (x).1, .int .i64 (x).2.1, .int .i64 (x).2.2.1, .int .u32 (x).2.2.2]] w fun e w' => e = .returned (.bool false) ∧ Below w.heap.size w w' := by
  have h' := h.kept (w' := w.alloc (oE x)) (fun j hj => heap_alloc_old _ _ (h.lt hj))
  obtain ⟨c0, -, -, -⟩ := h'.cells
  have HB : Hid (Below w.heap.size w (w.alloc (oE x))) := (Below.refl _ _).alloc (Nat.le_refl _) _
  have hm := h.top
  have hl := h.len
  by_cases h1 : k < 1
  · clear h h' hk hm hl
    go_enter Tryz.func86, Tryz.ntmps86
    go_upto_region 1 with fail
    change Code.wp _ _ _ _ (w.alloc (oE x))
    generalize w.alloc (oE x) = wb at *
    go_wp2_with fail
    go_ret
    exact ⟨rfl, unhide HB⟩
  · by_cases h2 : most < k
    · clear h h' hk hm hl
      go_enter Tryz.func86, Tryz.ntmps86
      go_upto_region 1 with fail
      change Code.wp _ _ _ _ (w.alloc (oE x))
      generalize w.alloc (oE x) = wb at *
      go_wp2_with fail
      go_ret
      exact ⟨rfl, unhide HB⟩
    · obtain ⟨i, a, rfl, hi⟩ : ∃ (i : Nat) (a : EdgeV), k = (i : Int) + 1 ∧ ps[i]? = some (a, true) := by
        rcases hk with hk | hk | hk
        · exact absurd hk h1
        · exact absurd hk h2
        · exact hk
      have CT := hide (takenAtE i (w.alloc (oE x)) h' hi)
      clear h h' hm hl hi hk
      go_enter Tryz.func86, Tryz.ntmps86
      go_upto_region 1 with fail
      change Code.wp _ _ _ _ (w.alloc (oE x))
      generalize w.alloc (oE x) = wb at *
      go_wp2_with fail
      refine (unhide CT).mono ?_
      rintro e w2 ⟨rfl, rfl⟩
      clear CT
      go_wp2_with fail
      go_ret
      exact ⟨rfl, unhide HB⟩

set_option maxHeartbeats 1000000 in
set_option maxRecDepth 100000 in
theorem putAtYesE [Inhabited EntI] {t hp : Nat} {v : Value} {most : Int} {ps : List (EdgeV × Bool)} {ms : List EntI} {n : Nat} {G : Nat → Prop} (i : Nat) (x : EdgeV) (w : World) (h : TAtE w t hp v most ps ms n G) (hi : (i : Int) < most) (hk : ∀ a, ps[i]? ≠ some (a, true)) (hn : n ≤ 1000000000) :
    Calls Tryz.prog 86 #[.pointer (some ⟨t, 0, none⟩), .int .i64 ((i : Int) + 1), .agg #[.int .i64 (x).1, .int .i64 (x).2.1, .int .i64 (x).2.2.1, .int .u32 (x).2.2.2]] w fun e w' => e = .returned (.bool true) ∧ Hid (ThenE w w' t hp v most ((groE ps (i + 1)).set i (x, true)) n G) := by
  have h' := h.kept (w' := w.alloc (oE x)) (fun j hj => heap_alloc_old _ _ (h.lt hj))
  obtain ⟨c0, -, -, -⟩ := h'.cells
  have HX : Hid (∀ w', ThenE (w.alloc (oE x)) w' t hp v most ((groE ps (i + 1)).set i (x, true)) n G → ThenE w w' t hp v most ((groE ps (i + 1)).set i (x, true)) n G) := fun w' hh => hh.boxed h _
  have HBX : Hid ((w.alloc (oE x)).heap[w.heap.size]? = some (oE x) ∧ ¬ Feet t v G w.heap.size) := ⟨heap_alloc_new _ _, fun e => by have := h.lt e; omega⟩
  have hm := h.top
  have CT := hide (takenNoE ((i : Int) + 1) (w.alloc (oE x)) h' (fun j a e => by
    obtain rfl : j = i := by omega
    exact hk a))
  have CG := hide (growToE (i + 1) (w.alloc (oE x)) h' (by push_cast; omega) hn)
  have HL := hide h.len
  obtain ⟨a, hia⟩ := groE_at hk
  have HIA := hide hia
  have h1 : ¬ (i : Int) + 1 < 1 := by omega
  have h2 : ¬ most < (i : Int) + 1 := by omega
  have HI := hide hi
  have HM := hide hm
  have h6 : (i : Int) < 65536 := by omega
  clear h h' hk hia hi hm
  go_enter Tryz.func86, Tryz.ntmps86
  go_upto_region 1 with fail
  change Code.wp _ _ _ _ (w.alloc (oE x))
  generalize w.alloc (oE x) = wb at *
  generalize w.heap.size = bb at *
  go_wp2_with fail
  refine (unhide CT).mono ?_
  rintro e w1 ⟨rfl, rfl⟩
  clear CT
  go_wp2_with fail
  refine (unhide CG).mono ?_
  rintro e w2 ⟨rfl, h2⟩
  obtain ⟨v1, ms1, G1, t1, T1, S1⟩ := unhide h2
  have t1' : TAtE w2 t hp v1 most (groE ps (i + 1)) ms1 (n + (i + 1 - ps.length)) G1 := t1
  obtain ⟨y, hy, ey⟩ := t1'.fr.all i a (unhide HIA)
  have CD := t1'.on.drop hy (by have := t1'.fr.cnt; have := t1'.len; have := t1'.top; omega)
  rw [ey] at CD
  have HCD := hide CD
  have e2 := t1'.raw.cells.2.2
  have HS := hide (And.intro t1' (And.intro T1 S1))
  clear CG h2 t1 t1' T1 S1 hy ey CD
  go_wp2_with fail
  refine (unhide HCD).mono ?_
  rintro e w3 ⟨rfl, G3, o1, o2, o3⟩
  obtain ⟨t1, T1, S1⟩ := unhide HS
  obtain ⟨r3, T3, S3⟩ := t1.raw.heap o1 o2 o3
  have hlt := lt_of_at (unhide HIA)
  obtain ⟨g, c, rfl, -, -, -⟩ := t1.some_ (by omega)
  have d1 := r3.cells.2.1
  have df : ∀ o, w3.frozen? ⟨g, o, none⟩ = false := fun o => by
    rcases r3.row.2 with ⟨e, -⟩ | ⟨g', cap, cur, e, -, hg, -⟩
    · cases e
    · cases e; exact frozen_of_row w3 g o _ _ hg
  obtain ⟨f1, f2, f3, f4, f5⟩ := encE_at _ i a false (unhide HIA)
  have add : ∀ j, (⟨g, 0, none⟩ : Addr).add j = ⟨g, j, none⟩ := fun j => by unfold Addr.add; split <;> simp_all
  have g1 := r3.row.cells (g := g) rfl _ _ f1
  have g2 := r3.row.cells (g := g) rfl _ _ f2
  have g3 := r3.row.cells (g := g) rfl _ _ f3
  have g4 := r3.row.cells (g := g) rfl _ _ f4
  have g5 := r3.row.cells (g := g) rfl _ _ f5
  rw [add] at g1 g2 g3 g4 g5
  have bx : w3.heap[bb]? = some (oE x) := by
    have l1 := (Array.getElem?_eq_some_iff.1 (unhide HBX).1).1
    have l2 := T1.size
    have e1 := (T1.block bb l1 (unhide HBX).2).trans (unhide HBX).1
    refine (T3.block bb (by omega) (fun e => ?_)).trans e1
    rcases S1 bb e with e | e
    · exact (unhide HBX).2 e
    · omega
  have hgt : ¬ g = t := fun e => r3.nv (by simp [Value.ownBlock, e])
  have hgt2 : ¬ t = g := fun e => hgt e.symm
  have hgb : ¬ g = bb := fun e => by
    have l1 := (Array.getElem?_eq_some_iff.1 (unhide HBX).1).1
    rcases S1 g (.inr (.inl rfl)) with e2 | e2
    · exact (unhide HBX).2 (e ▸ e2)
    · omega
  have hgb2 : ¬ bb = g := fun e => hgb e.symm
  have x0 : w3.cell? ⟨bb, 0, none⟩ = some (.int .i64 x.1) := (cell_of_row _ _ 0 _ 50 (0, 0) bx).trans rfl
  have x1 : w3.cell? ⟨bb, 1, none⟩ = some (.int .i64 x.2.1) := (cell_of_row _ _ 1 _ 50 (0, 0) bx).trans rfl
  have x2 : w3.cell? ⟨bb, 2, none⟩ = some (.int .i64 x.2.2.1) := (cell_of_row _ _ 2 _ 50 (0, 0) bx).trans rfl
  have x3 : w3.cell? ⟨bb, 3, none⟩ = some (.int .u32 x.2.2.2) := (cell_of_row _ _ 3 _ 50 (0, 0) bx).trans rfl
  have HF : Hid (∀ q, ThenE w ((setP (w3.drewN q) g i x true)) t hp v most ((groE ps (i + 1)).set i (x, true)) n G) := fun q => by
    refine unhide HX _ ?_
    replace r3 : TRawE (w3.drewN q) t hp (.slice (some ⟨g, 0, none⟩) (groE ps (i + 1)).length c) most (groE ps (i + 1)) _ _ G3 := ⟨r3.box, row_kept5 r3.row (fun _ _ => rfl), r3.on.kept (fun _ _ => rfl), r3.nt, r3.nv, r3.ng, r3.len, r3.top⟩
    replace T3 : Turned (Feet t (.slice (some ⟨g, 0, none⟩) (groE ps (i + 1)).length c) G1) w2 (w3.drewN q) := by
      have bq := below_drewN (Below.refl w3.heap.size w3) q
      exact T3.then_ (T := fun _ => False) ⟨bq.os, bq.tape, bq.output, bq.size, fun _ _ _ => rfl⟩ (fun _ _ h => h.elim)
    obtain ⟨r4, T4⟩ := r3.store i x true
    refine ⟨_, _, _, _, ?_, r4.full (frees_take t1.fr t1.on.once (unhide HIA) x), ?_, ?_⟩
    · have := unhide HI; have := unhide HM; omega
    · refine T1.then_ (T3.then_ T4 (fun j hj hf => (S3 j hf).elim id (fun e => by omega))) (fun j hj hf => (S1 j hf).elim id (fun e => by omega))
    · intro j hj
      rcases S3 j hj with e | e
      · exact S1 j e
      · exact .inr (Nat.le_trans T1.size e)
  have hltz : (i : Int) < ((groE ps (i + 1)).length : Int) := by omega
  have HL6 : Hid (((groE ps (i + 1)).length : Int) ≤ 65536) := by have := r3.len; have := r3.top; show _ ≤ _; omega
  generalize (groE ps (i + 1)).length = L at *
  clear HCD HS t1 T1 S1 r3 T3 S3 o1 o2 o3 f1 f2 f3 f4 f5 hlt bx HX HBX
  have h0 : (0 : Int) ≤ (i : Int) := by omega
  have hw1 : IntKind.i64.wrap ((i : Int) + 1 - 1) = (i : Int) := by rw [IntKind.wrap_i64]; omega
  have hl6 : (L : Int) ≤ 65536 := unhide HL6
  go_upto_region 5 with fail
  clear add hw1 c0 e2
  clear HL6 HIA HL HI HM
  go_region
  all_goals
    go_wp2_with fail
    go_ret
    exact ⟨rfl, unhide HF 1⟩
end

section
open Go.RowKit Go.Maps
theorem oE_zero : o34 = oE ((0, 0, 0, 0) : EdgeV) := rfl
theorem set4_other {w : World} {g k : Nat} (hk : k ≠ g) (a b c d : Value) : (set4 w g a b c d).heap[k]? = w.heap[k]? := by
  unfold set4
  rw [heap_setCell_other _ _ _ _ hk, heap_setCell_other _ _ _ _ hk, heap_setCell_other _ _ _ _ hk, heap_setCell_other _ _ _ _ hk]
theorem set4_size {w : World} {g : Nat} (a b c d : Value) : (set4 w g a b c d).heap.size = w.heap.size := by simp [set4]
theorem set4_turned {w : World} {g : Nat} (S : Nat → Prop) (hg : S g) (a b c d : Value) : Turned S w (set4 w g a b c d) :=
  (((turned_setCell _ ⟨g, 0, none⟩ _ hg).trans (turned_setCell _ ⟨g, 1, none⟩ _ hg)).trans (turned_setCell _ ⟨g, 2, none⟩ _ hg)).trans (turned_setCell _ ⟨g, 3, none⟩ _ hg)
theorem cells34 {w : World} {g : Nat} {a b c d : Value} (h : w.heap[g]? = some (.cells #[a, b, c, d] 50 (0, 0))) : w.cell? ⟨g, 0, none⟩ = some a ∧ w.cell? ⟨g, 1, none⟩ = some b ∧ w.cell? ⟨g, 2, none⟩ = some c ∧ w.cell? ⟨g, 3, none⟩ = some d ∧ ∀ o, w.frozen? ⟨g, o, none⟩ = false :=
  ⟨(cell_of_row _ _ 0 _ 50 (0, 0) h).trans rfl, (cell_of_row _ _ 1 _ 50 (0, 0) h).trans rfl, (cell_of_row _ _ 2 _ 50 (0, 0) h).trans rfl, (cell_of_row _ _ 3 _ 50 (0, 0) h).trans rfl, fun o => frozen_of_row _ _ o _ _ h⟩

set_option maxHeartbeats 1000000 in
set_option maxRecDepth 100000 in
theorem dropNoE [Inhabited EntI] {t hp : Nat} {v : Value} {most : Int} {ps : List (EdgeV × Bool)} {ms : List EntI} {n : Nat} {G : Nat → Prop} (k : Int) (w : World) (h : TAtE w t hp v most ps ms n G) (hk : ∀ (i : Nat) a, k = (i : Int) + 1 → ps[i]? ≠ some (a, true)) :
    Calls Tryz.prog 72 #[.pointer (some ⟨t, 0, none⟩), .int .i64 k] w fun e w' => e = .returned (.tuple #[(.agg #[.int .i64 0, .int .i64 0, .int .i64 0, .int .u32 0]), .bool false]) ∧ Below w.heap.size w w' := by
  have CT := hide (atNoE k (w.alloc o34) (h.kept (fun j hj => heap_alloc_old _ _ (h.lt hj))) hk)
  have hg : (w.alloc o34).heap[w.heap.size]? = some o34 := heap_alloc_new _ _
  have HB : Hid (Below w.heap.size w (w.alloc o34)) := (Below.refl _ _).alloc (Nat.le_refl _) _
  have HG := hide hg
  have hsz : (w.alloc o34).heap.size = w.heap.size + 1 := by simp
  have HS := hide hsz
  clear h hk hg hsz
  go_enter Tryz.func72, Tryz.ntmps72
  go_upto_region 1 with fail
  change Code.wp _ _ _ _ (w.alloc o34)
  generalize w.alloc o34 = w1 at *
  generalize hb : w.heap.size = b at *
  go_wp2_with fail
  refine (unhide CT).mono ?_
  rintro e w2 ⟨rfl, hb2⟩
  have hg2 : w2.heap[b]? = some o34 := (hb2.block b (by have := unhide HS; omega)).trans (unhide HG)
  have HB2 : Hid (Below b w w2) := (unhide HB).trans (hb2.mono (by have := unhide HS; omega))
  obtain ⟨g0, g1, g2, g3, gf⟩ := cells34 hg2
  have HG2 := hide hg2
  clear CT hb2 hg2 HB HG HS
  go_upto_region 2 with fail
  change Code.wp _ _ _ _ (set4 w2 b (.int .i64 0) (.int .i64 0) (.int .i64 0) (.int .u32 0))
  have hg3 := set4_at (unhide HG2) (.int .i64 0) (.int .i64 0) (.int .i64 0) (.int .u32 0)
  have HB3 := hide (set4_below (unhide HB2) (Nat.le_refl _) (.int .i64 0) (.int .i64 0) (.int .i64 0) (.int .u32 0))
  generalize set4 w2 b (.int .i64 0) (.int .i64 0) (.int .i64 0) (.int .u32 0) = w3 at *
  clear g0 g1 g2 g3 gf
  obtain ⟨g0, g1, g2, g3, gf⟩ := cells34 hg3
  have HG3 := hide hg3
  clear hg3
  go_wp2_with fail
  (try simp only [Exit.inBlock, Exit.then])
  change bodyPost _ _ _ _ _ (set4 w3 b _ _ _ _)
  refine bodyPost_ret (resE rfl _ _ b _ _ _ _ rfl (set4_at (unhide HG3) _ _ _ _)) rfl ?_
  exact ⟨rfl, by rw [hb]; exact set4_below (unhide HB3) (Nat.le_refl _) _ _ _ _⟩

set_option maxHeartbeats 1000000 in
set_option maxRecDepth 100000 in
theorem dropYesE [Inhabited EntI] {t hp : Nat} {v : Value} {most : Int} {ps : List (EdgeV × Bool)} {ms : List EntI} {n : Nat} {G : Nat → Prop} {a : EdgeV} (i : Nat) (w : World) (h : TAtE w t hp v most ps ms n G) (hi : ps[i]? = some (a, true)) (hn : n ≤ 1000000000) :
    Calls Tryz.prog 72 #[.pointer (some ⟨t, 0, none⟩), .int .i64 ((i : Int) + 1)] w fun e w' => e = .returned (.tuple #[.agg #[.int .i64 (a).1, .int .i64 (a).2.1, .int .i64 (a).2.2.1, .int .u32 (a).2.2.2], .bool true]) ∧ Hid (ThenE w w' t hp v most (ps.set i (((0, 0, 0, 0) : EdgeV), false)) n G) := by
  have h' := h.kept (w' := w.alloc o34) (fun j hj => heap_alloc_old _ _ (h.lt hj))
  have CT := hide (atYesE i (w.alloc o34) h' hi)
  have hg : (w.alloc o34).heap[w.heap.size]? = some o34 := heap_alloc_new _ _
  have HB : Hid (Below w.heap.size w (w.alloc o34)) := (Below.refl _ _).alloc (Nat.le_refl _) _
  have HG := hide hg
  have hsz : (w.alloc o34).heap.size = w.heap.size + 1 := by simp
  have HS := hide hsz
  have hbF : Hid (∀ k, Feet t v G k → k < w.heap.size) := fun k hk => h.lt hk
  have H0 := hide h
  have hil := lt_of_at hi
  have hl := h.len
  have ht := h.top
  have HI := hide hi
  have HN := hide hn
  have h3 : Hid ((i : Int) < (ps.length : Int) ∧ (ps.length : Int) ≤ 65536) := ⟨by omega, by omega⟩
  clear h h' hg hsz hi hn hl ht hil
  go_enter Tryz.func72, Tryz.ntmps72
  go_upto_region 1 with fail
  change Code.wp _ _ _ _ (w.alloc o34)
  generalize w.alloc o34 = w1 at *
  generalize hb : w.heap.size = b at *
  go_wp2_with fail
  refine (unhide CT).mono ?_
  rintro e w2 ⟨rfl, hb2⟩
  have hg2 : w2.heap[b]? = some o34 := (hb2.block b (by have := unhide HS; omega)).trans (unhide HG)
  have HB2 : Hid (Below b w w2) := (unhide HB).trans (hb2.mono (by have := unhide HS; omega))
  obtain ⟨g0, g1, g2, g3, gf⟩ := cells34 hg2
  have HG2 := hide hg2
  clear CT hb2 hg2 HB HG HS
  go_upto_region 2 with fail
  change Code.wp _ _ _ _ (set4 w2 b (.int .i64 a.1) (.int .i64 a.2.1) (.int .i64 a.2.2.1) (.int .u32 a.2.2.2))
  have hg3 := set4_at (unhide HG2) (.int .i64 a.1) (.int .i64 a.2.1) (.int .i64 a.2.2.1) (.int .u32 a.2.2.2)
  have HB3 := hide (set4_below (unhide HB2) (Nat.le_refl _) (.int .i64 a.1) (.int .i64 a.2.1) (.int .i64 a.2.2.1) (.int .u32 a.2.2.2))
  generalize set4 w2 b (.int .i64 a.1) (.int .i64 a.2.1) (.int .i64 a.2.2.1) (.int .u32 a.2.2.2) = w3 at *
  clear g0 g1 g2 g3 gf HG2 HB2
  have T3 : TAtE w3 t hp v most ps ms n G := (unhide H0).kept (fun k hk => (unhide HB3).block k (unhide hbF k hk))
  obtain ⟨-, c1, c2, -⟩ := T3.cells
  obtain ⟨g, c, rfl, hgt, df, hc⟩ := T3.some_ (by have := unhide h3; omega)
  obtain ⟨⟨d1, d2, d3, d4⟩, d5⟩ := hc i a true (unhide HI)
  obtain ⟨r1, T1⟩ := T3.raw.store i ((0, 0, 0, 0) : EdgeV) false
  have hgb : g ≠ b := fun e => by have := unhide hbF g (.inr (.inl rfl)); omega
  have hg4 : (setP w3 g i ((0, 0, 0, 0) : EdgeV) false).heap[b]? = some (.cells #[.int .i64 a.1, .int .i64 a.2.1, .int .i64 a.2.2.1, .int .u32 a.2.2.2] 50 (0, 0)) := by
    unfold setP
    rw [heap_setCell_other _ _ _ _ hgb.symm, heap_setCell_other _ _ _ _ hgb.symm, heap_setCell_other _ _ _ _ hgb.symm, heap_setCell_other _ _ _ _ hgb.symm, heap_setCell_other _ _ _ _ hgb.symm]
    exact hg3
  have hs4 : (setP w3 g i ((0, 0, 0, 0) : EdgeV) false).heap.size = w3.heap.size := by simp [setP]
  have CP := hide (r1.on.push ((i : Int) + 1) ((i : Int) + 1) (key_fit i (by have := unhide h3; omega)) (frees_not T3.fr (fun b e => by rw [unhide HI] at e; cases e)) (by have := T3.fr.cnt; have := T3.len; have := T3.top; omega) (by have := unhide HN; omega))
  have e2 := r1.cells.2.2
  have HR1 := hide (And.intro r1 (And.intro T1 (And.intro hg4 hs4)))
  have HT3 := hide T3
  have z3 : (i : Int) < (ps.length : Int) := (unhide h3).1
  have z4 : (ps.length : Int) ≤ 65536 := (unhide h3).2
  have hgt1 : ¬ g = t := hgt
  have gtg : ¬ t = g := fun e => hgt e.symm
  generalize hL : ps.length = L at *
  clear hc T3 r1 T1 hg3 hg4 hs4 h3 hgt
  go_upto_region 4 with fail
  change Code.wp _ _ _ _ (setP w3 g i ((0, 0, 0, 0) : EdgeV) false)
  generalize setP w3 g i ((0, 0, 0, 0) : EdgeV) false = w4 at *
  clear d1 d2 d3 d4 d5 df c1 c2 z3 z4
  go_wp2_with fail
  refine (unhide CP).mono ?_
  rintro e w5 ⟨rfl, G2, o1, o2, o3⟩
  obtain ⟨r1, T1, hg4, hs4⟩ := unhide HR1
  have hbw3 : b < w3.heap.size := by have := (Array.getElem?_eq_some_iff.1 hg4).1; omega
  have hg5 : w5.heap[b]? = some (.cells #[.int .i64 a.1, .int .i64 a.2.1, .int .i64 a.2.2.1, .int .u32 a.2.2.2] 50 (0, 0)) :=
    (o2.block b (by omega) (fun e => by have := unhide hbF b (.inr (.inr e)); omega)).trans hg4
  have HT : Hid (∀ x0 x1 x2 x3, ThenE w (set4 w5 b x0 x1 x2 x3) t hp (.slice (some ⟨g, 0, none⟩) L c) most (ps.set i (((0, 0, 0, 0) : EdgeV), false)) n G) := fun x0 x1 x2 x3 => by
    obtain ⟨r2, T2, S2⟩ := r1.heap o1 o2 o3
    have hbs : Below b w w3 := unhide HB3
    have hs5 := T2.size
    have F2 : ∀ j, Feet t (.slice (some ⟨g, 0, none⟩) L c) G2 j → j ≠ b := fun j hj e => by
      subst e
      rcases S2 _ hj with e | e
      · have := unhide hbF _ e; omega
      · omega
    refine ⟨_, _, n + 1, G2, by omega, (r2.full (frees_free (unhide HT3).fr (unhide HI) _ n)).kept (fun k hk => set4_other (F2 k hk) _ _ _ _), ?_, fun j hj => ?_⟩
    · refine ⟨?_, ?_, ?_, ?_, fun j hj hf => ?_⟩
      · exact ((set4_turned (fun _ => True) trivial _ _ _ _).os.trans T2.os).trans (T1.os.trans hbs.os)
      · exact ((set4_turned (fun _ => True) trivial _ _ _ _).tape.trans T2.tape).trans (T1.tape.trans hbs.tape)
      · exact ((set4_turned (fun _ => True) trivial _ _ _ _).output.trans T2.output).trans (T1.output.trans hbs.output)
      · rw [set4_size]; have := hbs.size; omega
      · rw [hb] at hj
        rw [set4_other (by omega)]
        exact (T2.block j (by omega) hf).trans ((T1.block j (by omega) hf).trans (hbs.block j hj))
    · rcases S2 j hj with e | e
      · exact .inl e
      · exact .inr (by omega)
  obtain ⟨g0, g1, g2, g3, gf⟩ := cells34 hg5
  have HG5 := hide hg5
  clear CP HR1 r1 T1 hg4 hs4 hg5 o1 o2 o3 hbw3 HB3 H0 hbF HT3 e2
  go_wp2_with fail
  (try simp only [Exit.inBlock, Exit.then])
  change bodyPost _ _ _ _ _ (set4 w5 b _ _ _ _)
  refine bodyPost_ret (resE rfl _ _ b _ _ _ _ rfl (set4_at (unhide HG5) _ _ _ _)) rfl ?_
  exact ⟨rfl, unhide HT _ _ _ _⟩

set_option maxHeartbeats 1000000 in
set_option maxRecDepth 100000 in
theorem newE [Inhabited EntI] (w : World) :
    Calls Tryz.prog 51 #[.int .i64 1024] w fun e w' => ∃ t hp G, e = .returned (.pointer (some ⟨t, 0, none⟩)) ∧ Hid (Below w.heap.size w w' ∧ TAtE w' t hp (.slice none 0 0) 1024 [] [] 0 G ∧ ∀ j, Feet t (.slice none 0 0) G j → w.heap.size ≤ j) := by
  have CN := hide (newOnI 80 w less23)
  have HF : Hid (∀ w2 p, Below w.heap.size w w2 ∧ (∃ F, OnI w2 p F [] 0 ∧ ∀ j, F j → w.heap.size ≤ j) → ∃ hp G, Below w.heap.size w (w2.alloc (.cells #[.int .i64 1024, .slice none 0 0, .pointer (some ⟨p, 0, none⟩)] 139)) ∧ TAtE (w2.alloc (.cells #[.int .i64 1024, .slice none 0 0, .pointer (some ⟨p, 0, none⟩)] 139)) w2.heap.size hp (.slice none 0 0) 1024 [] [] 0 G ∧ ∀ j, Feet w2.heap.size (.slice none 0 0) G j → w.heap.size ≤ j) := by
    rintro w2 p ⟨hb, F, h1, h2⟩
    have hb2 : Below w2.heap.size w2 (w2.alloc (.cells #[.int .i64 1024, .slice none 0 0, .pointer (some ⟨p, 0, none⟩)] 139)) := (Below.refl _ _).alloc (Nat.le_refl _) _
    refine ⟨p, F, hb.trans (hb2.mono hb.size), ⟨heap_alloc_new _ _, ⟨rfl, .inl ⟨rfl, rfl⟩⟩, h1.kept (fun k hk => hb2.block k (h1.lt hk)), frees_nil, fun e => ?_, by simp [Value.ownBlock], by simp [Value.ownBlock], by simp, by omega⟩, fun j hj => ?_⟩
    · have := h1.lt e; omega
    · rcases hj with rfl | hj | hj
      · exact hb.size
      · simp [Value.ownBlock] at hj
      · exact h2 j hj
  go_enter Tryz.func51, Tryz.ntmps51
  go_wp2_with fail
  refine (unhide CN).mono ?_
  rintro e w2 ⟨rfl, hb, ho⟩
  have HG := hide (unhide HF w2 _ ⟨hb, ho⟩)
  clear CN HF hb ho
  go_wp2_with fail
  go_ret
  obtain ⟨hp, G, q⟩ := unhide HG
  exact ⟨_, hp, G, rfl, q⟩
end

end Go.Proofs.YtgocbcacfcfblaaGreat
