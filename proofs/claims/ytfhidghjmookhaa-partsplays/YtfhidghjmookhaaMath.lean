/- Two rising lists are merged from their ends, in the first one's memory. -/
import Derived.Test.YtfhidghjmookhaaFam
namespace Go.Proofs.Ytfhidghjmookhaa

section
variable {K : Type} {lt : K → K → Bool}

/-- In the midst of it: the first n of 'a' and the first j of 'b' are still to be laid, the others lie behind. -/
structure Tail (lt : K → K → Bool) (a b : List K) (n j : Nat) (cs : List K) : Prop where
  hn : n ≤ a.length
  hj : j ≤ b.length
  len : cs.length = a.length + b.length
  head : cs.take n = a.take n
  rise : Rising lt (cs.drop (n + j))
  mem : ∀ k, k ∈ cs.drop (n + j) ↔ k ∈ a.drop n ∨ k ∈ b.drop j
  after : ∀ x ∈ a.drop n, ∀ y ∈ b.take j, lt y x = true
  before : ∀ x ∈ a.take n, ∀ y ∈ b.drop j, lt x y = true

theorem tail_start (a b : List K) : Tail lt a b a.length b.length (a ++ b) :=
  ⟨Nat.le_refl _, Nat.le_refl _, by simp, by simp, by rw [List.drop_of_length_le (by simp)]; exact List.Pairwise.nil, fun k => by rw [List.drop_of_length_le (by simp)]; simp, fun x hx => by simp at hx, fun x _ y hy => by simp at hy⟩

def laid (cs : List K) (at_ j n : Nat) (x : K) : List K := (cs.take (at_ + j + 1) ++ (cs.drop at_).take (n - at_) ++ cs.drop (n + j + 1)).set (at_ + j) x

theorem Tail.step (hl : Lin lt) {a b cs : List K} {n j : Nat} {x : K} (ha : Rising lt a) (hb : Rising lt b) (hd : ∀ k ∈ a, k ∉ b) (h : Tail lt a b n (j + 1) cs) (hx : b.drop j = x :: b.drop (j + 1)) :
    Tail lt a b (cnt lt (a.take n) x) j (laid cs (cnt lt (a.take n) x) j n x) := by
  have hra : Rising lt (a.take n) := ha.sublist (List.take_sublist _ _)
  obtain ⟨c1, c2⟩ := cnt_parts hl x hra
  have hcn : cnt lt (a.take n) x ≤ n := by
    have := cnt_le (lt := lt) (a.take n) x
    simp at this
    omega
  generalize cnt lt (a.take n) x = p at *
  have hn := h.hn
  have hlen := h.len
  have hj := h.hj
  have hM : (cs.drop p).take (n - p) = (a.take n).drop p := by rw [← h.head, List.drop_take]
  have e1 : cs.drop (n + j + 1) = cs.drop (n + (j + 1)) := rfl
  have l1 : (cs.take (p + j)).length = p + j := by rw [List.length_take]; omega
  have hlaid : laid cs p j n x = cs.take (p + j) ++ x :: ((a.take n).drop p ++ cs.drop (n + (j + 1))) := by
    unfold laid
    rw [hM, e1]
    have hc : cs.take (p + j + 1) = cs.take (p + j) ++ [cs[p + j]'(by omega)] := List.take_succ_eq_append_getElem (by omega)
    rw [hc, List.append_assoc, List.append_assoc, List.set_append_right _ _ (by omega), l1, Nat.sub_self]
    rfl
  have hdrop : (laid cs p j n x).drop (p + j) = x :: ((a.take n).drop p ++ cs.drop (n + (j + 1))) := by
    rw [hlaid, List.drop_append_of_le_length (by omega), List.drop_of_length_le (by omega)]; rfl
  have hxb : x ∈ b := by
    have : x ∈ b.drop j := by rw [hx]; exact List.mem_cons_self ..
    exact List.mem_of_mem_drop this
  have hxt : x ∈ b.take (j + 1) := by
    have hjl : j < b.length := by omega
    have hg : b[j] = x := by
      have := List.drop_eq_getElem_cons hjl
      rw [hx] at this
      injection this with t1 _
      exact t1.symm
    rw [List.take_succ_eq_append_getElem hjl, hg]
    exact List.mem_append.2 (.inr (List.mem_singleton.2 rfl))
  have hsplit : ∀ k, k ∈ a.drop p ↔ k ∈ (a.take n).drop p ∨ k ∈ a.drop n := fun k => by
    have : a.drop p = (a.take n).drop p ++ a.drop n := by
      conv => lhs; rw [← List.take_append_drop n a]
      rw [List.drop_append_of_le_length (by rw [List.length_take]; omega)]
    rw [this, List.mem_append]
  have hMx : ∀ k ∈ (a.take n).drop p, lt x k = true := fun k hk => by
    have h1 := c2 k hk
    have hka : k ∈ a := List.mem_of_mem_take (List.mem_of_mem_drop hk)
    rcases hl.tot k x (fun e => hd k hka (e ▸ hxb)) with e | e
    · rw [h1] at e; cases e
    · exact e
  have hbj : ∀ y ∈ b.drop (j + 1), lt x y = true := fun y hy => by
    have h1 : Rising lt (b.drop j) := hb.sublist (List.drop_sublist _ _)
    rw [hx] at h1
    exact (List.pairwise_cons.1 h1).1 y hy
  have hrest : ∀ k ∈ cs.drop (n + (j + 1)), lt x k = true := fun k hk => by
    rcases (h.mem k).1 hk with e | e
    · exact h.after k e x hxt
    · exact hbj k e
  refine ⟨by omega, by omega, ?_, ?_, ?_, fun k => ?_, fun y hy z hz => ?_, fun y hy z hz => ?_⟩
  · rw [hlaid]
    simp only [List.length_append, List.length_cons, List.length_take, List.length_drop]
    omega
  · rw [hlaid, List.take_append_of_le_length (by omega), List.take_take, Nat.min_eq_left (by omega)]
    have := congrArg (List.take p) h.head
    rwa [List.take_take, List.take_take, Nat.min_eq_left hcn] at this
  · rw [hdrop]
    refine List.pairwise_cons.2 ⟨fun k hk => ?_, List.pairwise_append.2 ⟨hra.sublist (List.drop_sublist _ _), h.rise, fun y hy z hz => ?_⟩⟩
    · rcases List.mem_append.1 hk with e | e
      · exact hMx k e
      · exact hrest k e
    · have hyt : y ∈ a.take n := List.mem_of_mem_drop hy
      rcases (h.mem z).1 hz with e | e
      · have hr2 := ha
        rw [← List.take_append_drop n a] at hr2
        exact (List.pairwise_append.1 hr2).2.2 y hyt z e
      · exact h.before y hyt z e
  · rw [hdrop, List.mem_cons, List.mem_append, h.mem, hsplit, hx, List.mem_cons]
    constructor
    · rintro (e | e | e | e)
      · exact .inr (.inl e)
      · exact .inl (.inl e)
      · exact .inl (.inr e)
      · exact .inr (.inr e)
    · rintro ((e | e) | e | e)
      · exact .inr (.inl e)
      · exact .inr (.inr (.inl e))
      · exact .inl e
      · exact .inr (.inr (.inr e))
  · have hzx : lt z x = true := by
      have hr2 := hb
      rw [← List.take_append_drop j b, hx] at hr2
      exact (List.pairwise_append.1 hr2).2.2 z hz x (List.mem_cons_self ..)
    rcases (hsplit y).1 hy with e | e
    · exact hl.trans _ _ _ hzx (hMx y e)
    · exact hl.trans _ _ _ hzx (h.after y e x hxt)
  · rw [hx] at hz
    have hyp : y ∈ (a.take n).take p := by rw [List.take_take, Nat.min_eq_left hcn]; exact hy
    rcases List.mem_cons.1 hz with rfl | hz
    · exact c1 y hyp
    · exact h.before y (List.mem_of_mem_take hyp) z hz

theorem Tail.done {a b cs : List K} {n : Nat} (ha : Rising lt a) (h : Tail lt a b n 0 cs) : Rising lt cs ∧ ∀ k, k ∈ cs ↔ k ∈ a ∨ k ∈ b := by
  have hr := h.rise
  have hm := h.mem
  have hb := h.before
  rw [Nat.add_zero] at hr hm
  rw [List.drop_zero] at hm hb
  have e : cs = a.take n ++ cs.drop n := by rw [← h.head, List.take_append_drop]
  refine ⟨?_, fun k => ?_⟩
  · rw [e]
    refine List.pairwise_append.2 ⟨ha.sublist (List.take_sublist _ _), hr, fun y hy z hz => ?_⟩
    rcases (hm z).1 hz with g | g
    · have hr2 := ha
      rw [← List.take_append_drop n a] at hr2
      exact (List.pairwise_append.1 hr2).2.2 y hy z g
    · exact hb y hy z g
  · rw [e, List.mem_append, hm]
    have : k ∈ a ↔ k ∈ a.take n ∨ k ∈ a.drop n := by
      conv => lhs; rw [← List.take_append_drop n a]
      exact List.mem_append
    rw [this]
    constructor
    · rintro (g | g | g)
      · exact .inl (.inl g)
      · exact .inl (.inr g)
      · exact .inr g
    · rintro ((g | g) | g)
      · exact .inl g
      · exact .inr (.inl g)
      · exact .inr (.inr g)
end
end Go.Proofs.Ytfhidghjmookhaa
