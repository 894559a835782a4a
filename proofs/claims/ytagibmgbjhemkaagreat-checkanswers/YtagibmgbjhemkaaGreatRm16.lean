/- The reference's Decode in the midst: memory, and what is known of the witness whose bytes these are. -/
import Derived.Test.YtagibmgbjhemkaaGreatRb16
import Derived.Test.YtagibmgbjhemkaaGreatRe16
import Derived.Test.YtagibmgbjhemkaaGreatRa16
import Derived.Test.YtagibmgbjhemkaaGreatSt16
namespace Go.Proofs.YtagibmgbjhemkaaGreat.W16
open Go.RowKit Go.Maps
/-- The result's block r0, the witness's b4. -/
structure DS (w0 : World) (r0 b4 : Nat) (w : World) (F T : Int) (u : Nat) (ev : Value) (es : List Int) : Prop where
  lt : r0 = w0.heap.size ∧ b4 = w0.heap.size + 1
  res : w.heap[r0]? = some (oV 0 0 0 (.slice none 0 0))
  box : w.heap[b4]? = some (oV F T u ev)
  row : NRow (w0.heap.size + 2) w ev es
  bel : Below w0.heap.size w0 w
section
variable {w0 w w1 : World} {r0 b4 : Nat} {F T : Int} {u : Nat} {ev : Value} {es : List Int}
end
theorem oV_two0 (w : World) : ((w.alloc (oV 0 0 0 (.slice none 0 0))).alloc (oV 0 0 0 (.slice none 0 0))).heap[w.heap.size]? = some (oV 0 0 0 (.slice none 0 0)) ∧ ((w.alloc (oV 0 0 0 (.slice none 0 0))).alloc (oV 0 0 0 (.slice none 0 0))).heap[w.heap.size + 1]? = some (oV 0 0 0 (.slice none 0 0)) ∧ Below w.heap.size w ((w.alloc (oV 0 0 0 (.slice none 0 0))).alloc (oV 0 0 0 (.slice none 0 0))) := by
  have s1 : (w.alloc (oV 0 0 0 (.slice none 0 0))).heap.size = w.heap.size + 1 := by simp
  have b1 := below_new w (oV 0 0 0 (.slice none 0 0))
  have b2 := below_new (w.alloc (oV 0 0 0 (.slice none 0 0))) (oV 0 0 0 (.slice none 0 0))
  have h := heap_alloc_new (w.alloc (oV 0 0 0 (.slice none 0 0))) (oV 0 0 0 (.slice none 0 0))
  rw [s1] at h
  exact ⟨(b2.block _ (by omega)).trans (heap_alloc_new _ _), h, b1.trans (b2.mono (by omega))⟩
theorem ds_start (w : World) : DS w w.heap.size (w.heap.size + 1) ((w.alloc (oV 0 0 0 (.slice none 0 0))).alloc (oV 0 0 0 (.slice none 0 0))) 0 0 0 (.slice none 0 0) [] := by
  obtain ⟨t1, t2, tb⟩ := oV_two0 w
  exact ⟨⟨rfl, rfl⟩, t1, t2, ⟨rfl, .inl ⟨rfl, rfl⟩⟩, tb⟩
/-- Four bytes, from the last on. -/
def BitR (bs : List Nat) (at_ k n : Nat) : Prop := k ≤ 4 ∧ n < 256 ^ (4 - k) ∧ ∀ u t, bs.drop at_ = bb u ++ t → u < 4294967296 → n = u / 256 ^ k
theorem bitR_start (bs : List Nat) (at_ : Nat) : BitR bs at_ 4 0 := ⟨by omega, by simp, fun u t _ h => by rw [Nat.div_eq_of_lt]; simpa using h⟩
theorem drop_at {bs : List Nat} {i j : Nat} : (bs.drop i)[j]? = bs[i + j]? := List.getElem?_drop
theorem bb_at (u : Nat) {k : Nat} (h : k < 4) (t : List Nat) : (bb u ++ t)[k]? = some (u / 256 ^ k % 256) := by
  have hk : k = 0 ∨ k = 1 ∨ k = 2 ∨ k = 3 := by omega
  rcases hk with rfl | rfl | rfl | rfl <;> simp [bb]
theorem bitR_step {bs : List Nat} {at_ k n x : Nat} (h : BitR bs at_ (k + 1) n) (hx : x < 256) (hb : ∀ y, bs[at_ + k]? = some y → x = y) : BitR bs at_ k (256 * n + x) := by
  obtain ⟨h1, h2, h3⟩ := h
  refine ⟨by omega, ?_, fun u t hd hu => ?_⟩
  · have e : 4 - k = (4 - (k + 1)) + 1 := by omega
    rw [e, Nat.pow_succ]; omega
  · have e1 := h3 u t hd hu
    have e2 := bb_at u (show k < 4 by omega) t
    rw [← hd, drop_at] at e2
    rw [hb _ e2, e1, Nat.pow_succ, ← Nat.div_div_eq_div_mul]
    omega
theorem bitR_none {bs : List Nat} {at_ k n : Nat} (h : BitR bs at_ (k + 1) n) (hb : bs.length ≤ at_ + k) : BitR bs at_ k (256 * n) := by
  have := bitR_step (x := 0) h (by omega) (fun y hy => by rw [List.getElem?_eq_none hb] at hy; cases hy)
  simpa using this
theorem bitR_end {bs : List Nat} {at_ n : Nat} (h : BitR bs at_ 0 n) : n < 4294967296 ∧ ∀ u t, bs.drop at_ = bb u ++ t → u < 4294967296 → n = u ∧ bs.drop (at_ + 4) = t := by
  refine ⟨by simpa using h.2.1, fun u t hd hu => ⟨by simpa using h.2.2 u t hd hu, ?_⟩⟩
  rw [← List.drop_drop, hd]; rfl
/-- What is known behind From, To, Bits, the number of edges, some of them. -/
def K1 (bs : List Nat) (F at_ : Nat) : Prop := ∀ x, Good x → encWt x = bs → (F : Int) = x.1 ∧ bs.drop at_ = nb x.2.1.toNat ++ (bb x.2.2.1 ++ (nb x.2.2.2.length ++ encEs x.2.2.2))
def K2 (bs : List Nat) (F T at_ : Nat) : Prop := ∀ x, Good x → encWt x = bs → ((F : Int) = x.1 ∧ (T : Int) = x.2.1) ∧ bs.drop at_ = bb x.2.2.1 ++ (nb x.2.2.2.length ++ encEs x.2.2.2)
def K3 (bs : List Nat) (F T u at_ : Nat) : Prop := ∀ x, Good x → encWt x = bs → ((F : Int) = x.1 ∧ (T : Int) = x.2.1 ∧ u = x.2.2.1) ∧ bs.drop at_ = nb x.2.2.2.length ++ encEs x.2.2.2
def K4 (bs : List Nat) (F T u n at_ i : Nat) (es : List Int) : Prop := ∀ x, Good x → encWt x = bs → ((F : Int) = x.1 ∧ (T : Int) = x.2.1 ∧ u = x.2.2.1 ∧ n = x.2.2.2.length) ∧ es = x.2.2.2.take i ∧ bs.drop at_ = encEs (x.2.2.2.drop i)
theorem k1_of {bs : List Nat} {n at2 : Nat} (h : NumR bs 1 n at2) : K1 bs n at2 := fun x hx e => by
  obtain ⟨g1, g2, g3, g4, g5⟩ := hx
  obtain ⟨-, -, h3⟩ := h
  have h4 := h3 x.1.toNat _ (by rw [← e]; rfl) (by omega)
  exact ⟨by have := h4.1; omega, h4.2.1⟩
theorem k2_of {bs : List Nat} {F at_ n at2 : Nat} (k : K1 bs F at_) (h : NumR bs at_ n at2) : K2 bs F n at2 := fun x hx e => by
  obtain ⟨k1, k2⟩ := k x hx e
  obtain ⟨g1, g2, g3, g4, g5⟩ := hx
  have h4 := h.2.2 _ _ k2 (by omega)
  exact ⟨⟨k1, by have := h4.1; omega⟩, h4.2.1⟩
theorem k3_of {bs : List Nat} {F T at_ n : Nat} (k : K2 bs F T at_) (h : BitR bs at_ 0 n) : K3 bs F T n (at_ + 4) := fun x hx e => by
  obtain ⟨k1, k2⟩ := k x hx e
  obtain ⟨q1, q2⟩ := (bitR_end h).2 _ _ k2 hx.2.2.2.1
  exact ⟨⟨k1.1, k1.2, q1⟩, q2⟩
theorem k4_of {bs : List Nat} {F T u at_ n at2 : Nat} (k : K3 bs F T u at_) (h : NumR bs at_ n at2) : K4 bs F T u n at2 0 [] := fun x hx e => by
  obtain ⟨⟨k1, k2, k3⟩, k4⟩ := k x hx e
  have h4 := h.2.2 _ _ k4 (by have := hx.1; omega)
  exact ⟨⟨k1, k2, k3, h4.1⟩, by simp, by rw [List.drop_zero]; exact h4.2.1⟩
theorem k4_step {bs : List Nat} {F T u n at_ i m at2 : Nat} {es : List Int} (k : K4 bs F T u n at_ i es) (h : NumR bs at_ m at2) (hi : i < n) : K4 bs F T u n at2 (i + 1) (es ++ [(m : Int)]) := fun x hx e => by
  obtain ⟨⟨k1, k2, k3, k4⟩, k5, k6⟩ := k x hx e
  obtain ⟨y, hy⟩ : ∃ y, x.2.2.2[i]? = some y := ⟨_, List.getElem?_eq_getElem (by omega)⟩
  have hd : x.2.2.2.drop i = y :: x.2.2.2.drop (i + 1) := by
    obtain ⟨h1, h2⟩ := List.getElem?_eq_some_iff.1 hy
    rw [List.drop_eq_getElem_cons h1, h2]
  have hg := hx.2.2.2.2 y (List.mem_of_getElem? hy)
  rw [hd, encEs_cons] at k6
  have h4 := h.2.2 _ _ k6 (by omega)
  refine ⟨⟨k1, k2, k3, k4⟩, ?_, h4.2.1⟩
  rw [k5, List.take_add_one, hy]
  have : (m : Int) = y := by have := h4.1; omega
  rw [this]; rfl
theorem k4_end {bs : List Nat} {F T u n at_ i : Nat} {es : List Int} (k : K4 bs F T u n at_ i es) (h : n ≤ i ∨ 1024 ≤ i ∨ bs.length ≤ at_) : ∀ x, Good x → encWt x = bs → x = (((F : Nat) : Int), ((T : Nat) : Int), u, es) := fun x hx e => by
  obtain ⟨⟨k1, k2, k3, k4⟩, k5, k6⟩ := k x hx e
  have he : es = x.2.2.2 := by
    rcases h with h | h | h
    · rw [k5, List.take_of_length_le (by omega)]
    · rw [k5, List.take_of_length_le (by have := hx.1; omega)]
    · rw [List.drop_eq_nil_of_le h] at k6
      have := encEs_nil k6.symm
      have e2 := List.take_append_drop i x.2.2.2
      rw [this, List.append_nil] at e2
      rw [k5, e2]
  obtain ⟨a, b, c, d⟩ := x
  simp only at k1 k2 k3 he
  rw [k1, k2, k3, he]
/-- What the answer is, in the end. -/
theorem ref_end {bs : List Nat} {y : WtV} (hb : ∀ x ∈ bs, x < 256) (hu : y.2.2.1 < 4294967296) (h : ∀ x, Good x → encWt x = bs → x = y) : (errC y = 0 ∧ encWt y = bs → decV bs = (y, 0)) ∧ (¬ (errC y = 0 ∧ encWt y = bs) → decV bs = ((0, 0, 0, []), 160)) := by
  unfold decV
  constructor
  · rintro ⟨h1, h2⟩
    rw [← h2, dec_enc (good_of h1 hu)]
  · intro hn
    cases hd : dec bs with
    | none => rfl
    | some x =>
      obtain ⟨g1, g2⟩ := dec_some hb hd
      have e := h x g1 g2
      subst e
      exact absurd ⟨errC_good g1, g2⟩ hn
end Go.Proofs.YtagibmgbjhemkaaGreat.W16
