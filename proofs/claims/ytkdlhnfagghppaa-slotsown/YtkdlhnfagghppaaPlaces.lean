/- Places of two cells. -/
import Derived.Test.YtkdlhnfagghppaaMoreI
import Derived.Test.YtkdlhnfagghppaaFrees
namespace Go.Proofs.Ytkdlhnfagghppaa
open Go.RowKit Go.Maps

def encP {α : Type} (f : α → Value) (ps : List (α × Bool)) : List Value := ps.flatMap fun p => [f p.1, .bool p.2]

theorem encP_length {α : Type} (f : α → Value) (ps : List (α × Bool)) : (encP f ps).length = ps.length * 2 := by
  induction ps with
  | nil => rfl
  | cons r rs ih => simp [encP] at ih ⊢; omega
theorem encP_append {α : Type} (f : α → Value) (a b : List (α × Bool)) : encP f (a ++ b) = encP f a ++ encP f b := by simp [encP]
theorem encP_cons {α : Type} (f : α → Value) (p : α × Bool) (b : List (α × Bool)) : encP f (p :: b) = f p.1 :: .bool p.2 :: encP f b := by simp [encP]
theorem encP_at {α : Type} (f : α → Value) : ∀ (ps : List (α × Bool)) (i : Nat) (a : α) (x : Bool), ps[i]? = some (a, x) → (encP f ps)[i * 2]? = some (f a) ∧ (encP f ps)[i * 2 + 1]? = some (.bool x)
  | [], i, a, x, h => by simp at h
  | p :: ps, 0, a, x, h => by simp at h; subst h; simp [encP]
  | p :: ps, i + 1, a, x, h => by
    have := encP_at f ps i a x (by simpa using h)
    rw [show (i + 1) * 2 = i * 2 + 1 + 1 by omega, encP_cons]
    simp only [List.getElem?_cons_succ]
    exact this
theorem encP_set {α : Type} (f : α → Value) : ∀ (ps : List (α × Bool)) (i : Nat) (a : α) (x : Bool), encP f (ps.set i (a, x)) = ((encP f ps).set (i * 2) (f a)).set (i * 2 + 1) (.bool x)
  | [], i, a, x => by simp [encP]
  | p :: ps, 0, a, x => by simp [encP]
  | p :: ps, i + 1, a, x => by
    rw [List.set_cons_succ, encP_cons, encP_set f ps i a x, encP_cons, show (i + 1) * 2 = i * 2 + 1 + 1 by omega, show i * 2 + 1 + 1 + 1 = (i * 2 + 1) + 1 + 1 by omega]
    simp only [List.set_cons_succ]
theorem encP_one {α : Type} (f : α → Value) (h : ∀ x, (f x).oneCell' = true) (ps : List (α × Bool)) : ∀ u ∈ encP f ps, u.oneCell' = true := by
  intro u hu
  simp only [encP, List.mem_flatMap, List.mem_cons, List.not_mem_nil, or_false] at hu
  obtain ⟨r, -, rfl | rfl⟩ := hu
  · exact h _
  · rfl

theorem row_kept2 {w w' : World} {e : TypeId} {v : Value} {L : Nat} {xs : List Value} (h : w.ownsRow 0 e 2 v L xs) (hk : ∀ k, v.ownBlock = some k → w'.heap[k]? = w.heap[k]?) : w'.ownsRow 0 e 2 v L xs := by
  refine ⟨h.1, ?_⟩
  rcases h.2 with hn | ⟨g, cap, cur, rfl, hb, hgg, rest⟩
  · exact .inl hn
  · exact .inr ⟨g, cap, cur, rfl, hb, (hk g rfl).trans hgg, rest⟩

/-- A table's blocks. -/
def Feet (t : Nat) (v : Value) (G : Nat → Prop) (k : Nat) : Prop := k = t ∨ v.ownBlock = some k ∨ G k

/-- So many places. -/
def clamp (m : Int) : Int := min (max m 0) 65536

theorem less_of {g : Nat} (hf : ∀ args w, (callFunc g args).run Try.prog w = .ok (.enter g args) w) (h : ∀ (x y : Int) (w : World), Calls Try.prog g #[.int .i64 x, .int .i64 y] w fun e w' => e = .returned (.bool (decide (x < y))) ∧ w' = w) : Less (.func (.func g) #[] #[]) (fun x => x) :=
  ⟨g, #[], rfl, hf, h⟩

set_option maxHeartbeats 400000 in
theorem less26 : Less (.func (.func 26) #[] #[]) (fun x => x) := by
  refine less_of (enters_of Try.func26 (by kernel_rfl) rfl) (fun x y w => ?_)
  go_enter Try.func26, Try.ntmps26
  go_wp2
  go_ret
  exact ⟨rfl, rfl⟩

/-- How many places the table at t has. -/
def plen (w : World) (t : Nat) : Nat := match w.cell? ⟨t, 1, none⟩ with
  | some (.slice _ n _) => n
  | _ => 0
theorem plen_of {w : World} {t n c : Nat} {a : Option Addr} (h : w.cell? ⟨t, 1, none⟩ = some (.slice a n c)) : plen w t = n := by unfold plen; rw [h]

theorem key_fit (i : Nat) (h : (i : Int) ≤ 65536) : KeyOkI ((i : Int) + 1) := WalkArith.wf_i64 (by omega)
theorem frees_not {α : Type} {ps : List (α × Bool)} {ms : List EntI} (h : Frees ps ms) {i : Nat} (hi : ∀ a, ps[i]? ≠ some (a, false)) : ∀ x ∈ ms, x.key ≠ (i : Int) + 1 := fun x hx e => by
  obtain ⟨j, a, e2, g⟩ := h.key x hx
  obtain rfl : j = i := by omega
  exact hi a g
end Go.Proofs.Ytkdlhnfagghppaa
