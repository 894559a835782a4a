/- Places of five cells: an edge, and whether it is taken. -/
import Derived.Test.YtagibmgbjhemkaaGreatMoreI
import Derived.Test.YtagibmgbjhemkaaGreatFrees
namespace Go.Proofs.YtagibmgbjhemkaaGreat
open Go.RowKit Go.Maps

/-- An edge: its number, where it leaves and enters, its bits. -/
abbrev EdgeV : Type := Int × Int × Int × Int
def encE (ps : List (EdgeV × Bool)) : List Value := ps.flatMap fun p => [.int .i64 p.1.1, .int .i64 p.1.2.1, .int .i64 p.1.2.2.1, .int .u32 p.1.2.2.2, .bool p.2]

theorem encE_length (ps : List (EdgeV × Bool)) : (encE ps).length = ps.length * 5 := by
  induction ps with
  | nil => rfl
  | cons r rs ih => simp [encE] at ih ⊢; omega
theorem encE_append (a b : List (EdgeV × Bool)) : encE (a ++ b) = encE a ++ encE b := by simp [encE]
theorem encE_cons (p : EdgeV × Bool) (b : List (EdgeV × Bool)) : encE (p :: b) = .int .i64 p.1.1 :: .int .i64 p.1.2.1 :: .int .i64 p.1.2.2.1 :: .int .u32 p.1.2.2.2 :: .bool p.2 :: encE b := by simp [encE]
theorem encE_at : ∀ (ps : List (EdgeV × Bool)) (i : Nat) (a : EdgeV) (x : Bool), ps[i]? = some (a, x) → (encE ps)[i * 5]? = some (.int .i64 a.1) ∧ (encE ps)[i * 5 + 1]? = some (.int .i64 a.2.1) ∧ (encE ps)[i * 5 + 2]? = some (.int .i64 a.2.2.1) ∧ (encE ps)[i * 5 + 3]? = some (.int .u32 a.2.2.2) ∧ (encE ps)[i * 5 + 4]? = some (.bool x)
  | [], i, a, x, h => by simp at h
  | p :: ps, 0, a, x, h => by simp at h; subst h; simp [encE]
  | p :: ps, i + 1, a, x, h => by
    have := encE_at ps i a x (by simpa using h)
    rw [show (i + 1) * 5 = i * 5 + 1 + 1 + 1 + 1 + 1 by omega, encE_cons, show i * 5 + 1 + 1 + 1 + 1 + 1 + 1 = i * 5 + 1 + 1 + 1 + 1 + 1 + 1 from rfl]
    refine ⟨?_, ?_, ?_, ?_, ?_⟩
    · simp only [List.getElem?_cons_succ]; exact this.1
    · rw [show i * 5 + 1 + 1 + 1 + 1 + 1 + 1 = (i * 5 + 1) + 1 + 1 + 1 + 1 + 1 by omega]; simp only [List.getElem?_cons_succ]; exact this.2.1
    · rw [show i * 5 + 1 + 1 + 1 + 1 + 1 + 2 = (i * 5 + 2) + 1 + 1 + 1 + 1 + 1 by omega]; simp only [List.getElem?_cons_succ]; exact this.2.2.1
    · rw [show i * 5 + 1 + 1 + 1 + 1 + 1 + 3 = (i * 5 + 3) + 1 + 1 + 1 + 1 + 1 by omega]; simp only [List.getElem?_cons_succ]; exact this.2.2.2.1
    · rw [show i * 5 + 1 + 1 + 1 + 1 + 1 + 4 = (i * 5 + 4) + 1 + 1 + 1 + 1 + 1 by omega]; simp only [List.getElem?_cons_succ]; exact this.2.2.2.2
/-- The five cells of a place, written. -/
def putE (l : List Value) (i : Nat) (a : EdgeV) (x : Bool) : List Value := ((((l.set (i * 5) (.int .i64 a.1)).set (i * 5 + 1) (.int .i64 a.2.1)).set (i * 5 + 2) (.int .i64 a.2.2.1)).set (i * 5 + 3) (.int .u32 a.2.2.2)).set (i * 5 + 4) (.bool x)
theorem encE_set : ∀ (ps : List (EdgeV × Bool)) (i : Nat) (a : EdgeV) (x : Bool), encE (ps.set i (a, x)) = putE (encE ps) i a x
  | [], i, a, x => by simp [encE, putE]
  | p :: ps, 0, a, x => by simp [encE, putE]
  | p :: ps, i + 1, a, x => by
    rw [List.set_cons_succ, encE_cons, encE_set ps i a x, encE_cons, putE, putE, show (i + 1) * 5 = i * 5 + 1 + 1 + 1 + 1 + 1 by omega, show i * 5 + 1 + 1 + 1 + 1 + 1 + 1 = (i * 5 + 1) + 1 + 1 + 1 + 1 + 1 by omega, show i * 5 + 1 + 1 + 1 + 1 + 1 + 2 = (i * 5 + 2) + 1 + 1 + 1 + 1 + 1 by omega, show i * 5 + 1 + 1 + 1 + 1 + 1 + 3 = (i * 5 + 3) + 1 + 1 + 1 + 1 + 1 by omega, show i * 5 + 1 + 1 + 1 + 1 + 1 + 4 = (i * 5 + 4) + 1 + 1 + 1 + 1 + 1 by omega]
    simp only [List.set_cons_succ]
theorem encE_one (ps : List (EdgeV × Bool)) : ∀ u ∈ encE ps, u.oneCell' = true := by
  intro u hu
  simp only [encE, List.mem_flatMap, List.mem_cons, List.not_mem_nil, or_false] at hu
  obtain ⟨r, -, rfl | rfl | rfl | rfl | rfl⟩ := hu <;> rfl

theorem row_kept5 {w w' : World} {e : TypeId} {v : Value} {L : Nat} {xs : List Value} (h : w.ownsRow 0 e 5 v L xs) (hk : ∀ k, v.ownBlock = some k → w'.heap[k]? = w.heap[k]?) : w'.ownsRow 0 e 5 v L xs := by
  refine ⟨h.1, ?_⟩
  rcases h.2 with hn | ⟨g, cap, cur, rfl, hb, hgg, rest⟩
  · exact .inl hn
  · exact .inr ⟨g, cap, cur, rfl, hb, (hk g rfl).trans hgg, rest⟩

/-- A table's blocks. -/
def Feet (t : Nat) (v : Value) (G : Nat → Prop) (k : Nat) : Prop := k = t ∨ v.ownBlock = some k ∨ G k

theorem less_of {g : Nat} (hf : ∀ args w, (callFunc g args).run Tryz.prog w = .ok (.enter g args) w) (h : ∀ (x y : Int) (w : World), Calls Tryz.prog g #[.int .i64 x, .int .i64 y] w fun e w' => e = .returned (.bool (decide (x < y))) ∧ w' = w) : Less (.func (.func g) #[] #[]) (fun x => x) :=
  ⟨g, #[], rfl, hf, h⟩

set_option maxHeartbeats 400000 in
theorem less23 : Less (.func (.func 97) #[] #[]) (fun x => x) := by
  refine less_of (enters_of Tryz.func97 (by kernel_rfl) rfl) (fun x y w => ?_)
  go_enter Tryz.func97, Tryz.ntmps97
  go_wp2
  go_ret
  exact ⟨rfl, rfl⟩

/-- How many places the table at t has. -/
def plen (w : World) (t : Nat) : Nat := match w.cell? ⟨t, 1, none⟩ with
  | some (.slice _ n _) => n
  | _ => 0
theorem plen_of {w : World} {t n c : Nat} {a : Option Addr} (h : w.cell? ⟨t, 1, none⟩ = some (.slice a n c)) : plen w t = n := by unfold plen; rw [h]

theorem key_fit (i : Nat) (h : (i : Int) ≤ 65536) : KeyOkI ((i : Int) + 1) := WalkArith.wf_i64 (by omega)
theorem frees_not {α : Type} {ps : List (α × Bool)} {ms : List EntI} (h : Frees ps ms) {i : Nat} (hi : ∀ a, ps[i]? ≠ some (a, false)) : ∀ x ∈ ms, x.key ≠ (i : Int) + 1 := fun x hx e => by
  obtain ⟨j, a, e2, g⟩ := h.key x hx
  obtain rfl : j = i := by omega
  exact hi a g
end Go.Proofs.YtagibmgbjhemkaaGreat
