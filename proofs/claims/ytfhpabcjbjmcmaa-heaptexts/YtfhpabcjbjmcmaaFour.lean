/- Entries of four cells (a key, a rank of two numbers, a turn); an order that says nothing. -/
import Derived.Test.YtfhpabcjbjmcmaaBase
namespace Go.Proofs.Ytfhpabcjbjmcmaa
open Go.RowKit Go.Maps

def enc4 {X : Type} (a b c d : X → Value) (es : List X) : List Value := es.flatMap fun e => [a e, b e, c e, d e]

theorem enc4_length {X : Type} (a b c d : X → Value) (es : List X) : (enc4 a b c d es).length = es.length * 4 := by
  induction es with
  | nil => rfl
  | cons r rs ih => simp [enc4] at ih ⊢; omega
theorem enc4_cons {X : Type} (a b c d : X → Value) (x : X) (es : List X) : enc4 a b c d (x :: es) = a x :: b x :: c x :: d x :: enc4 a b c d es := by simp [enc4]
theorem enc4_append {X : Type} (a b c d : X → Value) (x y : List X) : enc4 a b c d (x ++ y) = enc4 a b c d x ++ enc4 a b c d y := by simp [enc4]
theorem enc4_take {X : Type} (a b c d : X → Value) : ∀ (es : List X) (i : Nat), (enc4 a b c d es).take (i * 4) = enc4 a b c d (es.take i)
  | [], i => by simp [enc4]
  | r :: rs, 0 => by simp [enc4]
  | r :: rs, i + 1 => by
    rw [show (i + 1) * 4 = i * 4 + 1 + 1 + 1 + 1 by omega, enc4_cons, List.take_succ_cons, List.take_succ_cons, List.take_succ_cons, List.take_succ_cons, enc4_take a b c d rs i, List.take_succ_cons, enc4_cons]
theorem enc4_at {X : Type} [Inhabited X] (a b c d : X → Value) : ∀ (es : List X) (i : Nat), i < es.length → (enc4 a b c d es)[i * 4]? = some (a (at_ es i)) ∧ (enc4 a b c d es)[i * 4 + 1]? = some (b (at_ es i)) ∧ (enc4 a b c d es)[i * 4 + 2]? = some (c (at_ es i)) ∧ (enc4 a b c d es)[i * 4 + 3]? = some (d (at_ es i))
  | [], i, h => by simp at h
  | r :: rs, 0, _ => by simp [enc4, at_]
  | r :: rs, i + 1, h => by
    have := enc4_at a b c d rs i (by simpa using h)
    rw [show (i + 1) * 4 = i * 4 + 1 + 1 + 1 + 1 by omega, show i * 4 + 1 + 1 + 1 + 1 + 1 = (i * 4 + 1) + 1 + 1 + 1 + 1 by omega, show i * 4 + 1 + 1 + 1 + 1 + 2 = (i * 4 + 2) + 1 + 1 + 1 + 1 by omega, show i * 4 + 1 + 1 + 1 + 1 + 3 = (i * 4 + 3) + 1 + 1 + 1 + 1 by omega, enc4_cons]
    simp only [List.getElem?_cons_succ]
    have e : at_ (r :: rs) (i + 1) = at_ rs i := by simp [at_]
    rw [e]
    exact this
theorem enc4_set {X : Type} (a b c d : X → Value) : ∀ (es : List X) (i : Nat) (x : X), enc4 a b c d (es.set i x) = ((((enc4 a b c d es).set (i * 4) (a x)).set (i * 4 + 1) (b x)).set (i * 4 + 2) (c x)).set (i * 4 + 3) (d x)
  | [], i, x => by simp [enc4]
  | r :: rs, 0, x => by simp [enc4]
  | r :: rs, i + 1, x => by
    rw [List.set_cons_succ, enc4_cons, enc4_set a b c d rs i x, enc4_cons, show (i + 1) * 4 = i * 4 + 1 + 1 + 1 + 1 by omega, show i * 4 + 1 + 1 + 1 + 1 + 1 = (i * 4 + 1) + 1 + 1 + 1 + 1 by omega, show i * 4 + 1 + 1 + 1 + 1 + 2 = (i * 4 + 2) + 1 + 1 + 1 + 1 by omega, show i * 4 + 1 + 1 + 1 + 1 + 3 = (i * 4 + 3) + 1 + 1 + 1 + 1 by omega]
    simp only [List.set_cons_succ]
theorem enc4_one {X : Type} (a b c d : X → Value) (h : ∀ x, (a x).oneCell' = true ∧ (b x).oneCell' = true ∧ (c x).oneCell' = true ∧ (d x).oneCell' = true) (es : List X) : ∀ u ∈ enc4 a b c d es, u.oneCell' = true := by
  intro u hu
  simp only [enc4, List.mem_flatMap, List.mem_cons, List.not_mem_nil, or_false] at hu
  obtain ⟨r, -, rfl | rfl | rfl | rfl⟩ := hu
  · exact (h r).1
  · exact (h r).2.1
  · exact (h r).2.2.1
  · exact (h r).2.2.2

/-- No rank is before another. -/
def g0 (_ : Int × Int) : Int := 0
/-- A function value that answers false whatever it is asked, and makes new memory alone. -/
def LessF (lv : Value) : Prop := ∃ (g : Nat) (cb : Array Value), lv = .func (.func g) #[] cb ∧ (∀ args w, (callFunc g args).run Try.prog w = .ok (.enter g args) w) ∧
  ∀ (x y : Int × Int) (w : World), Calls Try.prog g (#[.agg #[.int .i64 x.1, .int .i64 x.2], .agg #[.int .i64 y.1, .int .i64 y.2]] ++ cb) w fun e w' => e = .returned (.bool false) ∧ Below w.heap.size w w'

set_option maxHeartbeats 400000 in
theorem lessF43 : LessF (.func (.func 43) #[] #[]) := by
  refine ⟨43, #[], rfl, enters_of Try.func43 (by kernel_rfl) rfl, fun x y w => ?_⟩
  show Calls Try.prog 43 #[.agg #[.int .i64 x.1, .int .i64 x.2], .agg #[.int .i64 y.1, .int .i64 y.2]] w _
  have HB : Hid (Below w.heap.size w ((w.alloc (.cells #[.int .i64 x.1, .int .i64 x.2] 42)).alloc (.cells #[.int .i64 y.1, .int .i64 y.2] 42))) := ((Below.refl _ _).alloc (Nat.le_refl _) _).alloc (by simp) _
  go_enter Try.func43, Try.ntmps43
  go_wp2_with fail
  go_ret
  exact ⟨rfl, unhide HB⟩
end Go.Proofs.Ytfhpabcjbjmcmaa
