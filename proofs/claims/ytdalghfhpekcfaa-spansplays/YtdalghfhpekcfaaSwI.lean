/- The play at its switch. -/
import Derived.Test.YtdalghfhpekcfaaStartI
import Derived.BigQuiet
namespace Go.Proofs.Ytdalghfhpekcfaa
open Go.RowKit Go.Shelf

/-- The code from the region n on, as it stands in a row of statements. -/
def atRegion (n : Nat) : Code → Option Code
  | .seq a b => match a with
    | .region id ops d => if id = n then some (.seq (.region id ops d) b) else atRegion n b
    | _ => match atRegion n a with
      | some c => some c
      | none => atRegion n b
  | .cond _ a b => match atRegion n a with
    | some c => some c
    | none => atRegion n b
  | .block _ c => atRegion n c
  | .loop c => atRegion n c
  | .scope c => atRegion n c
  | _ => none

/-- What is known at the switch. -/
structure SwI (w : World) (g5 g6 : Nat) (most : Int) (p : Nat → Nat) (rs : Nat → List (Int × Int)) (v : Nat → Value) (ds : Nat → List Deed) (G : Nat → Option Obj) (W : World) (ob b12 b13 k k' ps pt : Nat) (va va' wa : Option Addr) (nk vc nk' vc' rl wcp : Nat) (kd la ha x y : Int) (sc : Bool) (i : Nat) : Prop where
  mem : MemI w g5 g6 most p rs v ds G W
  fair : Fair most i rs ds
  gob : G ob = some (.cells #[.int .i64 kd, .bool sc, .int .i64 la, .int .i64 ha] 49 (0, 0))
  g12 : G b12 = some (.cells #[.slice va nk vc, .int .i64 most] 62 (0, 0))
  g13 : G b13 = some (.cells #[.slice va' nk' vc', .int .i64 most] 62 (0, 0))
  row : RowG G 47 2 (.slice wa rl wcp) rl (enc .i64 (rs k))
  hk : k < 2
  hk' : k' < 2
  ne : k ≠ k'
  wrap : IntKind.i64.wrap (1 - (k : Int)) = (k' : Int)
  vk : v k = .slice va nk vc
  vk' : v k' = .slice va' nk' vc'
  pk : p k = ps
  pk' : p k' = pt
  xy : ((-9223372036854775808) ≤ x ∧ x ≤ 9223372036854775807) ∧ (-9223372036854775808) ≤ y ∧ y ≤ 9223372036854775807
  len : (rs k).length = rl
  mx : most = 9223372036854775807
  i40 : i < 40

/-- What is known behind it. -/
def AfterI (w : World) (g5 g6 : Nat) (most : Int) (k ps i : Nat) (wq : World) : Prop :=
  ∃ (p : Nat → Nat) (rs : Nat → List (Int × Int)) (v : Nat → Value) (ds : Nat → List Deed) (G : Nat → Option Obj), MemI w g5 g6 most p rs v ds G wq ∧ Fair most (i + 1) rs ds ∧ p k = ps

variable {w : World} {g5 g6 : Nat} {most : Int} {p : Nat → Nat} {rs : Nat → List (Int × Int)} {v : Nat → Value} {ds : Nat → List Deed} {G : Nat → Option Obj} {W : World} {ob b12 b13 k k' ps pt : Nat} {va va' wa : Option Addr} {nk vc nk' vc' rl wcp : Nat} {kd la ha x y : Int} {sc : Bool} {i : Nat}

theorem SwI.q0 (h : SwI w g5 g6 most p rs v ds G W ob b12 b13 k k' ps pt va va' wa nk vc nk' vc' rl wcp kd la ha x y sc i) : W.cell? ⟨ob, 0, none⟩ = some (.int .i64 kd) := (cell_of_row _ _ 0 _ 49 (0, 0) (h.mem.keep _ _ h.gob)).trans rfl
theorem SwI.m12 (h : SwI w g5 g6 most p rs v ds G W ob b12 b13 k k' ps pt va va' wa nk vc nk' vc' rl wcp kd la ha x y sc i) : W.cell? ⟨b12, 0, none⟩ = some (.slice va nk vc) ∧ W.cell? ⟨b12, 1, none⟩ = some (.int .i64 most) := ⟨(cell_of_row _ _ 0 _ 62 (0, 0) (h.mem.keep _ _ h.g12)).trans rfl, (cell_of_row _ _ 1 _ 62 (0, 0) (h.mem.keep _ _ h.g12)).trans rfl⟩
theorem SwI.m13 (h : SwI w g5 g6 most p rs v ds G W ob b12 b13 k k' ps pt va va' wa nk vc nk' vc' rl wcp kd la ha x y sc i) : W.cell? ⟨b13, 0, none⟩ = some (.slice va' nk' vc') ∧ W.cell? ⟨b13, 1, none⟩ = some (.int .i64 most) := ⟨(cell_of_row _ _ 0 _ 62 (0, 0) (h.mem.keep _ _ h.g13)).trans rfl, (cell_of_row _ _ 1 _ 62 (0, 0) (h.mem.keep _ _ h.g13)).trans rfl⟩

theorem SwI.apart (h : SwI w g5 g6 most p rs v ds G W ob b12 b13 k k' ps pt va va' wa nk vc nk' vc' rl wcp kd la ha x y sc i) : pt ≠ ps := by
  have h1 := h.mem.apart
  have key : ∀ a b : Nat, a < 2 → b < 2 → a ≠ b → p b ≠ p a := fun a b ha hb hab => by
    rcases two_of ha with rfl | rfl <;> rcases two_of hb with rfl | rfl
    · exact absurd rfl hab
    · exact fun e => h1 e.symm
    · exact h1
    · exact absurd rfl hab
  rw [← h.pk, ← h.pk']
  exact key _ _ h.hk h.hk' h.ne
theorem put2_put2 {α : Type} (f : Nat → α) (k : Nat) (x y : α) : put2 (put2 f k x) k y = put2 f k y := by
  funext j
  by_cases e : j = k
  · rw [e, put2_self, put2_self]
  · rw [put2_other _ _ e, put2_other _ _ e, put2_other _ _ e]
theorem put2_same {α : Type} (f : Nat → α) (k : Nat) : put2 f k (f k) = f := by
  funext j
  by_cases e : j = k
  · rw [e, put2_self]
  · rw [put2_other _ _ e]

theorem cells_below {W u : World} {b : Nat} {a c : Value} (h : W.cell? ⟨b, 0, none⟩ = some a ∧ W.cell? ⟨b, 1, none⟩ = some c) (hu : Below W.heap.size W u) : u.cell? ⟨b, 0, none⟩ = some a ∧ u.cell? ⟨b, 1, none⟩ = some c :=
  ⟨(hu.cell (World.block_lt_of_cell? _ _ h.1)).trans h.1, (hu.cell (World.block_lt_of_cell? _ _ h.2)).trans h.2⟩

/-- The reference's Runs over memory in which the play stands. -/
theorem MemI.runs {n : Nat} {w : World} {g5 g6 : Nat} {most : Int} {p : Nat → Nat} {rs : Nat → List (Int × Int)} {v : Nat → Value} {ds : Nat → List Deed} {G : Nat → Option Obj} {u : World} (h : MemI w g5 g6 most p rs v ds G u) (hF : Fair most n rs ds) (hn : n ≤ 100) (hm : most = 9223372036854775807) {j : Nat} (hj : j < 2) :
    Calls Try.prog 33 #[.agg #[v j, .int .i64 most]] u fun e w' => ∃ v', e = .returned v' ∧ Hid (NewR u.heap.size u w' v' (rs j)) := by
  obtain ⟨E, hE, hF⟩ := hF
  obtain ⟨f1, f2, f3, f4, f5⟩ := hF j hj
  exact refRuns (v := v j) (ds := ds j) (ss := rs j) most u (h.acts hj) (by omega) (by rw [hm]; omega) f3 f1 f2
end Go.Proofs.Ytdalghfhpekcfaa
