/- walk.Follow over a store. -/
import Derived.Test.YtagibmgbjhemkaaGreatWkAlong
import Derived.Test.YtagibmgbjhemkaaGreatWCost
import Derived.Test.YtagibmgbjhemkaaGreatTail
import Derived.BigQuiet
namespace Go.Proofs.YtagibmgbjhemkaaGreat
open Go.RowKit Go.Maps

/-- The cost of these records. -/
def costOf (d : List EdgeV) : Nat := M.foldN (d.map (fun x => x.2.2.2.toNat))
theorem costOf_le (d : List EdgeV) : costOf d ≤ 2139095040 := M.foldN_le _
theorem costOf_snoc (d : List EdgeV) (x : EdgeV) : costOf (d ++ [x]) = M.addC (costOf d) (M.counts x.2.2.2.toNat) := by
  unfold costOf; rw [List.map_append]; exact M.foldN_snoc _ _
def oI8 (n : Int) : Obj := .cells #[.int .i64 n] 3 (0, 0)
def oF8 (n : Nat) : Obj := .cells #[.float .f32 n] 95 (0, 0)
theorem cellI8 {w : World} {b : Nat} {n : Int} (h : w.heap[b]? = some (oI8 n)) : w.cell? ⟨b, 0, none⟩ = some (.int .i64 n) ∧ ∀ o, w.frozen? ⟨b, o, none⟩ = false := ⟨(cell_of_row _ _ 0 _ _ (0, 0) h).trans rfl, fun o => frozen_of_row _ _ o _ _ h⟩
theorem cellF8 {w : World} {b n : Nat} (h : w.heap[b]? = some (oF8 n)) : w.cell? ⟨b, 0, none⟩ = some (.float .f32 n) ∧ ∀ o, w.frozen? ⟨b, o, none⟩ = false := ⟨(cell_of_row _ _ 0 _ _ (0, 0) h).trans rfl, fun o => frozen_of_row _ _ o _ _ h⟩
/-- Follow's picture: the end and the cost, in boxes. -/
def FP (be bc : Nat) (a : Int) (d : List EdgeV) (A : Nat → Prop) (w : World) : Prop :=
  (∀ b, A b ↔ b = be ∨ b = bc) ∧ w.heap[be]? = some (oI8 (endOf a d)) ∧ w.heap[bc]? = some (oF8 (costOf d)) ∧ be ≠ bc
theorem heap_lt {w : World} {b : Nat} {o : Obj} (h : w.heap[b]? = some o) : b < w.heap.size := (Array.getElem?_eq_some_iff.1 h).1
theorem FP.step {be bc : Nat} {a : Int} {d : List EdgeV} {A : Nat → Prop} {w w1 : World} {x : EdgeV} (h : FP be bc a d A w) (hb : Below w.heap.size w w1) :
    FP be bc a (d ++ [x]) A ((w1.setCell ⟨be, 0, none⟩ (.int .i64 x.2.2.1)).setCell ⟨bc, 0, none⟩ (.float .f32 (M.addC (costOf d) (M.counts x.2.2.2.toNat)))) ∧ Turned A w ((w1.setCell ⟨be, 0, none⟩ (.int .i64 x.2.2.1)).setCell ⟨bc, 0, none⟩ (.float .f32 (M.addC (costOf d) (M.counts x.2.2.2.toNat)))) := by
  obtain ⟨h1, h2, h3, h4⟩ := h
  have k2 := (hb.block be (heap_lt h2)).trans h2
  have k3 := (hb.block bc (heap_lt h3)).trans h3
  refine ⟨⟨h1, ?_, ?_, h4⟩, ?_⟩
  · rw [heap_setCell_other _ _ _ _ (show be ≠ bc from h4), heap_setCell_same _ _ _ _ _ _ k2, endOf_snoc]; rfl
  · rw [heap_setCell_same _ _ _ _ _ _ ((heap_setCell_other _ _ _ _ (show bc ≠ be from h4.symm)).trans k3), costOf_snoc]; rfl
  · exact ((turned_of_below hb).trans (turned_setCell _ _ _ ((h1 _).2 (.inl rfl)))).trans (turned_setCell _ _ _ ((h1 _).2 (.inr rfl)))
/-- Weights as a store keeps them. -/
def Wt (x : EdgeV) : Prop := 0 ≤ x.2.2.2 ∧ x.2.2.2 < 2139095040

theorem run_storeF (w : World) (a : Addr) (n : Nat) (m : Mode) : (store a (.float .f32 n) m).run Tryz.prog w = stored Tryz.prog w a (.float .f32 n) m := run_store Tryz.prog w a (.float .f32 n) m rfl
set_option maxHeartbeats 2000000 in
set_option maxRecDepth 100000 in
theorem follow1 {be bc : Nat} {a : Int} {d : List EdgeV} {A : Nat → Prop} {w : World} (x : EdgeV) (e : Int) (h : FP be bc a d A w) (hx : Wt x) :
    Calls Tryz.prog 41 #[.int .i64 e, .agg #[.int .i64 x.1, .int .i64 x.2.1, .int .i64 x.2.2.1, .int .u32 x.2.2.2], .pointer (some ⟨bc, 0, none⟩), .pointer (some ⟨be, 0, none⟩)] w fun r w' => r = .returned (.tuple #[]) ∧ Hid (FP be bc a (d ++ [x]) A w' ∧ Turned A w w') := by
  have hb := below_new w (oE x)
  have HS := hide (h.step (x := x) hb)
  obtain ⟨x0, x1, x2, x3, -⟩ := box_cells (heap_alloc_new w (oE x))
  obtain ⟨-, h2, h3, h4⟩ := h
  obtain ⟨k2, f2⟩ := cellI8 ((hb.block be (heap_lt h2)).trans h2)
  obtain ⟨k3, f3⟩ := cellF8 ((hb.block bc (heap_lt h3)).trans h3)
  have CA : Hid (∀ W, Calls Tryz.prog 42 #[.float .f32 (costOf d), .float .f32 x.2.2.2.toNat] W fun e w' => e = .returned (.float .f32 (M.addC (costOf d) (M.counts x.2.2.2.toNat))) ∧ w' = W) := fun W => fold_step (costOf_le d) (by have := hx.1; have := hx.2; omega) W
  have hx' := run_frombits
  have hsf := run_storeF
  obtain ⟨k5, f5⟩ := cellF8 (w := (w.alloc (oE x)).setCell ⟨be, 0, none⟩ (.int .i64 x.2.2.1)) (b := bc) (n := costOf d) ((heap_setCell_other _ _ _ _ (show bc ≠ be from h4.symm)).trans ((hb.block bc (heap_lt h3)).trans h3))
  have hn1 : ¬ be = bc := h4
  have hn2 : ¬ bc = be := fun e => h4 e.symm
  clear hb h2 h3 hx h4
  generalize M.addC (costOf d) (M.counts x.2.2.2.toNat) = c' at *
  generalize costOf d = c at *
  generalize endOf a d = ae at *
  go_enter Tryz.func41, Tryz.ntmps41
  go_upto_region 1 with fail
  change Code.wp _ _ _ _ (w.alloc (oE x))
  generalize w.alloc (oE x) = w1 at *
  generalize w.heap.size = bx at *
  refine wp_region_noPanic ?_
  refine regionL [7, 8] (fun y => y.cell? ⟨bx, 2, none⟩ = some (.int .i64 x.2.2.1) ∧ y.cell? ⟨bc, 0, none⟩ = some (.float .f32 c) ∧ y.cell? ⟨bx, 3, none⟩ = some (.int .u32 x.2.2.2)) (by kernel_rfl) ⟨x2, k3, x3⟩ (fun hHeld => ?_)
  refine takeL (i := 0) (v := ?t2v0) (some 6) rfl rfl (by kernel_rfl) (by kernel_rfl) (by kernel_rfl) (by kernel_rfl) (by kernel_rfl) (fun _ _ _ h => h) (Or.inl ⟨by rfl, ?t2h0⟩) (by assumption) ?t2r0
  case t2h0 => (intro y hSu; (try dsimp only at hSu); go_simp; first | done | with_reducible rfl)
  (try simp only [Act.put, List.setIfInBounds_toArray, List.set_cons_zero, List.set_cons_succ])
  refine takeL (i := 1) (v := ?t2v1) (some 7) rfl rfl (by kernel_rfl) (by kernel_rfl) (by kernel_rfl) (by kernel_rfl) (by kernel_rfl) (fun _ _ _ h => h) (Or.inl ⟨by rfl, ?t2h1⟩) (by assumption) ?t2r1
  case t2h1 => (intro y hSu; (try dsimp only at hSu); go_simp; first | done | with_reducible rfl)
  (try simp only [Act.put, List.setIfInBounds_toArray, List.set_cons_zero, List.set_cons_succ])
  refine takeL (i := 2) (v := ?t2v2) (some 8) rfl rfl (by kernel_rfl) (by kernel_rfl) (by kernel_rfl) (by kernel_rfl) (by kernel_rfl) (fun _ _ _ h => h) (Or.inl ⟨by rfl, ?t2h2⟩) (by assumption) ?t2r2
  case t2h2 => (intro y hSu; (try dsimp only at hSu); go_simp; first | done | with_reducible rfl)
  (try simp only [Act.put, List.setIfInBounds_toArray, List.set_cons_zero, List.set_cons_succ])
  refine takeL (i := 3) (v := ?t2v3) (some 9) rfl rfl (by kernel_rfl) (by kernel_rfl) (by kernel_rfl) (by kernel_rfl) (by kernel_rfl) (fun _ _ _ h => h) (Or.inl ⟨by rfl, ?t2h3⟩) (by assumption) ?t2r3
  case t2h3 => (intro y hSu; (try dsimp only at hSu); go_simp; first | done | with_reducible rfl)
  (try simp only [Act.put, List.setIfInBounds_toArray, List.set_cons_zero, List.set_cons_succ])
  refine takeL (i := 4) (v := ?t2v4) (some 10) rfl rfl (by kernel_rfl) (by kernel_rfl) (by kernel_rfl) (by kernel_rfl) (by kernel_rfl) (fun _ _ _ h => h) (Or.inl ⟨by rfl, ?t2h4⟩) (by assumption) ?t2r4
  case t2h4 => (intro y hSu; (try dsimp only at hSu); go_simp; first | done | with_reducible rfl)
  (try simp only [Act.put, List.setIfInBounds_toArray, List.set_cons_zero, List.set_cons_succ])
  refine takeL (i := 5) (v := ?t2v5) (some 11) rfl rfl (by kernel_rfl) (by kernel_rfl) (by kernel_rfl) (by kernel_rfl) (by kernel_rfl) (fun _ _ _ h => h) (Or.inl ⟨by rfl, ?t2h5⟩) (by assumption) ?t2r5
  case t2h5 => (intro y hSu; (try dsimp only at hSu); go_simp; first | done | with_reducible rfl)
  (try simp only [Act.put, List.setIfInBounds_toArray, List.set_cons_zero, List.set_cons_succ])
  refine readyL (i := 6) (by kernel_rfl) rfl (fun K hK => ?_)
  go_simp
  refine (unhide CA _).mono ?_
  rintro e w' ⟨rfl, rfl⟩
  (try dsimp only)
  refine hK.out _ _ (fun _ => (And.intro x2 (And.intro k3 x3))) ?_
  clear hK K
  (try simp only [Act.put, List.setIfInBounds_toArray, List.set_cons_zero, List.set_cons_succ])
  have hH4 := (And.intro x2 (And.intro k3 x3))
  refine readyL (i := 7) (by kernel_rfl) rfl (fun K hK => ?_)
  go_simp
  refine hK.out _ _ (fun h => by cases h) ?_
  clear hK K
  (try simp only [Act.put, List.setIfInBounds_toArray, List.set_cons_zero, List.set_cons_succ])
  refine readyL (i := 8) (by kernel_rfl) rfl (fun K hK => ?_)
  go_simp
  refine hK.out _ _ (fun h => by cases h) ?_
  clear hK K
  (try simp only [Act.put, List.setIfInBounds_toArray, List.set_cons_zero, List.set_cons_succ])
  refine doneL (by kernel_rfl) ?_ _
  refine NoPanic.normal ?_
  go_wp2_with fail
  go_end0
  exact ⟨rfl, (unhide HS).1, (unhide HS).2.drewN 1⟩
theorem follow_fn (N be bc : Nat) (a : Int) : StepFn (.func (.func 41) #[] #[.pointer (some ⟨bc, 0, none⟩), .pointer (some ⟨be, 0, none⟩)]) N Wt (FP be bc a) := by
  refine ⟨⟨_, _, rfl, enters_of Tryz.func41 (by kernel_rfl) rfl, fun d x A w _ hx hP => ?_⟩, fun d A w w' hP hk hs => ?_, fun d A w b hP hb => ?_⟩
  · refine (follow1 x x.1 hP hx).mono ?_
    rintro r w' ⟨rfl, hh⟩
    exact ⟨rfl, A, (unhide hh).1, (unhide hh).2, fun b hb => .inl hb⟩
  · obtain ⟨h1, h2, h3, h4⟩ := hP
    exact ⟨h1, (hk be ((h1 be).2 (.inl rfl))).trans h2, (hk bc ((h1 bc).2 (.inr rfl))).trans h3, h4⟩
  · obtain ⟨h1, h2, h3, h4⟩ := hP
    rcases (h1 b).1 hb with rfl | rfl
    · exact heap_lt h2
    · exact heap_lt h3
/-- What Follow answers. -/
def fAns (a : Int) (t : List EdgeV × Option Int) : Value := if t.2 = none then .tuple #[.int .i64 (endOf a t.1), .int .u32 (costOf t.1), .int .i64 0, .int .i64 0] else .tuple #[.int .i64 0, .int .u32 0, .int .i64 t.1.length, .int .i64 (tCode t)]
/-- So many records were read. -/
def Rd [Inhabited EntI] (w : World) (X : Sto) (n : Nat) (w' : World) : Prop := Step w X w' { X with rd := X.rd + (n : Int) }
theorem tCode_ne {ps : List (EdgeV × Bool)} {a : Int} : ∀ {es : List Int}, (trip ps a es).2 ≠ none → (trip ps a es).2 = some 6 ∨ (trip ps a es).2 = some 80 := by
  intro es
  induction es generalizing a with
  | nil => intro h; exact absurd rfl h
  | cons e es ih =>
    intro h
    rw [trip] at h ⊢
    cases hl : lk ps e with
    | none => exact .inl rfl
    | some x =>
      rw [hl] at h
      simp only at h ⊢
      by_cases hx : x.2.1 = a
      · rw [if_pos hx] at h ⊢; exact ih h
      · rw [if_neg hx]; exact .inr rfl

end Go.Proofs.YtagibmgbjhemkaaGreat
