/- A table's calls that only read: taken, Free, At. -/
import Derived.Test.YtagibmgbjhemkaaGreatTabE
import Derived.Laws.ResultCell
import Derived.Deep.MidRow
import Derived.Deep.CutRange
namespace Go.Proofs.YtagibmgbjhemkaaGreat
open Go.RowKit Go.Maps

/-- Nothing stands at k. -/
theorem takenNoE [Inhabited EntI] {t hp : Nat} {v : Value} {most : Int} {ps : List (EdgeV × Bool)} {ms : List EntI} {n : Nat} {G : Nat → Prop} (k : Int) (w : World) (h : TAtE w t hp v most ps ms n G) (hk : ∀ (i : Nat) a, k = (i : Int) + 1 → ps[i]? ≠ some (a, true)) :
    Calls Tryz.prog 118 #[.pointer (some ⟨t, 0, none⟩), .int .i64 k] w fun e w' => e = .returned (.bool false) ∧ w' = w := by
  by_cases h1 : k < 1 ∨ (ps.length : Int) < k
  · exact takenOutE k w h h1
  · obtain ⟨i, rfl⟩ : ∃ i : Nat, k = (i : Int) + 1 := ⟨(k - 1).toNat, by omega⟩
    obtain ⟨a, b, hi⟩ := at_of_lt (ps := ps) (i := i) (by omega)
    cases b with
    | true => exact absurd hi (hk i a rfl)
    | false => exact takenAtE i w h hi

set_option maxHeartbeats 1000000 in
set_option maxRecDepth 100000 in
theorem freeE [Inhabited EntI] {t hp : Nat} {v : Value} {most : Int} {ps : List (EdgeV × Bool)} {ms : List EntI} {n : Nat} {G : Nat → Prop} (w : World) (h : TAtE w t hp v most ps ms n G) :
    Calls Tryz.prog 94 #[.pointer (some ⟨t, 0, none⟩)] w fun e w' => ∃ r, e = .returned (.int .i64 r) ∧ Hid (FreeIs ps most r ∧ ∃ q, w' = w.drewN q) := by
  obtain ⟨c0, c1, c2, -⟩ := h.cells
  rcases Nat.eq_zero_or_pos ms.length with h0 | h0
  · obtain rfl : ms = [] := List.length_eq_zero_iff.1 h0
    have CP := hide h.on.peekNone
    have HF := hide (frees_none h.fr)
    have hl := h.len
    have ht := h.top
    obtain ⟨a, c, rfl⟩ := h.shape
    have hL : (ps.length : Int) ≤ 65536 := by omega
    by_cases hm : (ps.length : Int) = most
    · have HR : Hid (FreeIs ps most 0) := .inr ⟨unhide HF, .inl ⟨hm, rfl⟩⟩
      subst hm
      generalize ps.length = L at *
      clear h HF hl ht h0
      go_enter Tryz.func94, Tryz.ntmps94
      go_wp2_with fail
      refine (unhide CP).mono ?_
      rintro e w2 ⟨rfl, rfl⟩
      clear CP
      go_wp2_with fail
      go_quiet (fail)
      go_wp2_with fail
      go_ret
      exact ⟨0, rfl, unhide HR, _, rfl⟩
    · have HR : Hid (FreeIs ps most ((ps.length : Int) + 1)) := .inr ⟨unhide HF, .inr ⟨hm, rfl⟩⟩
      have hm2 : ((ps.length : Int) == most) = false := by simpa using hm
      generalize ps.length = L at *
      clear h HF hl ht h0
      go_enter Tryz.func94, Tryz.ntmps94
      go_wp2_with fail
      refine (unhide CP).mono ?_
      rintro e w2 ⟨rfl, rfl⟩
      clear CP
      go_wp2_with fail
      go_quiet (fail)
      go_wp2_with fail
      go_ret
      exact ⟨_, rfl, unhide HR, _, rfl⟩
  · have CP := hide (h.on.peek h0)
    have HF := hide h.fr
    clear h h0
    go_enter Tryz.func94, Tryz.ntmps94
    go_wp2_with fail
    refine (unhide CP).mono ?_
    rintro e w2 ⟨x, hx, rfl, hle, q, rfl⟩
    have HR : Hid (FreeIs ps most x.key) := .inl (frees_first (unhide HF) hx hle)
    clear CP hx hle
    go_wp2_with fail
    go_ret
    exact ⟨_, rfl, unhide HR, _, rfl⟩

/-- An edge's four cells, as a value. -/
theorem load34 (w : World) (g : Nat) (a b c d : Value) (h : w.heap[g]? = some (.cells #[a, b, c, d] 64 (0, 0))) : (loadVar 64 ⟨g, 0, none⟩).run Tryz.prog w = .ok (.agg #[a, b, c, d]) w :=
  run_loadVar_mid (P := Tryz.prog) w g 0 64 [a, b, c, d] _ (fun j v hj => by
    match j with
    | 0 => simp at hj; subst hj; exact (cell_of_row _ _ 0 _ 64 (0, 0) h).trans rfl
    | 1 => simp at hj; subst hj; exact (cell_of_row _ _ 1 _ 64 (0, 0) h).trans rfl
    | 2 => simp at hj; subst hj; exact (cell_of_row _ _ 2 _ 64 (0, 0) h).trans rfl
    | 3 => simp at hj; subst hj; exact (cell_of_row _ _ 3 _ 64 (0, 0) h).trans rfl
    | j + 4 => simp at hj) Tryz.underlying64 rfl (by kernel_rfl)
theorem resE {fn : Func} {p u : Tmp} (h : fn.results = #[.cell p 64, .tmp u]) (tmps : Array Value) (w : World) (g : Nat) (a b c d : Value) (hp : tmps.getD p undef = .pointer (some ⟨g, 0, none⟩)) (hg : w.heap[g]? = some (.cells #[a, b, c, d] 64 (0, 0))) :
    (results fn tmps).run Tryz.prog w = .ok (.tuple #[.agg #[a, b, c, d], tmps.getD u undef]) w := by
  rw [results_cell_tmp h, hp]
  simp only [asAddr, Sem.run_pure, Result.andThen_ok, load34 w g a b c d hg]
/-- The four cells of a result, written. -/
def set4 (w : World) (g : Nat) (a b c d : Value) : World := (((w.setCell ⟨g, 0, none⟩ a).setCell ⟨g, 1, none⟩ b).setCell ⟨g, 2, none⟩ c).setCell ⟨g, 3, none⟩ d
theorem set4_at {w : World} {g : Nat} {x0 x1 x2 x3 : Value} (h : w.heap[g]? = some (.cells #[x0, x1, x2, x3] 64 (0, 0))) (a b c d : Value) : (set4 w g a b c d).heap[g]? = some (.cells #[a, b, c, d] 64 (0, 0)) := by
  have e0 : (w.setCell ⟨g, 0, none⟩ a).heap[g]? = some (.cells #[a, x1, x2, x3] 64 (0, 0)) := by rw [heap_setCell_same _ _ _ _ _ _ h]; rfl
  have e1 : ((w.setCell ⟨g, 0, none⟩ a).setCell ⟨g, 1, none⟩ b).heap[g]? = some (.cells #[a, b, x2, x3] 64 (0, 0)) := by rw [heap_setCell_same _ _ _ _ _ _ e0]; rfl
  have e2 : (((w.setCell ⟨g, 0, none⟩ a).setCell ⟨g, 1, none⟩ b).setCell ⟨g, 2, none⟩ c).heap[g]? = some (.cells #[a, b, c, x3] 64 (0, 0)) := by rw [heap_setCell_same _ _ _ _ _ _ e1]; rfl
  unfold set4
  rw [heap_setCell_same _ _ _ _ _ _ e2]; rfl
theorem set4_below {w0 w : World} {g B : Nat} (h : Below B w0 w) (hg : B ≤ g) (a b c d : Value) : Below B w0 (set4 w g a b c d) :=
  (((h.setCell (p := ⟨g, 0, none⟩) hg a).setCell (p := ⟨g, 1, none⟩) hg b).setCell (p := ⟨g, 2, none⟩) hg c).setCell (p := ⟨g, 3, none⟩) hg d
def o34 : Obj := .cells #[.int .i64 0, .int .i64 0, .int .i64 0, .int .u32 0] 64 (0, 0)

set_option maxHeartbeats 1000000 in
set_option maxRecDepth 100000 in
theorem atNoE [Inhabited EntI] {t hp : Nat} {v : Value} {most : Int} {ps : List (EdgeV × Bool)} {ms : List EntI} {n : Nat} {G : Nat → Prop} (k : Int) (w : World) (h : TAtE w t hp v most ps ms n G) (hk : ∀ (i : Nat) a, k = (i : Int) + 1 → ps[i]? ≠ some (a, true)) :
    Calls Tryz.prog 100 #[.pointer (some ⟨t, 0, none⟩), .int .i64 k] w fun e w' => e = .returned (.tuple #[.agg #[.int .i64 0, .int .i64 0, .int .i64 0, .int .u32 0], .bool false]) ∧ Below w.heap.size w w' := by
  have CT := hide (takenNoE k (w.alloc o34) (h.kept (fun j hj => heap_alloc_old _ _ (h.lt hj))) hk)
  have hg : (w.alloc o34).heap[w.heap.size]? = some o34 := heap_alloc_new _ _
  have HB : Hid (Below w.heap.size w (w.alloc o34)) := (Below.refl _ _).alloc (Nat.le_refl _) _
  have HG := hide hg
  have g0 : (w.alloc o34).cell? ⟨w.heap.size, 0, none⟩ = some (.int .i64 0) := (cell_of_row _ _ 0 _ 64 (0, 0) hg).trans rfl
  have g1 : (w.alloc o34).cell? ⟨w.heap.size, 1, none⟩ = some (.int .i64 0) := (cell_of_row _ _ 1 _ 64 (0, 0) hg).trans rfl
  have g2 : (w.alloc o34).cell? ⟨w.heap.size, 2, none⟩ = some (.int .i64 0) := (cell_of_row _ _ 2 _ 64 (0, 0) hg).trans rfl
  have g3 : (w.alloc o34).cell? ⟨w.heap.size, 3, none⟩ = some (.int .u32 0) := (cell_of_row _ _ 3 _ 64 (0, 0) hg).trans rfl
  have gf : ∀ o, (w.alloc o34).frozen? ⟨w.heap.size, o, none⟩ = false := fun o => frozen_of_row _ _ o _ _ hg
  clear h hk hg
  go_enter Tryz.func100, Tryz.ntmps100
  go_upto_region 1 with fail
  change Code.wp _ _ _ _ (w.alloc o34)
  generalize w.alloc o34 = w1 at *
  generalize hb : w.heap.size = b at *
  go_wp2_with fail
  refine (unhide CT).mono ?_
  rintro e w2 ⟨rfl, rfl⟩
  clear CT
  go_wp2_with fail
  (try simp only [Exit.inBlock, Exit.then])
  change bodyPost _ _ _ _ _ (set4 w2 b _ _ _ _)
  refine bodyPost_ret (resE rfl _ _ b _ _ _ _ rfl (set4_at (unhide HG) _ _ _ _)) rfl ?_
  exact ⟨rfl, by rw [hb]; exact set4_below (unhide HB) (Nat.le_refl _) _ _ _ _⟩

set_option maxHeartbeats 1000000 in
set_option maxRecDepth 100000 in
theorem atYesE [Inhabited EntI] {t hp : Nat} {v : Value} {most : Int} {ps : List (EdgeV × Bool)} {ms : List EntI} {n : Nat} {G : Nat → Prop} {a : EdgeV} (i : Nat) (w : World) (h : TAtE w t hp v most ps ms n G) (hi : ps[i]? = some (a, true)) :
    Calls Tryz.prog 100 #[.pointer (some ⟨t, 0, none⟩), .int .i64 ((i : Int) + 1)] w fun e w' => e = .returned (.tuple #[.agg #[.int .i64 (a).1, .int .i64 (a).2.1, .int .i64 (a).2.2.1, .int .u32 (a).2.2.2], .bool true]) ∧ Below w.heap.size w w' := by
  have h' := h.kept (w' := w.alloc o34) (fun j hj => heap_alloc_old _ _ (h.lt hj))
  have CT := hide (takenAtE i (w.alloc o34) h' hi)
  obtain ⟨-, c1, -, -⟩ := h'.cells
  have hil := lt_of_at hi
  obtain ⟨g, c, rfl, -, -, hc⟩ := h'.some_ (by omega)
  obtain ⟨d1, d2, d3, d4⟩ := (hc i a true hi).1
  have hl := h.len
  have ht := h.top
  generalize ps.length = L at *
  have h3 : (i : Int) < (L : Int) := by omega
  have h4 : (L : Int) ≤ 65536 := by omega
  have hg : (w.alloc o34).heap[w.heap.size]? = some o34 := heap_alloc_new _ _
  have HB : Hid (Below w.heap.size w (w.alloc o34)) := (Below.refl _ _).alloc (Nat.le_refl _) _
  have HG := hide hg
  have g0 : (w.alloc o34).cell? ⟨w.heap.size, 0, none⟩ = some (.int .i64 0) := (cell_of_row _ _ 0 _ 64 (0, 0) hg).trans rfl
  have g1 : (w.alloc o34).cell? ⟨w.heap.size, 1, none⟩ = some (.int .i64 0) := (cell_of_row _ _ 1 _ 64 (0, 0) hg).trans rfl
  have g2 : (w.alloc o34).cell? ⟨w.heap.size, 2, none⟩ = some (.int .i64 0) := (cell_of_row _ _ 2 _ 64 (0, 0) hg).trans rfl
  have g3 : (w.alloc o34).cell? ⟨w.heap.size, 3, none⟩ = some (.int .u32 0) := (cell_of_row _ _ 3 _ 64 (0, 0) hg).trans rfl
  have gf : ∀ o, (w.alloc o34).frozen? ⟨w.heap.size, o, none⟩ = false := fun o => frozen_of_row _ _ o _ _ hg
  clear h h' hc hi hl ht hil hg
  go_enter Tryz.func100, Tryz.ntmps100
  go_upto_region 1 with fail
  change Code.wp _ _ _ _ (w.alloc o34)
  generalize w.alloc o34 = w1 at *
  generalize hb : w.heap.size = b at *
  go_wp2_with fail
  refine (unhide CT).mono ?_
  rintro e w2 ⟨rfl, rfl⟩
  clear CT
  go_wp2_with fail
  (try simp only [Exit.inBlock, Exit.then])
  change bodyPost _ _ _ _ _ (set4 w2 b _ _ _ _)
  refine bodyPost_ret (resE rfl _ _ b _ _ _ _ rfl (set4_at (unhide HG) _ _ _ _)) rfl ?_
  exact ⟨rfl, by rw [hb]; exact set4_below (unhide HB) (Nat.le_refl _) _ _ _ _⟩
end Go.Proofs.YtagibmgbjhemkaaGreat
