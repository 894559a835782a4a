/- AddEdge. -/
import Derived.Test.YtagibmgbjhemkaaGreatStIns
namespace Go.Proofs.YtagibmgbjhemkaaGreat
open Go.RowKit Go.Maps

/-- i is the least place that is free. -/
def Least (ps : List (EdgeV × Bool)) (i : Nat) : Prop := (∀ j, j < i → ∃ a, ps[j]? = some (a, true)) ∧ ∀ a, ps[i]? ≠ some (a, true)
theorem Least.one {ps : List (EdgeV × Bool)} {i j : Nat} (h : Least ps i) (k : Least ps j) : i = j := by
  rcases Nat.lt_trichotomy i j with e | e | e
  · obtain ⟨a, ha⟩ := k.1 i e; exact absurd ha (h.2 a)
  · exact e
  · obtain ⟨a, ha⟩ := h.1 j e; exact absurd ha (k.2 a)
theorem free_spec {ps : List (EdgeV × Bool)} {r : Int} (h : FreeIs ps 1024 r) (hl : (ps.length : Int) ≤ 1024) : (∃ i : Nat, i < 1024 ∧ r = (i : Int) + 1 ∧ Least ps i) ∨ (r = 0 ∧ ∀ j, j < 1024 → ∃ a, ps[j]? = some (a, true)) := by
  rcases h with ⟨i, a, rfl, h2, h3⟩ | ⟨hf, ⟨h, rfl⟩ | ⟨h, rfl⟩⟩
  · have := lt_of_at h2
    exact .inl ⟨i, by omega, rfl, h3, fun b e => by rw [h2] at e; cases e⟩
  · exact .inr ⟨rfl, fun j hj => hf j (by omega)⟩
  · exact .inl ⟨ps.length, by omega, rfl, hf, fun b e => by have := lt_of_at e; omega⟩
theorem free_of {ps : List (EdgeV × Bool)} {i : Nat} (hL : Least ps i) (hi : i < 1024) (hl : (ps.length : Int) ≤ 1024) {r : Int} (h : FreeIs ps 1024 r) : r = (i : Int) + 1 := by
  rcases free_spec h hl with ⟨j, -, rfl, hj⟩ | ⟨-, hj⟩
  · rw [hL.one hj]
  · obtain ⟨a, ha⟩ := hj i hi; exact absurd ha (hL.2 a)
theorem free_none {ps : List (EdgeV × Bool)} (hf : ∀ j, j < 1024 → ∃ a, ps[j]? = some (a, true)) (hl : (ps.length : Int) ≤ 1024) {r : Int} (h : FreeIs ps 1024 r) : r = 0 := by
  rcases free_spec h hl with ⟨j, hj, -, hL⟩ | ⟨e, -⟩
  · obtain ⟨a, ha⟩ := hf j hj; exact absurd ha (hL.2 a)
  · exact e

section
variable [Inhabited EntI] {w w' : World} {X : Sto}

theorem StAt.like {W : World} (h : StAt w X) (hl : Like w W) : StAt W X := h.below (hl.below _)
theorem Step.first {W : World} {X' : Sto} (hb : Below w.heap.size w W) (h : Step W X w' X') : Step w X w' X' := ⟨h.1, h.2.1, (Foots.below _ hb).trans h.2.2⟩
theorem Insd.first {W : World} {X' : Sto} {i : Nat} {x : EdgeV} (hb : Below w.heap.size w W) (h : Insd W X i x w' X') : Insd w X i x w' X' := ⟨Step.first hb h.1, h.2⟩

set_option maxHeartbeats 1000000 in
set_option maxRecDepth 100000 in
theorem addENo (u v n : Int) (h : StAt w X) (hu : okN u) (hv : okN v) (hno : X.f u = none ∨ X.f v = none) : Calls Tryz.prog 67 #[.pointer (some ⟨X.s, 0, none⟩), .int .i64 u, .int .i64 v, .int .u32 n] w fun e w' => e = .returned (.tuple #[.int .i64 0, .int .i64 5]) ∧ w' = w := by
  have CA := hide (admitNoS u v n h hu hv hno)
  clear h hu hv hno
  go_enter Tryz.func67, Tryz.ntmps67
  go_wp2_with fail
  refine (unhide CA).mono ?_
  rintro e w1 ⟨rfl, rfl⟩
  clear CA
  go_wp2_with fail
  go_ret2
  exact ⟨rfl, rfl⟩

set_option maxHeartbeats 1000000 in
set_option maxRecDepth 100000 in
theorem addEBad (u v n : Int) (h : StAt w X) (hu : X.f u ≠ none) (hv : X.f v ≠ none) (h0 : 0 ≤ n) (hk : kept n = none) : Calls Tryz.prog 67 #[.pointer (some ⟨X.s, 0, none⟩), .int .i64 u, .int .i64 v, .int .u32 n] w fun e w' => e = .returned (.tuple #[.int .i64 0, .int .i64 7]) ∧ w' = w := by
  have CA := hide (admitS u v n h hu hv h0)
  rw [hk] at CA
  simp only [ansK] at CA
  clear h hu hv h0 hk
  go_enter Tryz.func67, Tryz.ntmps67
  go_wp2_with fail
  refine (unhide CA).mono ?_
  rintro e w1 ⟨rfl, rfl⟩
  clear CA
  go_wp2_with fail
  go_ret2
  exact ⟨rfl, rfl⟩

set_option maxHeartbeats 1000000 in
set_option maxRecDepth 100000 in
theorem addEMany {kb : Int} (u v n : Int) (h : StAt w X) (hu : X.f u ≠ none) (hv : X.f v ≠ none) (h0 : 0 ≤ n) (hk : kept n = some kb) (hf : ∀ j, j < 1024 → ∃ a, X.ps[j]? = some (a, true)) : Calls Tryz.prog 67 #[.pointer (some ⟨X.s, 0, none⟩), .int .i64 u, .int .i64 v, .int .u32 n] w fun e w' => e = .returned (.tuple #[.int .i64 0, .int .i64 8]) ∧ Below w.heap.size w w' := by
  have CA := hide (admitS u v n h hu hv h0)
  rw [hk] at CA
  simp only [ansK] at CA
  have CF := hide (freeS h)
  have HF : Hid (∀ r, FreeIs X.ps 1024 r → r = 0) := fun r hr => free_none hf h.tab.len hr
  have CI : Hid (∀ W, Like w W → Calls Tryz.prog 76 #[.pointer (some ⟨X.s, 0, none⟩), .agg #[.int .i64 0, .int .i64 u, .int .i64 v, .int .u32 kb]] W fun e w' => e = .returned (.bool false) ∧ Below w.heap.size w w') := fun W hl => by
    refine (insertNoS (w := W) (X := X) (0, u, v, kb) (h.like hl) (.inl (by show (0 : Int) < 1; omega))).mono ?_
    rintro e w' ⟨rfl, g⟩
    exact ⟨rfl, (hl.below _).trans (g.mono (by rw [hl.1]; exact Nat.le_refl _))⟩
  generalize X.s = s at *
  clear h hu hv h0 hk hf
  go_enter Tryz.func67, Tryz.ntmps67
  go_wp2_with fail
  refine (unhide CA).mono ?_
  rintro e w1 ⟨rfl, rfl⟩
  clear CA
  go_wp2_with fail
  refine (unhide CF).mono ?_
  rintro e w2 ⟨r, rfl, h2⟩
  obtain ⟨hr, q, rfl⟩ := unhide h2
  obtain rfl := unhide HF r hr
  clear CF HF h2 hr
  go_wp2_with fail
  refine (unhide CI _ (by exact ⟨rfl, rfl, rfl, rfl⟩)).mono ?_
  rintro e w3 ⟨rfl, h3⟩
  have H3 := hide h3
  clear CI h3
  go_wp2_with fail
  go_ret2
  exact ⟨rfl, unhide H3⟩

set_option maxHeartbeats 1000000 in
set_option maxRecDepth 100000 in
theorem addES {kb : Int} (i : Nat) (u v n : Int) (h : StAt w X) (hu : X.f u ≠ none) (hv : X.f v ≠ none) (h0 : 0 ≤ n) (hk : kept n = some kb) (hL : Least X.ps i) (hi : i < 1024) (hn : X.n ≤ 900000000) (hw0 : 0 ≤ X.wr) (hw1 : X.wr ≤ 1000000000) : Calls Tryz.prog 67 #[.pointer (some ⟨X.s, 0, none⟩), .int .i64 u, .int .i64 v, .int .u32 n] w fun e w' => e = .returned (.tuple #[.int .i64 ((i : Int) + 1), .int .i64 0]) ∧ Hid (∃ X', Insd w X i ((i : Int) + 1, u, v, kb) w' X') := by
  have CA := hide (admitS u v n h hu hv h0)
  rw [hk] at CA
  simp only [ansK] at CA
  have CF := hide (freeS h)
  have HF : Hid (∀ r, FreeIs X.ps 1024 r → r = (i : Int) + 1) := fun r hr => free_of hL hi h.tab.len hr
  have CI : Hid (∀ W, Like w W → Calls Tryz.prog 76 #[.pointer (some ⟨X.s, 0, none⟩), .agg #[.int .i64 ((i : Int) + 1), .int .i64 u, .int .i64 v, .int .u32 kb]] W fun e w' => e = .returned (.bool true) ∧ Hid (∃ X', Insd w X i ((i : Int) + 1, u, v, kb) w' X')) := fun W hl => by
    refine (insertS (w := W) (X := X) i u v kb (h.like hl) hi hL.2 hu hv hn hw0 hw1).mono ?_
    rintro e w' ⟨rfl, g⟩
    obtain ⟨X', g'⟩ := unhide g
    exact ⟨rfl, X', g'.first (hl.below _)⟩
  generalize X.s = s at *
  clear h hu hv h0 hk hL hi hn hw0 hw1
  go_enter Tryz.func67, Tryz.ntmps67
  go_wp2_with fail
  refine (unhide CA).mono ?_
  rintro e w1 ⟨rfl, rfl⟩
  clear CA
  go_wp2_with fail
  refine (unhide CF).mono ?_
  rintro e w2 ⟨r, rfl, h2⟩
  obtain ⟨hr, q, rfl⟩ := unhide h2
  obtain rfl := unhide HF r hr
  clear CF HF h2 hr
  go_wp2_with fail
  refine (unhide CI _ (by exact ⟨rfl, rfl, rfl, rfl⟩)).mono ?_
  rintro e w3 ⟨rfl, h3⟩
  clear CI
  go_wp2_with fail
  go_ret2
  exact ⟨rfl, unhide h3⟩
end
end Go.Proofs.YtagibmgbjhemkaaGreat
