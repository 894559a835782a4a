/- The one table of a law. -/
import Derived.Test.YtkdlhnfagghppaaNextN
namespace Go.Proofs.Ytkdlhnfagghppaa
open Go.RowKit Go.Maps

/-- Its blocks lie from B on; below B all is as in w0. -/
structure LiveN [Inhabited EntI] (B : Nat) (w0 : World) (t : Nat) (most : Int) (ps : List (Int × Bool)) (n : Nat) (w : World) : Prop where
  below : Below B w0 w
  room : B ≤ w.heap.size
  on : ∃ hp v ms G, TAtN w t hp v most ps ms n G ∧ ∀ j, Feet t v G j → B ≤ j

section
variable [Inhabited EntI] {B : Nat} {w0 w w' : World} {t : Nat} {most : Int} {ps ps' : List (Int × Bool)} {n : Nat}

theorem LiveN.step (h : LiveN B w0 t most ps n w) (hb : Below w.heap.size w w') : LiveN B w0 t most ps n w' := by
  obtain ⟨hp, v, ms, G, h1, h2⟩ := h.on
  exact ⟨h.below.trans (hb.mono h.room), Nat.le_trans h.room hb.size, hp, v, ms, G, h1.kept (fun k hk => hb.block k (h1.lt hk)), h2⟩
theorem LiveN.draw (h : LiveN B w0 t most ps n w) (q : Nat) : LiveN B w0 t most ps n (w.drewN q) := h.step (below_drewN (Below.refl _ _) q)
theorem LiveN.later {hp : Nat} {v : Value} {G : Nat → Prop} (h : LiveN B w0 t most ps n w) (hF : ∀ j, Feet t v G j → B ≤ j) (ht : ThenN w w' t hp v most ps' n G) : ∃ n', n' ≤ n + 65536 ∧ LiveN B w0 t most ps' n' w' := by
  obtain ⟨v', ms', n', G', h1, h2, h3, h4⟩ := ht
  exact ⟨n', h1, h.below.trans (h3.below h.room hF), Nat.le_trans h.room h3.size, hp, v', ms', G', h2, fun j hj => (h4 j hj).elim (hF j) (fun e => Nat.le_trans h.room e)⟩
theorem LiveN.fits (h : LiveN B w0 t most ps n w) : (ps.length : Int) ≤ most ∧ most ≤ 65536 := by
  obtain ⟨hp, v, ms, G, h1, -⟩ := h.on
  exact ⟨h1.len, h1.top⟩

theorem newLN (m : Int) (w : World) : Calls Try.prog 7 #[.int .i64 m] w fun e w' => ∃ t, e = .returned (.pointer (some ⟨t, 0, none⟩)) ∧ LiveN w.heap.size w t (clamp m) [] 0 w' :=
  (newN m w).mono fun _ _ ⟨t, hp, G, he, hh⟩ => ⟨t, he, hh.out.1, hh.out.1.size, hp, _, _, G, hh.out.2.1, hh.out.2.2⟩
theorem freeLN (h : LiveN B w0 t most ps n w) : Calls Try.prog 16 #[.pointer (some ⟨t, 0, none⟩)] w fun e w' => ∃ r, e = .returned (.int .i64 r) ∧ FreeIs ps most r ∧ ∃ q, w' = w.drewN q := by
  obtain ⟨hp, v, ms, G, h1, -⟩ := h.on
  exact (freeN w h1).mono fun _ _ ⟨r, he, hh⟩ => ⟨r, he, hh.out.1, hh.out.2⟩
theorem lenLN (h : LiveN B w0 t most ps n w) : Calls Try.prog 11 #[.pointer (some ⟨t, 0, none⟩)] w fun e w' => e = .returned (.int .i64 (tk ps)) ∧ ∃ q, w' = w.drewN q := by
  obtain ⟨hp, v, ms, G, h1, -⟩ := h.on
  exact lenN w h1
theorem atNoLN (k : Int) (h : LiveN B w0 t most ps n w) (hk : ∀ (i : Nat) a, k = (i : Int) + 1 → ps[i]? ≠ some (a, true)) : Calls Try.prog 15 #[.pointer (some ⟨t, 0, none⟩), .int .i64 k] w fun e w' => e = .returned (.tuple #[.int .i64 0, .bool false]) ∧ w' = w := by
  obtain ⟨hp, v, ms, G, h1, -⟩ := h.on
  exact atNoN k w h1 hk
theorem atYesLN {a : Int} (i : Nat) (h : LiveN B w0 t most ps n w) (hi : ps[i]? = some (a, true)) : Calls Try.prog 15 #[.pointer (some ⟨t, 0, none⟩), .int .i64 ((i : Int) + 1)] w fun e w' => e = .returned (.tuple #[.int .i64 (a), .bool true]) ∧ w' = w := by
  obtain ⟨hp, v, ms, G, h1, -⟩ := h.on
  exact atYesN i w h1 hi
theorem nextLN (k : Int) (h : LiveN B w0 t most ps n w) : Calls Try.prog 36 #[.pointer (some ⟨t, 0, none⟩), .int .i64 k] w fun e w' => ∃ r, e = .returned (.int .i64 r) ∧ NextIs ps k r ∧ w' = w := by
  obtain ⟨hp, v, ms, G, h1, -⟩ := h.on
  exact nextN k w h1
theorem putAtNoLN (k : Int) (x : Int) (h : LiveN B w0 t most ps n w) (hk : k < 1 ∨ most < k ∨ ∃ (i : Nat) (a : Int), k = (i : Int) + 1 ∧ ps[i]? = some (a, true)) : Calls Try.prog 17 #[.pointer (some ⟨t, 0, none⟩), .int .i64 k, .int .i64 (x)] w fun e w' => e = .returned (.bool false) ∧ w' = w := by
  obtain ⟨hp, v, ms, G, h1, -⟩ := h.on
  exact putAtNoN k x w h1 hk
theorem putAtYesLN (i : Nat) (x : Int) (h : LiveN B w0 t most ps n w) (hi : (i : Int) < most) (hk : ∀ a, ps[i]? ≠ some (a, true)) (hn : n ≤ 1000000000) : Calls Try.prog 17 #[.pointer (some ⟨t, 0, none⟩), .int .i64 ((i : Int) + 1), .int .i64 (x)] w fun e w' => e = .returned (.bool true) ∧ Hid (∃ n', n' ≤ n + 65536 ∧ LiveN B w0 t most ((groN ps (i + 1)).set i (x, true)) n' w') := by
  obtain ⟨hp, v, ms, G, h1, h2⟩ := h.on
  exact (putAtYesN i x w h1 hi hk hn).mono fun _ _ ⟨he, hh⟩ => ⟨he, h.later h2 hh.out⟩
theorem putNoLN (x : Int) (h : LiveN B w0 t most ps n w) (hf : ∀ r, FreeIs ps most r → r = 0) : Calls Try.prog 13 #[.pointer (some ⟨t, 0, none⟩), .int .i64 (x)] w fun e w' => e = .returned (.tuple #[.int .i64 0, .bool false]) ∧ ∃ q, w' = w.drewN q := by
  obtain ⟨hp, v, ms, G, h1, -⟩ := h.on
  exact putNoN x w h1 hf
theorem putYesLN (i : Nat) (x : Int) (h : LiveN B w0 t most ps n w) (hf : ∀ r, FreeIs ps most r → r = (i : Int) + 1) (hi : (i : Int) < most) (hk : ∀ a, ps[i]? ≠ some (a, true)) (hn : n ≤ 1000000000) : Calls Try.prog 13 #[.pointer (some ⟨t, 0, none⟩), .int .i64 (x)] w fun e w' => e = .returned (.tuple #[.int .i64 ((i : Int) + 1), .bool true]) ∧ Hid (∃ n', n' ≤ n + 65536 ∧ LiveN B w0 t most ((groN ps (i + 1)).set i (x, true)) n' w') := by
  obtain ⟨hp, v, ms, G, h1, h2⟩ := h.on
  exact (putYesN i x w h1 hf hi hk hn).mono fun _ _ ⟨he, hh⟩ => ⟨he, h.later h2 hh.out⟩
theorem dropNoLN (k : Int) (h : LiveN B w0 t most ps n w) (hk : ∀ (i : Nat) a, k = (i : Int) + 1 → ps[i]? ≠ some (a, true)) : Calls Try.prog 14 #[.pointer (some ⟨t, 0, none⟩), .int .i64 k] w fun e w' => e = .returned (.tuple #[.int .i64 0, .bool false]) ∧ w' = w := by
  obtain ⟨hp, v, ms, G, h1, -⟩ := h.on
  exact dropNoN k w h1 hk
theorem dropYesLN {a : Int} (i : Nat) (h : LiveN B w0 t most ps n w) (hi : ps[i]? = some (a, true)) (hn : n ≤ 1000000000) : Calls Try.prog 14 #[.pointer (some ⟨t, 0, none⟩), .int .i64 ((i : Int) + 1)] w fun e w' => e = .returned (.tuple #[.int .i64 (a), .bool true]) ∧ Hid (∃ n', n' ≤ n + 65536 ∧ LiveN B w0 t most (ps.set i ((0 : Int), false)) n' w') := by
  obtain ⟨hp, v, ms, G, h1, h2⟩ := h.on
  exact (dropYesN i w h1 hi hn).mono fun _ _ ⟨he, hh⟩ => ⟨he, h.later h2 hh.out⟩
theorem setNoLN (k : Int) (x : Int) (h : LiveN B w0 t most ps n w) (hk : ∀ (i : Nat) a, k = (i : Int) + 1 → ps[i]? ≠ some (a, true)) : Calls Try.prog 20 #[.pointer (some ⟨t, 0, none⟩), .int .i64 k, .int .i64 x] w fun e w' => e = .returned (.bool false) ∧ w' = w := by
  obtain ⟨hp, v, ms, G, h1, -⟩ := h.on
  exact setNoN k x w h1 hk
theorem setYesLN {a : Int} (i : Nat) (x : Int) (h : LiveN B w0 t most ps n w) (hi : ps[i]? = some (a, true)) : Calls Try.prog 20 #[.pointer (some ⟨t, 0, none⟩), .int .i64 ((i : Int) + 1), .int .i64 x] w fun e w' => e = .returned (.bool true) ∧ Hid (∃ n', n' ≤ n + 65536 ∧ LiveN B w0 t most (ps.set i (x, true)) n' w') := by
  obtain ⟨hp, v, ms, G, h1, h2⟩ := h.on
  exact (setYesN i x w h1 hi).mono fun _ _ ⟨he, hh⟩ => ⟨he, h.later h2 hh.out⟩
end
end Go.Proofs.Ytkdlhnfagghppaa
