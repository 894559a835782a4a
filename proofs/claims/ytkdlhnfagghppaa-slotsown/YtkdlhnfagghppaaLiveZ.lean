/- The one table of a law. -/
import Derived.Test.YtkdlhnfagghppaaNextZ
namespace Go.Proofs.Ytkdlhnfagghppaa
open Go.RowKit Go.Maps

/-- Its blocks lie from B on; below B all is as in w0. -/
structure LiveZ [Inhabited EntI] (B : Nat) (w0 : World) (t : Nat) (most : Int) (ps : List (ByteArray × Bool)) (n : Nat) (w : World) : Prop where
  below : Below B w0 w
  room : B ≤ w.heap.size
  on : ∃ hp v ms G, TAtZ w t hp v most ps ms n G ∧ ∀ j, Feet t v G j → B ≤ j

section
variable [Inhabited EntI] {B : Nat} {w0 w w' : World} {t : Nat} {most : Int} {ps ps' : List (ByteArray × Bool)} {n : Nat}

theorem LiveZ.step (h : LiveZ B w0 t most ps n w) (hb : Below w.heap.size w w') : LiveZ B w0 t most ps n w' := by
  obtain ⟨hp, v, ms, G, h1, h2⟩ := h.on
  exact ⟨h.below.trans (hb.mono h.room), Nat.le_trans h.room hb.size, hp, v, ms, G, h1.kept (fun k hk => hb.block k (h1.lt hk)), h2⟩
theorem LiveZ.draw (h : LiveZ B w0 t most ps n w) (q : Nat) : LiveZ B w0 t most ps n (w.drewN q) := h.step (below_drewN (Below.refl _ _) q)
theorem LiveZ.later {hp : Nat} {v : Value} {G : Nat → Prop} (h : LiveZ B w0 t most ps n w) (hF : ∀ j, Feet t v G j → B ≤ j) (ht : ThenZ w w' t hp v most ps' n G) : ∃ n', n' ≤ n + 65536 ∧ LiveZ B w0 t most ps' n' w' := by
  obtain ⟨v', ms', n', G', h1, h2, h3, h4⟩ := ht
  exact ⟨n', h1, h.below.trans (h3.below h.room hF), Nat.le_trans h.room h3.size, hp, v', ms', G', h2, fun j hj => (h4 j hj).elim (hF j) (fun e => Nat.le_trans h.room e)⟩
theorem LiveZ.fits (h : LiveZ B w0 t most ps n w) : (ps.length : Int) ≤ most ∧ most ≤ 65536 := by
  obtain ⟨hp, v, ms, G, h1, -⟩ := h.on
  exact ⟨h1.len, h1.top⟩

theorem newLZ (m : Int) (w : World) : Calls Try.prog 21 #[.int .i64 m] w fun e w' => ∃ t, e = .returned (.pointer (some ⟨t, 0, none⟩)) ∧ LiveZ w.heap.size w t (clamp m) [] 0 w' :=
  (newZ m w).mono fun _ _ ⟨t, hp, G, he, hh⟩ => ⟨t, he, hh.out.1, hh.out.1.size, hp, _, _, G, hh.out.2.1, hh.out.2.2⟩
theorem freeLZ (h : LiveZ B w0 t most ps n w) : Calls Try.prog 28 #[.pointer (some ⟨t, 0, none⟩)] w fun e w' => ∃ r, e = .returned (.int .i64 r) ∧ FreeIs ps most r ∧ ∃ q, w' = w.drewN q := by
  obtain ⟨hp, v, ms, G, h1, -⟩ := h.on
  exact (freeZ w h1).mono fun _ _ ⟨r, he, hh⟩ => ⟨r, he, hh.out.1, hh.out.2⟩
theorem lenLZ (h : LiveZ B w0 t most ps n w) : Calls Try.prog 24 #[.pointer (some ⟨t, 0, none⟩)] w fun e w' => e = .returned (.int .i64 (tk ps)) ∧ ∃ q, w' = w.drewN q := by
  obtain ⟨hp, v, ms, G, h1, -⟩ := h.on
  exact lenZ w h1
theorem atNoLZ (k : Int) (h : LiveZ B w0 t most ps n w) (hk : ∀ (i : Nat) a, k = (i : Int) + 1 → ps[i]? ≠ some (a, true)) : Calls Try.prog 23 #[.pointer (some ⟨t, 0, none⟩), .int .i64 k] w fun e w' => e = .returned (.tuple #[.string ByteArray.empty, .bool false]) ∧ w' = w := by
  obtain ⟨hp, v, ms, G, h1, -⟩ := h.on
  exact atNoZ k w h1 hk
theorem atYesLZ {a : ByteArray} (i : Nat) (h : LiveZ B w0 t most ps n w) (hi : ps[i]? = some (a, true)) : Calls Try.prog 23 #[.pointer (some ⟨t, 0, none⟩), .int .i64 ((i : Int) + 1)] w fun e w' => e = .returned (.tuple #[.string (a), .bool true]) ∧ w' = w := by
  obtain ⟨hp, v, ms, G, h1, -⟩ := h.on
  exact atYesZ i w h1 hi
theorem nextLZ (k : Int) (h : LiveZ B w0 t most ps n w) : Calls Try.prog 30 #[.pointer (some ⟨t, 0, none⟩), .int .i64 k] w fun e w' => ∃ r, e = .returned (.int .i64 r) ∧ NextIs ps k r ∧ w' = w := by
  obtain ⟨hp, v, ms, G, h1, -⟩ := h.on
  exact nextZ k w h1
theorem putAtNoLZ (k : Int) (x : ByteArray) (h : LiveZ B w0 t most ps n w) (hk : k < 1 ∨ most < k ∨ ∃ (i : Nat) (a : ByteArray), k = (i : Int) + 1 ∧ ps[i]? = some (a, true)) : Calls Try.prog 29 #[.pointer (some ⟨t, 0, none⟩), .int .i64 k, .string (x)] w fun e w' => e = .returned (.bool false) ∧ w' = w := by
  obtain ⟨hp, v, ms, G, h1, -⟩ := h.on
  exact putAtNoZ k x w h1 hk
theorem putAtYesLZ (i : Nat) (x : ByteArray) (h : LiveZ B w0 t most ps n w) (hi : (i : Int) < most) (hk : ∀ a, ps[i]? ≠ some (a, true)) (hn : n ≤ 1000000000) : Calls Try.prog 29 #[.pointer (some ⟨t, 0, none⟩), .int .i64 ((i : Int) + 1), .string (x)] w fun e w' => e = .returned (.bool true) ∧ Hid (∃ n', n' ≤ n + 65536 ∧ LiveZ B w0 t most ((groZ ps (i + 1)).set i (x, true)) n' w') := by
  obtain ⟨hp, v, ms, G, h1, h2⟩ := h.on
  exact (putAtYesZ i x w h1 hi hk hn).mono fun _ _ ⟨he, hh⟩ => ⟨he, h.later h2 hh.out⟩
theorem putNoLZ (x : ByteArray) (h : LiveZ B w0 t most ps n w) (hf : ∀ r, FreeIs ps most r → r = 0) : Calls Try.prog 22 #[.pointer (some ⟨t, 0, none⟩), .string (x)] w fun e w' => e = .returned (.tuple #[.int .i64 0, .bool false]) ∧ ∃ q, w' = w.drewN q := by
  obtain ⟨hp, v, ms, G, h1, -⟩ := h.on
  exact putNoZ x w h1 hf
theorem putYesLZ (i : Nat) (x : ByteArray) (h : LiveZ B w0 t most ps n w) (hf : ∀ r, FreeIs ps most r → r = (i : Int) + 1) (hi : (i : Int) < most) (hk : ∀ a, ps[i]? ≠ some (a, true)) (hn : n ≤ 1000000000) : Calls Try.prog 22 #[.pointer (some ⟨t, 0, none⟩), .string (x)] w fun e w' => e = .returned (.tuple #[.int .i64 ((i : Int) + 1), .bool true]) ∧ Hid (∃ n', n' ≤ n + 65536 ∧ LiveZ B w0 t most ((groZ ps (i + 1)).set i (x, true)) n' w') := by
  obtain ⟨hp, v, ms, G, h1, h2⟩ := h.on
  exact (putYesZ i x w h1 hf hi hk hn).mono fun _ _ ⟨he, hh⟩ => ⟨he, h.later h2 hh.out⟩
theorem dropNoLZ (k : Int) (h : LiveZ B w0 t most ps n w) (hk : ∀ (i : Nat) a, k = (i : Int) + 1 → ps[i]? ≠ some (a, true)) : Calls Try.prog 27 #[.pointer (some ⟨t, 0, none⟩), .int .i64 k] w fun e w' => e = .returned (.tuple #[.string ByteArray.empty, .bool false]) ∧ w' = w := by
  obtain ⟨hp, v, ms, G, h1, -⟩ := h.on
  exact dropNoZ k w h1 hk
theorem dropYesLZ {a : ByteArray} (i : Nat) (h : LiveZ B w0 t most ps n w) (hi : ps[i]? = some (a, true)) (hn : n ≤ 1000000000) : Calls Try.prog 27 #[.pointer (some ⟨t, 0, none⟩), .int .i64 ((i : Int) + 1)] w fun e w' => e = .returned (.tuple #[.string (a), .bool true]) ∧ Hid (∃ n', n' ≤ n + 65536 ∧ LiveZ B w0 t most (ps.set i (ByteArray.empty, false)) n' w') := by
  obtain ⟨hp, v, ms, G, h1, h2⟩ := h.on
  exact (dropYesZ i w h1 hi hn).mono fun _ _ ⟨he, hh⟩ => ⟨he, h.later h2 hh.out⟩
end
end Go.Proofs.Ytkdlhnfagghppaa
