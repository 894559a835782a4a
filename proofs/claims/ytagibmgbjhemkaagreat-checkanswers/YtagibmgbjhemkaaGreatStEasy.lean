/- A store's calls that only read: Has, Free, Reads, Writes, admit; the weights. -/
import Derived.Test.YtagibmgbjhemkaaGreatStAt
import Derived.Test.YtagibmgbjhemkaaGreatWord
namespace Go.Proofs.YtagibmgbjhemkaaGreat
open Go.RowKit Go.Maps

/-! ### weights -/
theorem run_frombits (n : Int) (w : World) : (callFunc 43 #[.int .u32 n]).run Tryz.prog w = .ok (.value (.float .f32 n.toNat)) w := by
  rw [run_callFunc_extern (e := Extern.MathFloatBits.float32frombits) Tryz.func43 (by kernel_rfl) (by kernel_rfl) (by kernel_rfl) (by kernel_rfl)]
  rfl
theorem run_tobits (b : Nat) (w : World) : (callFunc 81 #[.float .f32 b]).run Tryz.prog w = .ok (.value (.int .u32 b)) w := by
  rw [run_callFunc_extern (e := Extern.MathFloatBits.float32bits) Tryz.func81 (by kernel_rfl) (by kernel_rfl) (by kernel_rfl) (by kernel_rfl)]
  rfl
theorem isNaN_any (b : Nat) (w : World) : Calls Tryz.prog 80 #[.float .f32 b] w fun e w' => e = .returned (.bool (FloatKind.f32.format.order b b != some .eq)) ∧ w' = w := by
  go_enter Tryz.func80, Tryz.ntmps80
  go_wp2
  go_ret
  exact ⟨rfl, rfl⟩
theorem bits_plain (b : Nat) (hb : b < 2139095040) (w : World) : Calls Tryz.prog 44 #[.float .f32 b] w fun e w' => e = .returned (.int .u32 b) ∧ w' = w := by
  have hx := run_tobits
  have hn : (FloatKind.f32.format.order b b != some .eq) = false := by
    have := M.order_self (x := b) (by omega)
    rw [show FloatKind.f32.format = Ieee.single from rfl, this]
    unfold M.nan
    exact decide_eq_false (by omega)
  have hc : ∀ w, Calls Tryz.prog 80 #[.float .f32 b] w fun e w' => e = .returned (.bool false) ∧ w' = w := fun w => by
    have := isNaN_any b w; rwa [hn] at this
  have H := hide hc
  clear hc hn hb
  go_enter Tryz.func44, Tryz.ntmps44
  go_wp2_with (go_at_call 80; refine (unhide H _).mono ?_; rintro e w' ⟨rfl, rfl⟩)
  go_ret
  exact ⟨rfl, rfl⟩

/-- With what bits an edge stands; none: they are no weight's. -/
def kept (n : Int) : Option Int := if n = 2147483648 then some 0 else if 2139095040 ≤ n then none else some n
def ansK : Option Int → Value
  | some b => .tuple #[.int .u32 b, .int .i64 0]
  | none => .tuple #[.int .u32 0, .int .i64 7]

theorem admitW_zero (w : World) : Calls Tryz.prog 119 #[.int .u32 2147483648] w fun e w' => e = .returned (.tuple #[.float .f32 0, .int .i64 0]) ∧ w' = w := by
  go_enter Tryz.func119, Tryz.ntmps119
  go_wp2
  go_ret2
  exact ⟨rfl, rfl⟩
theorem admitW_no (n : Int) (h1 : ¬ n = 2147483648) (h2 : 2139095040 ≤ n) (w : World) : Calls Tryz.prog 119 #[.int .u32 n] w fun e w' => e = .returned (.tuple #[.float .f32 0, .int .i64 7]) ∧ w' = w := by
  go_enter Tryz.func119, Tryz.ntmps119
  go_wp2
  go_ret2
  exact ⟨rfl, rfl⟩
theorem admitW_yes (n : Int) (h2 : ¬ 2139095040 ≤ n) (w : World) : Calls Tryz.prog 119 #[.int .u32 n] w fun e w' => e = .returned (.tuple #[.float .f32 n.toNat, .int .i64 0]) ∧ w' = w := by
  have h1 : ¬ n = 2147483648 := by omega
  have hx := run_frombits
  go_enter Tryz.func119, Tryz.ntmps119
  go_wp2
  go_ret2
  exact ⟨rfl, rfl⟩

set_option maxHeartbeats 1000000 in
set_option maxRecDepth 100000 in
theorem keptS (n : Int) (h0 : 0 ≤ n) (w : World) : Calls Tryz.prog 101 #[.int .u32 n] w fun e w' => e = .returned (ansK (kept n)) ∧ w' = w := by
  unfold kept
  by_cases h1 : n = 2147483648
  · subst h1
    rw [if_pos rfl]
    have CA := hide (admitW_zero w)
    have CB := hide (bits_plain 0 (by omega) w)
    clear h0
    go_enter Tryz.func101, Tryz.ntmps101
    go_wp2_with fail
    refine (unhide CA).mono ?_
    rintro e w1 ⟨rfl, rfl⟩
    clear CA
    go_wp2_with fail
    refine (unhide CB).mono ?_
    rintro e w1 ⟨rfl, rfl⟩
    clear CB
    go_wp2_with fail
    go_ret2
    exact ⟨rfl, rfl⟩
  · rw [if_neg h1]
    by_cases h2 : 2139095040 ≤ n
    · rw [if_pos h2]
      have CA := hide (admitW_no n h1 h2 w)
      clear h0 h1 h2
      go_enter Tryz.func101, Tryz.ntmps101
      go_wp2_with fail
      refine (unhide CA).mono ?_
      rintro e w1 ⟨rfl, rfl⟩
      clear CA
      go_wp2_with fail
      go_ret2
      exact ⟨rfl, rfl⟩
    · rw [if_neg h2]
      have CA := hide (admitW_yes n h2 w)
      have CB := hide (bits_plain n.toNat (by omega) w)
      have hn : Hid (((n.toNat : Nat) : Int) = n) := by show _ = _; omega
      generalize n.toNat = b at *
      clear h0 h1 h2
      go_enter Tryz.func101, Tryz.ntmps101
      go_wp2_with fail
      refine (unhide CA).mono ?_
      rintro e w1 ⟨rfl, rfl⟩
      clear CA
      go_wp2_with fail
      refine (unhide CB).mono ?_
      rintro e w1 ⟨rfl, rfl⟩
      clear CB
      go_wp2_with fail
      go_ret2
      exact ⟨by rw [← unhide hn]; rfl, rfl⟩

variable [Inhabited EntI] {w : World} {X : Sto}

set_option maxHeartbeats 1000000 in
set_option maxRecDepth 100000 in
theorem hasS (k : Int) (h : StAt w X) (hk : okN k) : Calls Tryz.prog 18 #[.pointer (some ⟨X.s, 0, none⟩), .int .i64 k] w fun e w' => e = .returned (.bool (X.f k).isSome) ∧ w' = w := by
  obtain ⟨-, c1, -, -, -⟩ := h.cells
  have hl := h.look2 k hk
  generalize ptr (X.f k) = p at *
  generalize (X.f k).isSome = b at *
  generalize X.s = s at *
  generalize X.m = m at *
  clear h hk
  go_enter Tryz.func18, Tryz.ntmps18
  go_wp2_with fail
  go_ret
  exact ⟨rfl, rfl⟩

set_option maxHeartbeats 1000000 in
set_option maxRecDepth 100000 in
theorem freeS (h : StAt w X) : Calls Tryz.prog 57 #[.pointer (some ⟨X.s, 0, none⟩)] w fun e w' => ∃ r, e = .returned (.int .i64 r) ∧ Hid (FreeIs X.ps 1024 r ∧ ∃ q, w' = w.drewN q) := by
  obtain ⟨c0, -, -, -, -⟩ := h.cells
  have CF := hide (freeE w h.tab)
  generalize X.s = s at *
  generalize X.t = t at *
  clear h
  go_enter Tryz.func57, Tryz.ntmps57
  go_wp2_with fail
  refine (unhide CF).mono ?_
  rintro e w2 ⟨r, rfl, h2⟩
  clear CF
  go_wp2_with fail
  go_ret
  exact ⟨r, rfl, h2⟩

set_option maxHeartbeats 1000000 in
set_option maxRecDepth 100000 in
theorem readsS (h : StAt w X) : Calls Tryz.prog 10 #[.pointer (some ⟨X.s, 0, none⟩)] w fun e w' => e = .returned (.int .i64 X.rd) ∧ w' = w := by
  obtain ⟨-, -, c2, -, -⟩ := h.cells
  clear h
  go_enter Tryz.func10, Tryz.ntmps10
  go_wp2_with fail
  go_ret
  exact ⟨rfl, rfl⟩

set_option maxHeartbeats 1000000 in
set_option maxRecDepth 100000 in
theorem writesS (h : StAt w X) : Calls Tryz.prog 15 #[.pointer (some ⟨X.s, 0, none⟩)] w fun e w' => e = .returned (.int .i64 X.wr) ∧ w' = w := by
  obtain ⟨-, -, -, c3, -⟩ := h.cells
  clear h
  go_enter Tryz.func15, Tryz.ntmps15
  go_wp2_with fail
  go_ret
  exact ⟨rfl, rfl⟩

set_option maxHeartbeats 1000000 in
set_option maxRecDepth 100000 in
theorem admitNoS (u v n : Int) (h : StAt w X) (hu : okN u) (hv : okN v) (hno : X.f u = none ∨ X.f v = none) : Calls Tryz.prog 75 #[.pointer (some ⟨X.s, 0, none⟩), .int .i64 u, .int .i64 v, .int .u32 n] w fun e w' => e = .returned (.tuple #[.int .u32 0, .int .i64 5]) ∧ w' = w := by
  have C1 := hide (hasS u h hu)
  have C2 := hide (hasS v h hv)
  by_cases h1 : X.f u = none
  · rw [h1] at C1
    simp only [Option.isSome_none] at C1
    clear C2 h hno h1 hu hv
    go_enter Tryz.func75, Tryz.ntmps75
    go_wp2_with fail
    refine (unhide C1).mono ?_
    rintro e w1 ⟨rfl, rfl⟩
    clear C1
    go_wp2_with fail
    go_ret2
    exact ⟨rfl, rfl⟩
  · have e1 : (X.f u).isSome = true := by cases hh : X.f u with | none => exact absurd hh h1 | some q => rfl
    have h2 : X.f v = none := hno.resolve_left h1
    rw [e1] at C1
    rw [h2] at C2
    simp only [Option.isSome_none] at C2
    clear h hno h1 hu hv h2 e1
    go_enter Tryz.func75, Tryz.ntmps75
    go_wp2_with fail
    refine (unhide C1).mono ?_
    rintro e w1 ⟨rfl, rfl⟩
    clear C1
    go_wp2_with fail
    refine (unhide C2).mono ?_
    rintro e w1 ⟨rfl, rfl⟩
    clear C2
    go_wp2_with fail
    go_ret2
    exact ⟨rfl, rfl⟩

set_option maxHeartbeats 1000000 in
set_option maxRecDepth 100000 in
theorem admitS (u v n : Int) (h : StAt w X) (hu : X.f u ≠ none) (hv : X.f v ≠ none) (h0 : 0 ≤ n) : Calls Tryz.prog 75 #[.pointer (some ⟨X.s, 0, none⟩), .int .i64 u, .int .i64 v, .int .u32 n] w fun e w' => e = .returned (ansK (kept n)) ∧ w' = w := by
  obtain ⟨q1, e1⟩ : ∃ q, X.f u = some q := by cases hh : X.f u with | none => exact absurd hh hu | some q => exact ⟨q, rfl⟩
  obtain ⟨q2, e2⟩ : ∃ q, X.f v = some q := by cases hh : X.f v with | none => exact absurd hh hv | some q => exact ⟨q, rfl⟩
  have C1 := hide (hasS u h (h.ok e1))
  have C2 := hide (hasS v h (h.ok e2))
  have C3 := hide (keptS n h0 w)
  rw [e1] at C1
  rw [e2] at C2
  simp only [Option.isSome_some] at C1 C2
  obtain ⟨a, b, eab⟩ : ∃ a b, ansK (kept n) = .tuple #[a, b] := by cases kept n <;> exact ⟨_, _, rfl⟩
  rw [eab] at C3 ⊢
  clear h hu hv h0 e1 e2 eab
  go_enter Tryz.func75, Tryz.ntmps75
  go_wp2_with fail
  refine (unhide C1).mono ?_
  rintro e w1 ⟨rfl, rfl⟩
  clear C1
  go_wp2_with fail
  refine (unhide C2).mono ?_
  rintro e w1 ⟨rfl, rfl⟩
  clear C2
  go_wp2_with fail
  refine (unhide C3).mono ?_
  rintro e w1 ⟨rfl, rfl⟩
  clear C3
  go_wp2_with fail
  go_ret2
  exact ⟨rfl, rfl⟩
end Go.Proofs.YtagibmgbjhemkaaGreat
