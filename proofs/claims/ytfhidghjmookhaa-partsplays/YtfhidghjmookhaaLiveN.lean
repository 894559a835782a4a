/- The one Parts of a law. -/
import Derived.Test.YtfhidghjmookhaaJoinWalkN
namespace Go.Proofs.Ytfhidghjmookhaa
open Go.RowKit Go.Maps

/-- Its blocks lie from B on; below B all is as in w0. -/
structure LiveN (B : Nat) (w0 : World) (p : Nat) (S : List (Part Int)) (w : World) : Prop where
  below : Below B w0 w
  room : B ≤ w.heap.size
  on : ∃ m, PAtN w p m S ∧ ∀ k, FootN p m S k → B ≤ k

theorem LiveN.fam {B : Nat} {w0 w : World} {p : Nat} {S : List (Part Int)} (h : LiveN B w0 p S w) : Fam ltN okN S := by
  obtain ⟨m, h1, -⟩ := h.on
  exact h1.fam

theorem LiveN.step {B : Nat} {w0 w w' : World} {p : Nat} {S : List (Part Int)} (h : LiveN B w0 p S w) (hb : Below w.heap.size w w') : LiveN B w0 p S w' := by
  obtain ⟨m, h1, h2⟩ := h.on
  exact ⟨h.below.trans (hb.mono h.room), Nat.le_trans h.room hb.size, m, h1.below hb, h2⟩

theorem LiveN.turn {B : Nat} {w0 w w' : World} {p m : Nat} {S S' : List (Part Int)} (h : LiveN B w0 p S w) (h2 : ∀ k, FootN p m S k → B ≤ k) (g1 : PAtN w' p m S') (g2 : Turned (FootN p m S) w w') (g3 : ∀ j, FootN p m S' j → FootN p m S j ∨ w.heap.size ≤ j) : LiveN B w0 p S' w' :=
  ⟨h.below.trans (g2.below h.room h2), Nat.le_trans h.room g2.size, m, g1, fun k hk => (g3 k hk).elim (h2 k) (fun e => Nat.le_trans h.room e)⟩

theorem newLN (w : World) : Calls Try.prog 7 #[] w fun e w' => ∃ p, e = .returned (.pointer (some ⟨p, 0, none⟩)) ∧ LiveN w.heap.size w p [] w' :=
  (newN w).mono fun e w' hh => by
    obtain ⟨p, m, he, hx⟩ := hh
    obtain ⟨h1, h2, h3, h4⟩ := unhide hx
    refine ⟨p, he, h2, h2.size, m, h1, fun k hk => ?_⟩
    rcases hk with rfl | rfl | ⟨x, hx, -⟩
    · exact h3
    · exact h4
    · cases hx

section
variable {B : Nat} {w0 w : World} {p : Nat} {S : List (Part Int)}

theorem addLN (k : Int) (h : LiveN B w0 p S w) (hk : okN k) (hno : ∀ z ∈ S, k ∉ z.ks) (hn : tot S < 1099511627776) : Calls Try.prog 26 #[.pointer (some ⟨p, 0, none⟩), (Value.int .i64) k] w fun e w' => e = .returned (.bool true) ∧ ∃ x : Part Int, x.ks = [k] ∧ LiveN B w0 p (S ++ [x]) w' := by
  obtain ⟨m, h1, h2⟩ := h.on
  refine (addN k w h1 hk hno hn).mono fun e w' hh => ⟨hh.1, ?_⟩
  obtain ⟨x, g0, g1, g2, g3⟩ := unhide hh.2
  exact ⟨x, g0, h.turn h2 g1 g2 g3⟩

theorem addInLN {x : Part Int} (k : Int) (h : LiveN B w0 p S w) (hx : x ∈ S) (hk : k ∈ x.ks) : Calls Try.prog 26 #[.pointer (some ⟨p, 0, none⟩), (Value.int .i64) k] w fun e w' => e = .returned (.bool false) ∧ w' = w := by
  obtain ⟨m, h1, h2⟩ := h.on
  exact addInN k w h1 hx hk

theorem joinNoLN (a b : Int) (h : LiveN B w0 p S w) (ha : okN a) (hb : okN b) (hno : fOf S a = none ∨ fOf S b = none ∨ fOf S a = fOf S b) : Calls Try.prog 27 #[.pointer (some ⟨p, 0, none⟩), (Value.int .i64) a, (Value.int .i64) b] w fun e w' => e = .returned (.bool false) ∧ LiveN B w0 p S w' := by
  obtain ⟨m, h1, h2⟩ := h.on
  refine (joinNoN a b w h1 ha hb hno).mono fun e w' hh => ⟨hh.1, ?_⟩
  obtain ⟨q, rfl⟩ := hh.2
  exact h.step (below_drewN (Below.refl _ _) q)

/-- Two parts become one. -/
theorem joinLN {x y : Part Int} (a b : Int) (h : LiveN B w0 p S w) (hx : x ∈ S) (hy : y ∈ S) (ha : a ∈ x.ks) (hb : b ∈ y.ks) (hne : x.q ≠ y.q) (hn : tot S < 1099511627776) : Calls Try.prog 27 #[.pointer (some ⟨p, 0, none⟩), (Value.int .i64) a, (Value.int .i64) b] w fun e w' => e = .returned (.bool true) ∧
    ∃ (z : Part Int) (R : List (Part Int)), (∀ k, k ∈ z.ks ↔ k ∈ x.ks ∨ k ∈ y.ks) ∧ z.ks.length = x.ks.length + y.ks.length ∧ (R = without y (without x S) ∨ R = without x (without y S)) ∧ LiveN B w0 p (R ++ [z]) w' := by
  obtain ⟨m, h1, h2⟩ := h.on
  rcases Nat.lt_or_ge x.ks.length y.ks.length with hl | hl
  · refine (joinLtN a b w h1 hx hy ha hb hne hn hl).mono fun e w' hh => ⟨hh.1, ?_⟩
    obtain ⟨z, g0, g1, g2, g3, g4⟩ := unhide hh.2
    exact ⟨z, _, fun k => (g0 k).trans Or.comm, by omega, .inr rfl, h.turn h2 g2 g3 g4⟩
  · refine (joinGeN a b w h1 hx hy ha hb hne hn hl).mono fun e w' hh => ⟨hh.1, ?_⟩
    obtain ⟨z, g0, g1, g2, g3, g4⟩ := unhide hh.2
    exact ⟨z, _, g0, g1, .inl rfl, h.turn h2 g2 g3 g4⟩

theorem dropNoLN (k : Int) (h : LiveN B w0 p S w) (hk : okN k) (hno : ∀ x ∈ S, k ∉ x.ks) : Calls Try.prog 32 #[.pointer (some ⟨p, 0, none⟩), (Value.int .i64) k] w fun e w' => e = .returned (.bool false) ∧ w' = w := by
  obtain ⟨m, h1, h2⟩ := h.on
  exact dropNoN k w h1 hk hno
theorem dropLN {x : Part Int} (k : Int) (h : LiveN B w0 p S w) (hx : x ∈ S) (hk : k ∈ x.ks) (hn : tot S < 1099511627776) : Calls Try.prog 32 #[.pointer (some ⟨p, 0, none⟩), (Value.int .i64) k] w fun e w' => e = .returned (.bool true) ∧
    ∃ T : List (Part Int), (∀ y ∈ T, ∀ j, j ∈ y.ks ↔ j ∈ x.ks ∧ j ≠ k) ∧ (T = [] ∧ x.ks = [k] ∨ ∃ y, T = [y] ∧ y.q = x.q) ∧ tot (without x S ++ T) + 1 = tot S ∧ LiveN B w0 p (without x S ++ T) w' := by
  obtain ⟨m, h1, h2⟩ := h.on
  refine (dropN k w h1 hx hk hn).mono fun e w' hh => ⟨hh.1, ?_⟩
  obtain ⟨T, g0, g1, g2, g3, g4, g5⟩ := unhide hh.2
  exact ⟨T, g1, g2, g5, h.turn h2 g0 g3 g4⟩

theorem burstNoLN (k : Int) (h : LiveN B w0 p S w) (hk : okN k) (hno : ∀ x ∈ S, k ∉ x.ks) : Calls Try.prog 35 #[.pointer (some ⟨p, 0, none⟩), (Value.int .i64) k] w fun e w' => e = .returned (.bool false) ∧ w' = w := by
  obtain ⟨m, h1, h2⟩ := h.on
  exact burstNoN k w h1 hk hno
theorem burstLN {x : Part Int} (k : Int) (h : LiveN B w0 p S w) (hx : x ∈ S) (hk : k ∈ x.ks) (hn : tot S < 1099511627776) : Calls Try.prog 35 #[.pointer (some ⟨p, 0, none⟩), (Value.int .i64) k] w fun e w' => e = .returned (.bool true) ∧
    ∃ T, T.map (·.ks) = x.ks.map (fun k => [k]) ∧ LiveN B w0 p (without x S ++ T) w' := by
  obtain ⟨m, h1, h2⟩ := h.on
  refine (burstN k w h1 hx hk hn).mono fun e w' hh => ⟨hh.1, ?_⟩
  obtain ⟨T, g0, g1, g2, g3⟩ := unhide hh.2
  exact ⟨T, g0, h.turn h2 g1 g2 g3⟩

theorem headLN {x : Part Int} (k : Int) (h : LiveN B w0 p S w) (hx : x ∈ S) (hk : k ∈ x.ks) : Calls Try.prog 28 #[.pointer (some ⟨p, 0, none⟩), (Value.int .i64) k] w fun e w' => e = .returned (.tuple #[(Value.int .i64) (x.ks.headD (0 : Int)), .bool true]) ∧ w' = w := by
  obtain ⟨m, h1, h2⟩ := h.on
  exact headN k w h1 hx hk
theorem sameLN (a b : Int) (h : LiveN B w0 p S w) (ha : okN a) (hb : okN b) : Calls Try.prog 29 #[.pointer (some ⟨p, 0, none⟩), (Value.int .i64) a, (Value.int .i64) b] w fun e w' => e = .returned (.bool ((fOf S a).isSome && fOf S a == fOf S b)) ∧ w' = w := by
  obtain ⟨m, h1, h2⟩ := h.on
  exact sameN a b w h1 ha hb
theorem lenLN (h : LiveN B w0 p S w) : Calls Try.prog 10 #[.pointer (some ⟨p, 0, none⟩)] w fun e w' => e = .returned (.int .i64 (tot S)) ∧ w' = w := by
  obtain ⟨m, h1, h2⟩ := h.on
  exact lenN w h1
theorem membersLN {x : Part Int} (k : Int) (h : LiveN B w0 p S w) (hx : x ∈ S) (hk : k ∈ x.ks) (hn : tot S < 1099511627776) : Calls Try.prog 12 #[.pointer (some ⟨p, 0, none⟩), (Value.int .i64) k] w fun e w' => ∃ v', e = .returned v' ∧ Hid (w'.ownsRow w.heap.size 3 1 v' x.ks.length (x.ks.map (Value.int .i64)) ∧ Below w.heap.size w w') := by
  obtain ⟨m, h1, h2⟩ := h.on
  exact membersN k w h1 hx hk hn
theorem headsLN (h : LiveN B w0 p S w) (hn : tot S < 1099511627776) : Calls Try.prog 14 #[.pointer (some ⟨p, 0, none⟩)] w fun e w' => ∃ v ys, e = .returned v ∧
    Hid (Rising ltN ys ∧ (∀ k, k ∈ ys ↔ ∃ x ∈ S, x.ks.headD (0 : Int) = k) ∧ w'.ownsRow w.heap.size 3 1 v ys.length (ys.map (Value.int .i64)) ∧ Below w.heap.size w w') := by
  obtain ⟨m, h1, h2⟩ := h.on
  exact headsN w h1 hn

/-! ### whatever is asked -/

theorem tot_singlesN {T : List (Part Int)} {l : List Int} (h : T.map (·.ks) = l.map (fun k => [k])) : tot T = l.length := by
  have e : T.map (fun z => z.ks.length) = (T.map (·.ks)).map List.length := by rw [List.map_map]; rfl
  unfold tot
  rw [e, h, List.map_map]
  clear h e
  induction l with
  | nil => rfl
  | cons a l ih =>
    rw [List.map_cons, List.sum_cons, ih, List.length_cons]
    show 1 + l.length = _
    omega

theorem addAnyN {n : Nat} (k : Int) (h : LiveN B w0 p S w) (hk : okN k) (hS : tot S ≤ n) (hn : n < 1099511627776) : Calls Try.prog 26 #[.pointer (some ⟨p, 0, none⟩), (Value.int .i64) k] w fun e w' => ∃ b, e = .returned (.bool b) ∧ Hid (∃ S', LiveN B w0 p S' w' ∧ tot S' ≤ n + 1 ∧ fOf S' k ≠ none) := by
  cases hf : fOf S k with
  | none =>
    refine (addLN k h hk (fOf_none.1 hf) (by omega)).mono fun e w' hh => ⟨true, hh.1, ?_⟩
    obtain ⟨x, h1, h2⟩ := hh.2
    refine ⟨_, h2, by rw [tot_append, tot_one, h1]; simp; omega, ?_⟩
    rw [fOf_some h2.fam (x := x) (by simp) (by rw [h1]; simp)]
    simp
  | some q =>
    obtain ⟨x, hx, hkx, -⟩ := fOf_mem hf
    exact (addInLN k h hx hkx).mono fun e w' hh => ⟨false, hh.1, S, by rw [hh.2]; exact h, by omega, by rw [hf]; simp⟩

theorem dropAnyN {n : Nat} (k : Int) (h : LiveN B w0 p S w) (hk : okN k) (hS : tot S ≤ n) (hn : n < 1099511627776) : Calls Try.prog 32 #[.pointer (some ⟨p, 0, none⟩), (Value.int .i64) k] w fun e w' => ∃ b, e = .returned (.bool b) ∧ Hid (∃ S', LiveN B w0 p S' w' ∧ tot S' ≤ n) := by
  cases hf : fOf S k with
  | none => exact (dropNoLN k h hk (fOf_none.1 hf)).mono fun e w' hh => ⟨false, hh.1, S, by rw [hh.2]; exact h, hS⟩
  | some q =>
    obtain ⟨x, hx, hkx, -⟩ := fOf_mem hf
    refine (dropLN k h hx hkx (by omega)).mono fun e w' hh => ⟨true, hh.1, ?_⟩
    obtain ⟨T, -, -, h3, h4⟩ := hh.2
    exact ⟨_, h4, by omega⟩

theorem burstAnyN {n : Nat} (k : Int) (h : LiveN B w0 p S w) (hk : okN k) (hS : tot S ≤ n) (hn : n < 1099511627776) : Calls Try.prog 35 #[.pointer (some ⟨p, 0, none⟩), (Value.int .i64) k] w fun e w' => ∃ b, e = .returned (.bool b) ∧ Hid (∃ S', LiveN B w0 p S' w' ∧ tot S' ≤ n) := by
  cases hf : fOf S k with
  | none => exact (burstNoLN k h hk (fOf_none.1 hf)).mono fun e w' hh => ⟨false, hh.1, S, by rw [hh.2]; exact h, hS⟩
  | some q =>
    obtain ⟨x, hx, hkx, -⟩ := fOf_mem hf
    refine (burstLN k h hx hkx (by omega)).mono fun e w' hh => ⟨true, hh.1, ?_⟩
    obtain ⟨T, h3, h4⟩ := hh.2
    exact ⟨_, h4, by rw [tot_append, tot_singlesN h3]; have := tot_without h.fam hx; omega⟩

theorem joinAnyN {n : Nat} (a b : Int) (h : LiveN B w0 p S w) (ha : okN a) (hb : okN b) (hS : tot S ≤ n) (hn : n < 1099511627776) : Calls Try.prog 27 #[.pointer (some ⟨p, 0, none⟩), (Value.int .i64) a, (Value.int .i64) b] w fun e w' => ∃ b, e = .returned (.bool b) ∧ Hid (∃ S', LiveN B w0 p S' w' ∧ tot S' ≤ n) := by
  by_cases hno : fOf S a = none ∨ fOf S b = none ∨ fOf S a = fOf S b
  · exact (joinNoLN a b h ha hb hno).mono fun e w' hh => ⟨false, hh.1, S, hh.2, hS⟩
  · cases hfa : fOf S a with
    | none => exact absurd (.inl hfa) hno
    | some q1 =>
      cases hfb : fOf S b with
      | none => exact absurd (.inr (.inl hfb)) hno
      | some q2 =>
        obtain ⟨x, hx, hax, rfl⟩ := fOf_mem hfa
        obtain ⟨y, hy, hby, rfl⟩ := fOf_mem hfb
        have hq : x.q ≠ y.q := fun e => hno (.inr (.inr (by rw [hfa, hfb, e])))
        refine (joinLN a b h hx hy hax hby hq (by omega)).mono fun e w' hh => ⟨true, hh.1, ?_⟩
        obtain ⟨z, R, h1, h2, h3, h4⟩ := hh.2
        refine ⟨_, h4, ?_⟩
        rw [tot_append, tot_one, h2]
        have t1 := tot_without h.fam hx
        have t2 := tot_without (h.fam.without x) (mem_without.2 ⟨hy, fun e => hq e.symm⟩)
        have t3 := tot_without h.fam hy
        have t4 := tot_without (h.fam.without y) (mem_without.2 ⟨hx, hq⟩)
        rcases h3 with rfl | rfl <;> omega
end
end Go.Proofs.Ytfhidghjmookhaa
