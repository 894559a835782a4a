/- The one store of a law: its blocks lie from B on; below B all is as in w0. -/
import Derived.Test.YtanbnipndkmnlaaStAdd
import Derived.Test.YtanbnipndkmnlaaStPut
import Derived.Test.YtanbnipndkmnlaaStGet
import Derived.Test.YtanbnipndkmnlaaStNew
import Derived.Test.YtanbnipndkmnlaaStDropV
namespace Go.Proofs.Ytanbnipndkmnlaa
open Go.RowKit Go.Maps

/-- What a store says: its vertices, how many, its places, the gauge; nb: a bound on what its heap has seen. -/
structure Gr where
  V : Int → Bool
  N : Nat
  ps : List (EdgeV × Bool)
  rd : Int
  wr : Int
  nb : Nat

structure Shows (X : Sto) (g : Gr) : Prop where
  V : ∀ k, (X.f k).isSome = g.V k
  N : X.N = g.N
  ps : X.ps = g.ps
  rd : X.rd = g.rd
  wr : X.wr = g.wr
  n : X.n ≤ g.nb

structure LiveS [Inhabited EntI] (B : Nat) (w0 : World) (s : Nat) (g : Gr) (w : World) : Prop where
  below : Below B w0 w
  room : B ≤ w.heap.size
  on : ∃ X, StAt w X ∧ X.s = s ∧ Shows X g ∧ ∀ b, X.L b ≠ none → B ≤ b

theorem Shows.some_ {X : Sto} {g : Gr} (h : Shows X g) {k : Int} (hk : g.V k = true) : X.f k ≠ none := fun e => by
  have := h.V k; rw [e, hk] at this; cases this
theorem Shows.none_ {X : Sto} {g : Gr} (h : Shows X g) {k : Int} (hk : g.V k = false) : X.f k = none := by
  have := h.V k
  rw [hk] at this
  cases e : X.f k with
  | none => rfl
  | some q => rw [e] at this; cases this

section
variable [Inhabited EntI] {B : Nat} {w0 w w' : World} {s : Nat} {g : Gr}

theorem LiveS.step (h : LiveS B w0 s g w) (hb : Below w.heap.size w w') : LiveS B w0 s g w' := by
  obtain ⟨X, h1, h2, h3, h4⟩ := h.on
  exact ⟨h.below.trans (hb.mono h.room), Nat.le_trans h.room hb.size, X, h1.below hb, h2, h3, h4⟩
theorem LiveS.draw (h : LiveS B w0 s g w) (q : Nat) : LiveS B w0 s g (w.drewN q) := h.step (below_drewN (Below.refl _ _) q)
theorem LiveS.later {X X' : Sto} {g' : Gr} (h : LiveS B w0 s g w) (hs : X.s = s) (hl : ∀ b, X.L b ≠ none → B ≤ b) (hS : Step w X w' X') (hg : Shows X' g') : LiveS B w0 s g' w' := by
  obtain ⟨r1, r2, r3, r4⟩ := hS
  exact ⟨h.below.trans (r3.below h.room (fun b hb => hl b hb)), Nat.le_trans h.room r3.size, X', r1, r2.trans hs, hg, fun b hb => (r4 b hb).elim (hl b) (fun e => Nat.le_trans h.room e)⟩
theorem LiveS.len (h : LiveS B w0 s g w) : (g.ps.length : Int) ≤ 1024 := by
  obtain ⟨X, h1, -, h3, -⟩ := h.on
  rw [← h3.ps]; exact h1.tab.len
theorem LiveS.keys (h : LiveS B w0 s g w) {k : Int} (hk : g.V k = true) : 0 ≤ k ∧ k ≤ 2147483647 := by
  obtain ⟨X, h1, -, h3, -⟩ := h.on
  exact h1.mem.keys k (h3.some_ hk)

theorem newL (w : World) : Calls Try.prog 4 #[] w fun e w' => ∃ s, e = .returned (.pointer (some ⟨s, 0, none⟩)) ∧ Hid (LiveS w.heap.size w s ⟨fun _ => false, 0, [], 0, 0, 0⟩ w') :=
  (newS w).mono fun _ _ ⟨s, he, hh⟩ => by
    obtain ⟨X, h1, h2, h3, h4, h5, h6, h7, h8, h9, h10⟩ := hh.out
    exact ⟨s, he, h2, h2.size, X, h3, h1, ⟨fun k => by rw [h6]; rfl, h7, h5, h8, h9, by rw [h10]; exact Nat.zero_le _⟩, h4⟩

theorem hasL (k : Int) (h : LiveS B w0 s g w) (hk : okN k) : Calls Try.prog 16 #[.pointer (some ⟨s, 0, none⟩), .int .i64 k] w fun e w' => e = .returned (.bool (g.V k)) ∧ w' = w := by
  obtain ⟨X, h1, rfl, h3, -⟩ := h.on
  rw [← h3.V]
  exact hasS k h1 hk
theorem readsL (h : LiveS B w0 s g w) : Calls Try.prog 15 #[.pointer (some ⟨s, 0, none⟩)] w fun e w' => e = .returned (.int .i64 g.rd) ∧ w' = w := by
  obtain ⟨X, h1, rfl, h3, -⟩ := h.on
  rw [← h3.rd]
  exact readsS h1
theorem writesL (h : LiveS B w0 s g w) : Calls Try.prog 12 #[.pointer (some ⟨s, 0, none⟩)] w fun e w' => e = .returned (.int .i64 g.wr) ∧ w' = w := by
  obtain ⟨X, h1, rfl, h3, -⟩ := h.on
  rw [← h3.wr]
  exact writesS h1
theorem freeL0 (h : LiveS B w0 s g w) (hf : ∀ j, j < 1024 → ∃ a, g.ps[j]? = some (a, true)) : Calls Try.prog 8 #[.pointer (some ⟨s, 0, none⟩)] w fun e w' => e = .returned (.int .i64 0) ∧ Hid (LiveS B w0 s g w') := by
  obtain ⟨X, h1, rfl, h3, -⟩ := h.on
  refine (freeS h1).mono ?_
  rintro e w' ⟨r, rfl, hh⟩
  obtain ⟨hr, q, rfl⟩ := unhide hh
  rw [h3.ps] at hr
  rw [free_none hf h.len hr]
  exact ⟨rfl, h.draw q⟩
theorem freeL1 {i : Nat} (h : LiveS B w0 s g w) (hL : Least g.ps i) (hi : i < 1024) : Calls Try.prog 8 #[.pointer (some ⟨s, 0, none⟩)] w fun e w' => e = .returned (.int .i64 ((i : Int) + 1)) ∧ Hid (LiveS B w0 s g w') := by
  obtain ⟨X, h1, rfl, h3, -⟩ := h.on
  refine (freeS h1).mono ?_
  rintro e w' ⟨r, rfl, hh⟩
  obtain ⟨hr, q, rfl⟩ := unhide hh
  rw [h3.ps] at hr
  rw [free_of hL hi h.len hr]
  exact ⟨rfl, h.draw q⟩

theorem addVBadL (k : Int) (h : LiveS B w0 s g w) (hk : k < 0 ∨ 2147483647 < k) : Calls Try.prog 6 #[.pointer (some ⟨s, 0, none⟩), .int .i64 k] w fun e w' => e = .returned (.int .i64 4) ∧ w' = w := by
  obtain ⟨X, h1, rfl, h3, -⟩ := h.on
  exact addVBad k h1 hk
theorem addVTwiceL (k : Int) (h : LiveS B w0 s g w) (hk : g.V k = true) : Calls Try.prog 6 #[.pointer (some ⟨s, 0, none⟩), .int .i64 k] w fun e w' => e = .returned (.int .i64 2) ∧ w' = w := by
  obtain ⟨X, h1, rfl, h3, -⟩ := h.on
  exact addVTwice k h1 (h3.some_ hk)
theorem addVManyL (k : Int) (h : LiveS B w0 s g w) (h0 : 0 ≤ k) (h1 : k ≤ 2147483647) (hk : g.V k = false) (hN : g.N = 256) : Calls Try.prog 6 #[.pointer (some ⟨s, 0, none⟩), .int .i64 k] w fun e w' => e = .returned (.int .i64 8) ∧ w' = w := by
  obtain ⟨X, g1, rfl, h3, -⟩ := h.on
  exact addVMany k g1 h0 h1 (h3.none_ hk) (h3.N.trans hN)
theorem addVL (k : Int) (h : LiveS B w0 s g w) (h0 : 0 ≤ k) (h1 : k ≤ 2147483647) (hk : g.V k = false) (hN : g.N < 256) : Calls Try.prog 6 #[.pointer (some ⟨s, 0, none⟩), .int .i64 k] w fun e w' => e = .returned (.int .i64 0) ∧ Hid (LiveS B w0 s { g with V := fun j => decide (j = k) || g.V j, N := g.N + 1 } w') := by
  obtain ⟨X, g1, rfl, h3, h4⟩ := h.on
  refine (addVS k g1 h0 h1 (h3.none_ hk) (by rw [h3.N]; exact hN)).mono ?_
  rintro e w' ⟨rfl, hh⟩
  refine ⟨rfl, h.later rfl h4 (unhide hh) ⟨fun j => ?_, by show X.N + 1 = _; rw [h3.N], h3.ps, h3.rd, h3.wr, h3.n⟩⟩
  show (putK X.f k (some w.heap.size) j).isSome = _
  unfold putK
  by_cases e : j = k
  · rw [if_pos e]; simp [e]
  · rw [if_neg e, h3.V]; simp [e]

theorem addENoL (u v n : Int) (h : LiveS B w0 s g w) (hu : okN u) (hv : okN v) (hno : g.V u = false ∨ g.V v = false) : Calls Try.prog 7 #[.pointer (some ⟨s, 0, none⟩), .int .i64 u, .int .i64 v, .int .u32 n] w fun e w' => e = .returned (.tuple #[.int .i64 0, .int .i64 5]) ∧ w' = w := by
  obtain ⟨X, g1, rfl, h3, h4⟩ := h.on
  exact addENo u v n g1 hu hv (hno.imp h3.none_ h3.none_)
theorem addEBadL (u v n : Int) (h : LiveS B w0 s g w) (hu : g.V u = true) (hv : g.V v = true) (h0 : 0 ≤ n) (hk : kept n = none) : Calls Try.prog 7 #[.pointer (some ⟨s, 0, none⟩), .int .i64 u, .int .i64 v, .int .u32 n] w fun e w' => e = .returned (.tuple #[.int .i64 0, .int .i64 7]) ∧ w' = w := by
  obtain ⟨X, g1, rfl, h3, h4⟩ := h.on
  exact addEBad u v n g1 (h3.some_ hu) (h3.some_ hv) h0 hk
theorem addEManyL {kb : Int} (u v n : Int) (h : LiveS B w0 s g w) (hu : g.V u = true) (hv : g.V v = true) (h0 : 0 ≤ n) (hk : kept n = some kb) (hf : ∀ j, j < 1024 → ∃ a, g.ps[j]? = some (a, true)) : Calls Try.prog 7 #[.pointer (some ⟨s, 0, none⟩), .int .i64 u, .int .i64 v, .int .u32 n] w fun e w' => e = .returned (.tuple #[.int .i64 0, .int .i64 8]) ∧ Hid (LiveS B w0 s g w') := by
  obtain ⟨X, g1, rfl, h3, h4⟩ := h.on
  refine (addEMany u v n g1 (h3.some_ hu) (h3.some_ hv) h0 hk (by rw [h3.ps]; exact hf)).mono ?_
  rintro e w' ⟨rfl, hh⟩
  exact ⟨rfl, h.step hh⟩
/-- The store with one edge more. -/
def Gr.ins (g : Gr) (i : Nat) (u v kb : Int) : Gr := { g with ps := (groE g.ps (i + 1)).set i (((i : Int) + 1, u, v, kb), true), wr := g.wr + 1, nb := g.nb + 65536 }
theorem shows_ins {w w' : World} {X X' : Sto} {i : Nat} {u v kb : Int} (h3 : Shows X g) (hI : Insd w X i ((i : Int) + 1, u, v, kb) w' X') : Shows X' (g.ins i u v kb) := by
  obtain ⟨-, r1, r2, r3, r4, r5, r6⟩ := hI
  refine ⟨fun j => by rw [r2]; exact h3.V j, r3.trans h3.N, by rw [r1, h3.ps]; rfl, r4.trans h3.rd, by rw [r5, h3.wr]; rfl, Nat.le_trans r6 (Nat.add_le_add_right h3.n _)⟩
theorem addEL {kb : Int} (i : Nat) (u v n : Int) (h : LiveS B w0 s g w) (hu : g.V u = true) (hv : g.V v = true) (h0 : 0 ≤ n) (hk : kept n = some kb) (hL : Least g.ps i) (hi : i < 1024) (hn : g.nb ≤ 900000000) (hw0 : 0 ≤ g.wr) (hw1 : g.wr ≤ 1000000000) : Calls Try.prog 7 #[.pointer (some ⟨s, 0, none⟩), .int .i64 u, .int .i64 v, .int .u32 n] w fun e w' => e = .returned (.tuple #[.int .i64 ((i : Int) + 1), .int .i64 0]) ∧ Hid (LiveS B w0 s (g.ins i u v kb) w') := by
  obtain ⟨X, g1, rfl, h3, h4⟩ := h.on
  refine (addES i u v n g1 (h3.some_ hu) (h3.some_ hv) h0 hk (by rw [h3.ps]; exact hL) hi (Nat.le_trans h3.n hn) (by rw [h3.wr]; exact hw0) (by rw [h3.wr]; exact hw1)).mono ?_
  rintro e w' ⟨rfl, hh⟩
  obtain ⟨X', hI⟩ := unhide hh
  exact ⟨rfl, h.later rfl h4 hI.1 (shows_ins h3 hI)⟩
theorem putERangeL (e u v n : Int) (h : LiveS B w0 s g w) (he : e < 1 ∨ 1024 < e) : Calls Try.prog 9 #[.pointer (some ⟨s, 0, none⟩), .agg #[.int .i64 e, .int .i64 u, .int .i64 v, .int .u32 n]] w fun r w' => r = .returned (.int .i64 1) ∧ Hid (LiveS B w0 s g w') := by
  obtain ⟨X, g1, rfl, h3, h4⟩ := h.on
  exact (putERange e u v n g1 he).mono fun _ _ ⟨r, hh⟩ => ⟨r, h.step hh⟩
theorem putENoL (e u v n : Int) (h : LiveS B w0 s g w) (h1 : 1 ≤ e) (h2 : e ≤ 1024) (hu : okN u) (hv : okN v) (hno : g.V u = false ∨ g.V v = false) : Calls Try.prog 9 #[.pointer (some ⟨s, 0, none⟩), .agg #[.int .i64 e, .int .i64 u, .int .i64 v, .int .u32 n]] w fun r w' => r = .returned (.int .i64 5) ∧ Hid (LiveS B w0 s g w') := by
  obtain ⟨X, g1, rfl, h3, h4⟩ := h.on
  exact (putENo e u v n g1 h1 h2 hu hv (hno.imp h3.none_ h3.none_)).mono fun _ _ ⟨r, hh⟩ => ⟨r, h.step hh⟩
theorem putEBadL (e u v n : Int) (h : LiveS B w0 s g w) (h1 : 1 ≤ e) (h2 : e ≤ 1024) (hu : g.V u = true) (hv : g.V v = true) (h0 : 0 ≤ n) (hk : kept n = none) : Calls Try.prog 9 #[.pointer (some ⟨s, 0, none⟩), .agg #[.int .i64 e, .int .i64 u, .int .i64 v, .int .u32 n]] w fun r w' => r = .returned (.int .i64 7) ∧ Hid (LiveS B w0 s g w') := by
  obtain ⟨X, g1, rfl, h3, h4⟩ := h.on
  exact (putEBad e u v n g1 h1 h2 (h3.some_ hu) (h3.some_ hv) h0 hk).mono fun _ _ ⟨r, hh⟩ => ⟨r, h.step hh⟩
theorem putETwiceL {kb : Int} {a : EdgeV} (i : Nat) (u v n : Int) (h : LiveS B w0 s g w) (hi : g.ps[i]? = some (a, true)) (hu : g.V u = true) (hv : g.V v = true) (h0 : 0 ≤ n) (hk : kept n = some kb) : Calls Try.prog 9 #[.pointer (some ⟨s, 0, none⟩), .agg #[.int .i64 ((i : Int) + 1), .int .i64 u, .int .i64 v, .int .u32 n]] w fun r w' => r = .returned (.int .i64 2) ∧ Hid (LiveS B w0 s g w') := by
  obtain ⟨X, g1, rfl, h3, h4⟩ := h.on
  exact (putETwice i u v n g1 (by rw [h3.ps]; exact hi) (h3.some_ hu) (h3.some_ hv) h0 hk).mono fun _ _ ⟨r, hh⟩ => ⟨r, h.step hh⟩
theorem putEL {kb : Int} (i : Nat) (u v n : Int) (h : LiveS B w0 s g w) (hi : i < 1024) (hfree : ∀ a, g.ps[i]? ≠ some (a, true)) (hu : g.V u = true) (hv : g.V v = true) (h0 : 0 ≤ n) (hk : kept n = some kb) (hn : g.nb ≤ 900000000) (hw0 : 0 ≤ g.wr) (hw1 : g.wr ≤ 1000000000) : Calls Try.prog 9 #[.pointer (some ⟨s, 0, none⟩), .agg #[.int .i64 ((i : Int) + 1), .int .i64 u, .int .i64 v, .int .u32 n]] w fun r w' => r = .returned (.int .i64 0) ∧ Hid (LiveS B w0 s (g.ins i u v kb) w') := by
  obtain ⟨X, g1, rfl, h3, h4⟩ := h.on
  refine (putES i u v n g1 hi (by rw [h3.ps]; exact hfree) (h3.some_ hu) (h3.some_ hv) h0 hk (Nat.le_trans h3.n hn) (by rw [h3.wr]; exact hw0) (by rw [h3.wr]; exact hw1)).mono ?_
  rintro e w' ⟨rfl, hh⟩
  obtain ⟨X', hI⟩ := unhide hh
  exact ⟨rfl, h.later rfl h4 hI.1 (shows_ins h3 hI)⟩
/-- The store with one edge less. -/
def Gr.cut (g : Gr) (i : Nat) : Gr := { g with ps := g.ps.set i (((0, 0, 0, 0) : EdgeV), false), wr := g.wr + 1, nb := g.nb + 65536 }
theorem dropENoL (e : Int) (h : LiveS B w0 s g w) (hno : ∀ (i : Nat) a, e = (i : Int) + 1 → g.ps[i]? ≠ some (a, true)) : Calls Try.prog 10 #[.pointer (some ⟨s, 0, none⟩), .int .i64 e] w fun r w' => r = .returned (.tuple #[.agg #[.int .i64 0, .int .i64 0, .int .i64 0, .int .u32 0], .int .i64 6]) ∧ Hid (LiveS B w0 s g w') := by
  obtain ⟨X, g1, rfl, h3, h4⟩ := h.on
  exact (dropENo e g1 (by rw [h3.ps]; exact hno)).mono fun _ _ ⟨r, hh⟩ => ⟨r, h.step hh⟩
theorem dropEL {a : EdgeV} (i : Nat) (h : LiveS B w0 s g w) (hi : g.ps[i]? = some (a, true)) (hn : g.nb ≤ 900000000) (hw0 : 0 ≤ g.wr) (hw1 : g.wr ≤ 1000000000) : Calls Try.prog 10 #[.pointer (some ⟨s, 0, none⟩), .int .i64 ((i : Int) + 1)] w fun r w' => r = .returned (.tuple #[.agg #[.int .i64 a.1, .int .i64 a.2.1, .int .i64 a.2.2.1, .int .u32 a.2.2.2], .int .i64 0]) ∧ Hid (LiveS B w0 s (g.cut i) w') := by
  obtain ⟨X, g1, rfl, h3, h4⟩ := h.on
  refine (dropES i g1 (by rw [h3.ps]; exact hi) (Nat.le_trans h3.n hn) (by rw [h3.wr]; exact hw0) (by rw [h3.wr]; exact hw1)).mono ?_
  rintro e w' ⟨rfl, hh⟩
  obtain ⟨X', hS, r1, r2, r3, r4, r5, r6⟩ := unhide hh
  exact ⟨rfl, h.later rfl h4 hS ⟨fun j => by rw [r2]; exact h3.V j, r3.trans h3.N, by rw [r1, h3.ps]; rfl, r4.trans h3.rd, by rw [r5, h3.wr]; rfl, Nat.le_trans r6 (Nat.add_le_add_right h3.n _)⟩⟩
theorem edgeNoL (e : Int) (h : LiveS B w0 s g w) (hno : ∀ (i : Nat) a, e = (i : Int) + 1 → g.ps[i]? ≠ some (a, true)) : Calls Try.prog 14 #[.pointer (some ⟨s, 0, none⟩), .int .i64 e] w fun r w' => r = .returned (.tuple #[.agg #[.int .i64 0, .int .i64 0, .int .i64 0, .int .u32 0], .int .i64 6]) ∧ Hid (LiveS B w0 s g w') := by
  obtain ⟨X, g1, rfl, h3, h4⟩ := h.on
  exact (edgeNo e g1 (by rw [h3.ps]; exact hno)).mono fun _ _ ⟨r, hh⟩ => ⟨r, h.step hh⟩
theorem edgeL {a : EdgeV} (i : Nat) (h : LiveS B w0 s g w) (hi : g.ps[i]? = some (a, true)) (hr0 : 0 ≤ g.rd) (hr1 : g.rd ≤ 1000000000) : Calls Try.prog 14 #[.pointer (some ⟨s, 0, none⟩), .int .i64 ((i : Int) + 1)] w fun r w' => r = .returned (.tuple #[.agg #[.int .i64 a.1, .int .i64 a.2.1, .int .i64 a.2.2.1, .int .u32 a.2.2.2], .int .i64 0]) ∧ Hid (LiveS B w0 s { g with rd := g.rd + 1 } w') := by
  obtain ⟨X, g1, rfl, h3, h4⟩ := h.on
  refine (edgeS i g1 (by rw [h3.ps]; exact hi) (by rw [h3.rd]; exact hr0) (by rw [h3.rd]; exact hr1)).mono ?_
  rintro e w' ⟨rfl, hh⟩
  exact ⟨rfl, h.later rfl h4 (unhide hh) ⟨h3.V, h3.N, h3.ps, by show X.rd + 1 = _; rw [h3.rd], h3.wr, h3.n⟩⟩
/-- The store without a vertex. -/
def Gr.lose (g : Gr) (k : Int) : Gr := { g with V := fun j => !decide (j = k) && g.V j, N := g.N - 1, ps := clr g.ps (boths g.ps k), wr := g.wr + (boths g.ps k).length, nb := g.nb + 65536 * (boths g.ps k).length }
theorem dropVNoL (k : Int) (h : LiveS B w0 s g w) (hk : okN k) (hf : g.V k = false) : Calls Try.prog 11 #[.pointer (some ⟨s, 0, none⟩), .int .i64 k] w fun r w' => r = .returned (.tuple #[.slice none 0 0, .int .i64 5]) ∧ w' = w := by
  obtain ⟨X, g1, rfl, h3, h4⟩ := h.on
  exact dropVNo k g1 hk (h3.none_ hf)
theorem dropVL (k : Int) (h : LiveS B w0 s g w) (hk : g.V k = true) (hn : g.nb ≤ 800000000) (hw0 : 0 ≤ g.wr) (hw1 : g.wr ≤ 900000000) : Calls Try.prog 11 #[.pointer (some ⟨s, 0, none⟩), .int .i64 k] w fun r w' => ∃ v', r = .returned (.tuple #[v', .int .i64 0]) ∧ Hid (LiveS B w0 s (g.lose k) w' ∧ GRow w.heap.size w' v' ((boths g.ps k).map (recOf g.ps)) ∧ 0 < g.N) := by
  obtain ⟨X, g1, rfl, h3, h4⟩ := h.on
  obtain ⟨q, hq⟩ : ∃ q, X.f k = some q := by cases e : X.f k with | none => exact absurd e (h3.some_ hk) | some q => exact ⟨q, rfl⟩
  refine (dropVS k g1 hq (Nat.le_trans h3.n hn) (by rw [h3.wr]; exact hw0) (by rw [h3.wr]; exact hw1)).mono ?_
  rintro e w' ⟨v', rfl, hh⟩
  obtain ⟨X', ⟨hS, r1, r2, r3, r4, r5, r6⟩, hG⟩ := unhide hh
  rw [h3.ps] at hG r1 r5 r6
  have hN := h3.N
  refine ⟨v', rfl, h.later rfl h4 hS ⟨fun j => ?_, ?_, r1, r4.trans h3.rd, by rw [r5, h3.wr]; rfl, Nat.le_trans r6 (Nat.add_le_add_right h3.n _)⟩, hG, by omega⟩
  · rw [r2]
    show (putK X.f k none j).isSome = _
    unfold putK
    by_cases e : j = k
    · rw [if_pos e]; simp [e, Gr.lose]
    · rw [if_neg e, h3.V]; simp [e, Gr.lose]
  · show X'.N = g.N - 1
    omega
end
end Go.Proofs.Ytanbnipndkmnlaa
