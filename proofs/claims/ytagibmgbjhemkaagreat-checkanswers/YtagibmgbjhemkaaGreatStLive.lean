/- The one store of a law: its blocks lie from B on; below B all is as in w0. -/
import Derived.Test.YtagibmgbjhemkaaGreatStAdd
import Derived.Test.YtagibmgbjhemkaaGreatStPut
import Derived.Test.YtagibmgbjhemkaaGreatStGet
import Derived.Test.YtagibmgbjhemkaaGreatStNew
import Derived.Test.YtagibmgbjhemkaaGreatStDropV
namespace Go.Proofs.YtagibmgbjhemkaaGreat
open Go.RowKit Go.Maps

/-- What a store says: its vertices, how many, its places, the gauge; nb: a bound on what its heap has seen. -/
structure Gr where
  V : Int → Bool
  N : Nat
  ps : List (EdgeV × Bool)
  rd : Int
  wr : Int
  nb : Nat

structure Shows (X : Sto) (g : Gr) : Prop where
  V : ∀ k, (X.f k).isSome = g.V k
  N : X.N = g.N
  ps : X.ps = g.ps
  rd : X.rd = g.rd
  wr : X.wr = g.wr
  n : X.n ≤ g.nb

structure LiveS [Inhabited EntI] (B : Nat) (w0 : World) (s : Nat) (g : Gr) (w : World) : Prop where
  below : Below B w0 w
  room : B ≤ w.heap.size
  on : ∃ X, StAt w X ∧ X.s = s ∧ Shows X g ∧ ∀ b, X.L b ≠ none → B ≤ b

theorem Shows.some_ {X : Sto} {g : Gr} (h : Shows X g) {k : Int} (hk : g.V k = true) : X.f k ≠ none := fun e => by
  have := h.V k; rw [e, hk] at this; cases this
theorem Shows.none_ {X : Sto} {g : Gr} (h : Shows X g) {k : Int} (hk : g.V k = false) : X.f k = none := by
  have := h.V k
  rw [hk] at this
  cases e : X.f k with
  | none => rfl
  | some q => rw [e] at this; cases this

section
variable [Inhabited EntI] {B : Nat} {w0 w w' : World} {s : Nat} {g : Gr}

theorem LiveS.step (h : LiveS B w0 s g w) (hb : Below w.heap.size w w') : LiveS B w0 s g w' := by
  obtain ⟨X, h1, h2, h3, h4⟩ := h.on
  exact ⟨h.below.trans (hb.mono h.room), Nat.le_trans h.room hb.size, X, h1.below hb, h2, h3, h4⟩
theorem LiveS.later {X X' : Sto} {g' : Gr} (h : LiveS B w0 s g w) (hs : X.s = s) (hl : ∀ b, X.L b ≠ none → B ≤ b) (hS : Step w X w' X') (hg : Shows X' g') : LiveS B w0 s g' w' := by
  obtain ⟨r1, r2, r3, r4⟩ := hS
  exact ⟨h.below.trans (r3.below h.room (fun b hb => hl b hb)), Nat.le_trans h.room r3.size, X', r1, r2.trans hs, hg, fun b hb => (r4 b hb).elim (hl b) (fun e => Nat.le_trans h.room e)⟩
theorem newL (w : World) : Calls Tryz.prog 29 #[] w fun e w' => ∃ s, e = .returned (.pointer (some ⟨s, 0, none⟩)) ∧ Hid (LiveS w.heap.size w s ⟨fun _ => false, 0, [], 0, 0, 0⟩ w') :=
  (newS w).mono fun _ _ ⟨s, he, hh⟩ => by
    obtain ⟨X, h1, h2, h3, h4, h5, h6, h7, h8, h9, h10⟩ := hh.out
    exact ⟨s, he, h2, h2.size, X, h3, h1, ⟨fun k => by rw [h6]; rfl, h7, h5, h8, h9, by rw [h10]; exact Nat.zero_le _⟩, h4⟩

theorem addVL (k : Int) (h : LiveS B w0 s g w) (h0 : 0 ≤ k) (h1 : k ≤ 2147483647) (hk : g.V k = false) (hN : g.N < 256) : Calls Tryz.prog 31 #[.pointer (some ⟨s, 0, none⟩), .int .i64 k] w fun e w' => e = .returned (.int .i64 0) ∧ Hid (LiveS B w0 s { g with V := fun j => decide (j = k) || g.V j, N := g.N + 1 } w') := by
  obtain ⟨X, g1, rfl, h3, h4⟩ := h.on
  refine (addVS k g1 h0 h1 (h3.none_ hk) (by rw [h3.N]; exact hN)).mono ?_
  rintro e w' ⟨rfl, hh⟩
  refine ⟨rfl, h.later rfl h4 (unhide hh) ⟨fun j => ?_, by show X.N + 1 = _; rw [h3.N], h3.ps, h3.rd, h3.wr, h3.n⟩⟩
  show (putK X.f k (some w.heap.size) j).isSome = _
  unfold putK
  by_cases e : j = k
  · rw [if_pos e]; simp [e]
  · rw [if_neg e, h3.V]; simp [e]

/-- The store with one edge more. -/
def Gr.ins (g : Gr) (i : Nat) (u v kb : Int) : Gr := { g with ps := (groE g.ps (i + 1)).set i (((i : Int) + 1, u, v, kb), true), wr := g.wr + 1, nb := g.nb + 65536 }
theorem shows_ins {w w' : World} {X X' : Sto} {i : Nat} {u v kb : Int} (h3 : Shows X g) (hI : Insd w X i ((i : Int) + 1, u, v, kb) w' X') : Shows X' (g.ins i u v kb) := by
  obtain ⟨-, r1, r2, r3, r4, r5, r6⟩ := hI
  refine ⟨fun j => by rw [r2]; exact h3.V j, r3.trans h3.N, by rw [r1, h3.ps]; rfl, r4.trans h3.rd, by rw [r5, h3.wr]; rfl, Nat.le_trans r6 (Nat.add_le_add_right h3.n _)⟩
theorem putEL {kb : Int} (i : Nat) (u v n : Int) (h : LiveS B w0 s g w) (hi : i < 1024) (hfree : ∀ a, g.ps[i]? ≠ some (a, true)) (hu : g.V u = true) (hv : g.V v = true) (h0 : 0 ≤ n) (hk : kept n = some kb) (hn : g.nb ≤ 900000000) (hw0 : 0 ≤ g.wr) (hw1 : g.wr ≤ 1000000000) : Calls Tryz.prog 32 #[.pointer (some ⟨s, 0, none⟩), .agg #[.int .i64 ((i : Int) + 1), .int .i64 u, .int .i64 v, .int .u32 n]] w fun r w' => r = .returned (.int .i64 0) ∧ Hid (LiveS B w0 s (g.ins i u v kb) w') := by
  obtain ⟨X, g1, rfl, h3, h4⟩ := h.on
  refine (putES i u v n g1 hi (by rw [h3.ps]; exact hfree) (h3.some_ hu) (h3.some_ hv) h0 hk (Nat.le_trans h3.n hn) (by rw [h3.wr]; exact hw0) (by rw [h3.wr]; exact hw1)).mono ?_
  rintro e w' ⟨rfl, hh⟩
  obtain ⟨X', hI⟩ := unhide hh
  exact ⟨rfl, h.later rfl h4 hI.1 (shows_ins h3 hI)⟩
/-- The store with one edge less. -/
def Gr.cut (g : Gr) (i : Nat) : Gr := { g with ps := g.ps.set i (((0, 0, 0, 0) : EdgeV), false), wr := g.wr + 1, nb := g.nb + 65536 }
/-- The store without a vertex. -/
def Gr.lose (g : Gr) (k : Int) : Gr := { g with V := fun j => !decide (j = k) && g.V j, N := g.N - 1, ps := clr g.ps (boths g.ps k), wr := g.wr + (boths g.ps k).length, nb := g.nb + 65536 * (boths g.ps k).length }
end
end Go.Proofs.YtagibmgbjhemkaaGreat
