/- The one heap of a law: texts as keys, an order that says nothing: keys come out as they came. -/
import Derived.Test.YtfhpabcjbjmcmaaApiT2
namespace Go.Proofs.Ytfhpabcjbjmcmaa
open Go.RowKit Go.Maps

/-- The heap's blocks lie from B on; below B all is as in w0. -/
structure LiveT [Inhabited EntT] (B : Nat) (w0 : World) (p : Nat) (ms : List EntT) (n : Nat) (w : World) : Prop where
  below : Below B w0 w
  room : B ≤ w.heap.size
  on : ∃ m lv v es, HAtT w p m lv v es n ∧ LessF lv ∧ Is g0 es ms n ∧ ∀ k, Foot p m v k → B ≤ k

theorem LiveT.step [Inhabited EntT] {B : Nat} {w0 w w' : World} {p n : Nat} {ms : List EntT} (h : LiveT B w0 p ms n w) (hb : Below w.heap.size w w') : LiveT B w0 p ms n w' := by
  obtain ⟨m, lv, v, es, h1, h2, h3, h4⟩ := h.on
  exact ⟨h.below.trans (hb.mono h.room), Nat.le_trans h.room hb.size, m, lv, v, es, h1.below hb, h2, h3, h4⟩

theorem LiveT.once [Inhabited EntT] {B : Nat} {w0 w : World} {p n : Nat} {ms : List EntT} (h : LiveT B w0 p ms n w) : KeysOnce ms := by
  obtain ⟨m, lv, v, es, h1, -, h3, -⟩ := h.on
  obtain ⟨D, -, hM⟩ := h1.map
  exact keysOnce_perm h3.perm hM.once

theorem newLT [Inhabited EntT] (w : World) : Calls Try.prog 18 #[.nilFunc] w fun e w' => ∃ p, e = .returned (.pointer (some ⟨p, 0, none⟩)) ∧ LiveT w.heap.size w p [] 0 w' := by
  refine (newT w).mono ?_
  rintro e w' ⟨he, hh⟩
  obtain ⟨g1, g2⟩ := hh.out
  refine ⟨_, he, g2, g2.size, _, _, _, _, g1, lessF43, is_nil _, fun j hf => ?_⟩
  rcases hf with hf | hf | hf
  · omega
  · omega
  · simp [Value.ownBlock] at hf

theorem lenLT [Inhabited EntT] {B : Nat} {w0 w : World} {p n : Nat} {ms : List EntT} (h : LiveT B w0 p ms n w) :
    Calls Try.prog 23 #[.pointer (some ⟨p, 0, none⟩)] w fun e w' => e = .returned (.int .i64 ms.length) ∧ w' = w := by
  obtain ⟨m, lv, v, es, h1, -, h3, -⟩ := h.on
  rw [← h3.perm.length_eq]
  exact lenT w h1

theorem pushInLT [Inhabited EntT] {B : Nat} {w0 w : World} {p n : Nat} {ms : List EntT} (k : ByteArray) (r : Int × Int) (h : LiveT B w0 p ms n w) (hk : KeyOkT k) (hin : ∃ x ∈ ms, x.key = k) :
    Calls Try.prog 19 #[.pointer (some ⟨p, 0, none⟩), .string k, .agg #[.int .i64 r.1, .int .i64 r.2]] w fun e w' => e = .returned (.bool false) ∧ LiveT B w0 p ms n w' := by
  obtain ⟨m, lv, v, es, h1, -, h3, -⟩ := h.on
  obtain ⟨x, hx, hxk⟩ := hin
  exact (pushInT k r w h1 hk ⟨x, h3.perm.mem_iff.2 hx, hxk⟩).mono fun _ _ hh => ⟨hh.1, h.step hh.2⟩

theorem pushLT [Inhabited EntT] {B : Nat} {w0 w : World} {p n : Nat} {ms : List EntT} (k : ByteArray) (r : Int × Int) (h : LiveT B w0 p ms n w) (hk : KeyOkT k) (hnin : ∀ x ∈ ms, x.key ≠ k) (hn : ms.length < 1099511627776) (hnn : n < 1099511627776) :
    Calls Try.prog 19 #[.pointer (some ⟨p, 0, none⟩), .string k, .agg #[.int .i64 r.1, .int .i64 r.2]] w fun e w' => e = .returned (.bool true) ∧ LiveT B w0 p (ms ++ [⟨k, r, n⟩]) (n + 1) w' := by
  obtain ⟨m, lv, v, es, h1, h2, h3, h4⟩ := h.on
  refine (pushNewT k r w h1 h2 hk (fun x hx => hnin x (h3.perm.mem_iff.1 hx)) (by rw [h3.perm.length_eq]; exact hn) hnn).mono ?_
  rintro e w' ⟨he, hh⟩
  obtain ⟨v', es', g1, g2, g3, g4, g5⟩ := hh.out
  refine ⟨he, h.below.trans (g3.below h.room h4), Nat.le_trans h.room g3.size, m, lv, v', es', g2, h2, h3.push g1 (g5 h3.ord), fun j hf => ?_⟩
  rcases hf with hf | hf | hf
  · exact h4 j (.inl hf)
  · exact h4 j (.inr (.inl hf))
  · rcases g4 j hf with e | e
    · exact h4 j (.inr (.inr e))
    · exact Nat.le_trans h.room e

theorem lowerLT [Inhabited EntT] {B : Nat} {w0 w : World} {p n : Nat} {ms : List EntT} (k : ByteArray) (r : Int × Int) (h : LiveT B w0 p ms n w) (hk : KeyOkT k) :
    Calls Try.prog 20 #[.pointer (some ⟨p, 0, none⟩), .string k, .agg #[.int .i64 r.1, .int .i64 r.2]] w fun e w' => e = .returned (.bool false) ∧ LiveT B w0 p ms n w' := by
  obtain ⟨m, lv, v, es, h1, h2, h3, h4⟩ := h.on
  by_cases hin : ∃ x ∈ es, x.key = k
  · obtain ⟨x, hx, rfl⟩ := hin
    obtain ⟨i, hi, rfl⟩ := mem_at hx
    exact (lowerInT i r w h1 h2 hi).mono fun _ _ hh => ⟨hh.1, h.step hh.2⟩
  · exact (lowerOutT k r w h1 hk (fun x hx e => hin ⟨x, hx, e⟩)).mono fun _ _ hh => ⟨hh.1, h.step hh.2⟩

theorem getLT [Inhabited EntT] {B : Nat} {w0 w : World} {p n : Nat} {ms : List EntT} {x : EntT} (h : LiveT B w0 p ms n w) (hx : x ∈ ms) :
    Calls Try.prog 21 #[.pointer (some ⟨p, 0, none⟩), .string x.key] w fun e w' => e = .returned (.tuple #[.agg #[.int .i64 x.rank.1, .int .i64 x.rank.2], .bool true]) ∧ LiveT B w0 p ms n w' := by
  obtain ⟨m, lv, v, es, h1, h2, h3, h4⟩ := h.on
  obtain ⟨i, hi, rfl⟩ := mem_at (h3.perm.mem_iff.2 hx)
  exact (getInT i w h1 hi).mono fun _ _ hh => ⟨hh.1, h.step hh.2⟩

/-- The first that came. -/
theorem popLT [Inhabited EntT] {B : Nat} {w0 w : World} {p n : Nat} {x : EntT} {ms : List EntT} (h : LiveT B w0 p (x :: ms) n w) (hn : ms.length < 1099511627776) :
    Calls Try.prog 22 #[.pointer (some ⟨p, 0, none⟩)] w fun e w' => e = .returned (.tuple #[.string x.key, .agg #[.int .i64 x.rank.1, .int .i64 x.rank.2], .bool true]) ∧ LiveT B w0 p ms n w' := by
  have hon := h.once
  obtain ⟨m, lv, v, es, h1, h2, h3, h4⟩ := h.on
  have hl : 0 < es.length := by rw [h3.perm.length_eq]; simp
  obtain ⟨f1, f2⟩ := h3.first hl
  have hx : at_ es 0 = x := by
    have h5 := f2 x (List.mem_cons_self ..)
    have h6 := List.pairwise_cons.1 h3.turns
    rcases List.mem_cons.1 f1 with e | e
    · exact e
    · have := h6.1 _ e
      simp only [le, g0] at h5
      omega
  have hw : without x.key (x :: ms) = ms := by
    have h6 := List.pairwise_cons.1 hon
    unfold without
    rw [List.filter_cons, if_neg (by simp)]
    exact List.filter_eq_self.2 (fun y hy => by simpa using Ne.symm (h6.1 y hy))
  refine (popSomeT w h1 h2 hl (by rw [h3.perm.length_eq]; simp; omega)).mono ?_
  rintro e w' ⟨he, hh⟩
  obtain ⟨v', es', g1, g2, g3, g4, g5⟩ := hh.out
  rw [hx] at he g1
  have hi := h3.without g1 (g5 h3.ord)
  rw [hw] at hi
  refine ⟨he, h.below.trans (g3.below h.room h4), Nat.le_trans h.room g3.size, m, lv, v', es', g2, h2, hi, fun j hf => ?_⟩
  rcases hf with hf | hf | hf
  · exact h4 j (.inl hf)
  · exact h4 j (.inr (.inl hf))
  · exact h4 j (.inr (.inr (by rw [← g4]; exact hf)))
end Go.Proofs.Ytfhpabcjbjmcmaa
