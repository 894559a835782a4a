/- A heap of texts and the row of the keys that came, side by side. -/
import Derived.Test.YtfhpabcjbjmcmaaLiveT
namespace Go.Proofs.Ytfhpabcjbjmcmaa
open Go.RowKit Go.Maps

structure Came [Inhabited EntT] (B : Nat) (w0 : World) (p : Nat) (ms : List EntT) (n : Nat) (v : Value) (cs : List ByteArray) (w : World) : Prop where
  below : Below B w0 w
  room : B ≤ w.heap.size
  row : w.ownsRow B 9 1 v cs.length (cs.map .string)
  on : ∃ m lv u es, HAtT w p m lv u es n ∧ LessF lv ∧ Is g0 es ms n ∧ (∀ k, Foot p m u k → B ≤ k) ∧ ∀ b, v.ownBlock = some b → ¬ Foot p m u b

theorem row_kept {w w' : World} {v : Value} {B L : Nat} {xs : List Value} (h : w.ownsRow B 9 1 v L xs) (hk : ∀ k, v.ownBlock = some k → w'.heap[k]? = w.heap[k]?) : w'.ownsRow B 9 1 v L xs := by
  refine ⟨h.1, ?_⟩
  rcases h.2 with hn | ⟨g, cap, cur, rfl, hb, hgg, rest⟩
  · exact .inl hn
  · exact .inr ⟨g, cap, cur, rfl, hb, (hk g rfl).trans hgg, rest⟩

section
variable [Inhabited EntT] {B : Nat} {w0 w : World} {p n : Nat} {ms : List EntT} {v : Value} {cs : List ByteArray}

theorem LiveT.came (h : LiveT B w0 p ms n w) : Came B w0 p ms n (.slice none 0 0) [] w := by
  obtain ⟨m, lv, u, es, h1, h2, h3, h4⟩ := h.on
  exact ⟨h.below, h.room, World.ownsRow_nil _ _ _ _, m, lv, u, es, h1, h2, h3, h4, fun b hb => by simp [Value.ownBlock] at hb⟩

theorem Came.step {w' : World} (h : Came B w0 p ms n v cs w) (hb : Below w.heap.size w w') : Came B w0 p ms n v cs w' := by
  obtain ⟨m, lv, u, es, h1, h2, h3, h4, h5⟩ := h.on
  exact ⟨h.below.trans (hb.mono h.room), Nat.le_trans h.room hb.size, row_kept h.row (fun k hk => hb.block k (h.row.lt k hk).2), m, lv, u, es, h1.below hb, h2, h3, h4, h5⟩

theorem Came.grown {w' : World} {v' : Value} {cs' : List ByteArray} (h : Came B w0 p ms n v cs w) (hr : w'.ownsRow B 9 1 v' cs'.length (cs'.map .string)) (hg : w.grownBy w' v.ownBlock) (hv : ∀ b, v'.ownBlock = some b → v.ownBlock = some b ∨ w.heap.size ≤ b) : Came B w0 p ms n v' cs' w' := by
  obtain ⟨m, lv, u, es, h1, h2, h3, h4, h5⟩ := h.on
  refine ⟨h.below.grown hg h.room (fun k hk => (h.row.lt k hk).1), Nat.le_trans h.room hg.size, hr, m, lv, u, es, h1.kept (fun k hk => hg.block k (h1.lt hk) (fun e => h5 k e.symm hk)), h2, h3, h4, fun b hb hf => ?_⟩
  rcases hv b hb with e | e
  · exact h5 b e hf
  · have := h1.lt hf; omega

theorem Came.once (h : Came B w0 p ms n v cs w) : KeysOnce ms := by
  obtain ⟨m, lv, u, es, h1, -, h3, -⟩ := h.on
  obtain ⟨D, -, hM⟩ := h1.map
  exact keysOnce_perm h3.perm hM.once

theorem lenC (h : Came B w0 p ms n v cs w) : Calls Try.prog 23 #[.pointer (some ⟨p, 0, none⟩)] w fun e w' => e = .returned (.int .i64 ms.length) ∧ w' = w := by
  obtain ⟨m, lv, u, es, h1, -, h3, -⟩ := h.on
  rw [← h3.perm.length_eq]
  exact lenT w h1

theorem pushInC (k : ByteArray) (r : Int × Int) (h : Came B w0 p ms n v cs w) (hk : KeyOkT k) (hin : ∃ x ∈ ms, x.key = k) :
    Calls Try.prog 19 #[.pointer (some ⟨p, 0, none⟩), .string k, .agg #[.int .i64 r.1, .int .i64 r.2]] w fun e w' => e = .returned (.bool false) ∧ Came B w0 p ms n v cs w' := by
  obtain ⟨m, lv, u, es, h1, -, h3, -⟩ := h.on
  obtain ⟨x, hx, hxk⟩ := hin
  exact (pushInT k r w h1 hk ⟨x, h3.perm.mem_iff.2 hx, hxk⟩).mono fun _ _ hh => ⟨hh.1, h.step hh.2⟩

theorem pushC (k : ByteArray) (r : Int × Int) (h : Came B w0 p ms n v cs w) (hk : KeyOkT k) (hnin : ∀ x ∈ ms, x.key ≠ k) (hn : ms.length < 1099511627776) (hnn : n < 1099511627776) :
    Calls Try.prog 19 #[.pointer (some ⟨p, 0, none⟩), .string k, .agg #[.int .i64 r.1, .int .i64 r.2]] w fun e w' => e = .returned (.bool true) ∧ Came B w0 p (ms ++ [⟨k, r, n⟩]) (n + 1) v cs w' := by
  obtain ⟨m, lv, u, es, h1, h2, h3, h4, h5⟩ := h.on
  refine (pushNewT k r w h1 h2 hk (fun x hx => hnin x (h3.perm.mem_iff.1 hx)) (by rw [h3.perm.length_eq]; exact hn) hnn).mono ?_
  rintro e w' ⟨he, hh⟩
  obtain ⟨u', es', g1, g2, g3, g4, g5⟩ := hh.out
  have hf : ∀ j, Foot p m u' j → Foot p m u j ∨ w.heap.size ≤ j := fun j hf => by
    rcases hf with hf | hf | hf
    · exact .inl (.inl hf)
    · exact .inl (.inr (.inl hf))
    · rcases g4 j hf with e | e
      · exact .inl (.inr (.inr e))
      · exact .inr e
  refine ⟨he, h.below.trans (g3.below h.room h4), Nat.le_trans h.room g3.size, row_kept h.row (fun k hk => g3.block k (h.row.lt k hk).2 (h5 k hk)), m, lv, u', es', g2, h2, h3.push g1 (g5 h3.ord), fun j hj => ?_, fun b hb hj => ?_⟩
  · rcases hf j hj with e | e
    · exact h4 j e
    · exact Nat.le_trans h.room e
  · rcases hf b hj with e | e
    · exact h5 b hb e
    · have := (h.row.lt b hb).2; omega

theorem lowerC (k : ByteArray) (r : Int × Int) (h : Came B w0 p ms n v cs w) (hk : KeyOkT k) :
    Calls Try.prog 20 #[.pointer (some ⟨p, 0, none⟩), .string k, .agg #[.int .i64 r.1, .int .i64 r.2]] w fun e w' => e = .returned (.bool false) ∧ Came B w0 p ms n v cs w' := by
  obtain ⟨m, lv, u, es, h1, h2, h3, h4⟩ := h.on
  by_cases hin : ∃ x ∈ es, x.key = k
  · obtain ⟨x, hx, rfl⟩ := hin
    obtain ⟨i, hi, rfl⟩ := mem_at hx
    exact (lowerInT i r w h1 h2 hi).mono fun _ _ hh => ⟨hh.1, h.step hh.2⟩
  · exact (lowerOutT k r w h1 hk (fun x hx e => hin ⟨x, hx, e⟩)).mono fun _ _ hh => ⟨hh.1, h.step hh.2⟩

theorem getC {x : EntT} (h : Came B w0 p ms n v cs w) (hx : x ∈ ms) :
    Calls Try.prog 21 #[.pointer (some ⟨p, 0, none⟩), .string x.key] w fun e w' => e = .returned (.tuple #[.agg #[.int .i64 x.rank.1, .int .i64 x.rank.2], .bool true]) ∧ Came B w0 p ms n v cs w' := by
  obtain ⟨m, lv, u, es, h1, h2, h3, h4⟩ := h.on
  obtain ⟨i, hi, rfl⟩ := mem_at (h3.perm.mem_iff.2 hx)
  exact (getInT i w h1 hi).mono fun _ _ hh => ⟨hh.1, h.step hh.2⟩

/-- The first that came; what lies above is left alone. -/
theorem popC {x : EntT} {w4 : World} (h4 : Came B w0 p (x :: ms) n v cs w4) (hb4 : Below w4.heap.size w4 w) (hn : ms.length < 1099511627776) :
    Calls Try.prog 22 #[.pointer (some ⟨p, 0, none⟩)] w fun e w' => e = .returned (.tuple #[.string x.key, .agg #[.int .i64 x.rank.1, .int .i64 x.rank.2], .bool true]) ∧ Came B w0 p ms n v cs w' ∧ w.heap.size ≤ w'.heap.size ∧ ∀ k, w4.heap.size ≤ k → k < w.heap.size → w'.heap[k]? = w.heap[k]? := by
  have h := h4.step hb4
  have hon := h.once
  obtain ⟨m, lv, u, es, h0, h2, h3, h4, h5⟩ := h4.on
  have h1 := h0.below hb4
  have hrow := h.row
  have hl : 0 < es.length := by rw [h3.perm.length_eq]; simp
  obtain ⟨f1, f2⟩ := h3.first hl
  have hx : at_ es 0 = x := by
    have h5 := f2 x (List.mem_cons_self ..)
    have h6 := List.pairwise_cons.1 h3.turns
    rcases List.mem_cons.1 f1 with e | e
    · exact e
    · have := h6.1 _ e
      simp only [le, g0] at h5
      omega
  have hw : without x.key (x :: ms) = ms := by
    have h6 := List.pairwise_cons.1 hon
    unfold without
    rw [List.filter_cons, if_neg (by simp)]
    exact List.filter_eq_self.2 (fun y hy => by simpa using Ne.symm (h6.1 y hy))
  refine (popSomeT w h1 h2 hl (by rw [h3.perm.length_eq]; simp; omega)).mono ?_
  rintro e w' ⟨he, hh⟩
  obtain ⟨u', es', g1, g2, g3, g4, g5⟩ := hh.out
  rw [hx] at he g1
  have hi := h3.without g1 (g5 h3.ord)
  rw [hw] at hi
  have hf : ∀ j, Foot p m u' j → Foot p m u j := fun j hf => by
    rcases hf with hf | hf | hf
    · exact .inl hf
    · exact .inr (.inl hf)
    · exact .inr (.inr (by rw [← g4]; exact hf))
  refine ⟨he, ⟨h.below.trans (g3.below h.room h4), Nat.le_trans h.room g3.size, row_kept hrow (fun k hk => g3.block k (hrow.lt k hk).2 (h5 k hk)), m, lv, u', es', g2, h2, hi, fun j hj => h4 j (hf j hj), fun b hb hj => h5 b hb (hf b hj)⟩, g3.size, fun k hk1 hk2 => g3.block k hk2 (fun hf => ?_)⟩
  have := h0.lt hf
  omega
end
end Go.Proofs.Ytfhpabcjbjmcmaa
