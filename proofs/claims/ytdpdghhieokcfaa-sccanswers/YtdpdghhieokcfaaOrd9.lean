/- order: the mathematics, and what lies in memory. -/
import Derived.Test.YtdpdghhieokcfaaBet92
namespace Go.Proofs.Ytdpdghhieokcfaa
open Go.RowKit Go.Maps T9
namespace T9
theorem nodup_lt : ∀ {N : Nat} {l : List Nat}, l.Nodup → (∀ x ∈ l, x < N) → l.length ≤ N
  | 0, l, _, hl => by
    cases l with
    | nil => exact Nat.le_refl _
    | cons x l => exact absurd (hl x (by simp)) (Nat.not_lt_zero _)
  | N + 1, l, hd, hl => by
    by_cases h : N ∈ l
    · have h1 := nodup_lt (N := N) (hd.erase N) (fun x hx => by
        have h2 := (hd.mem_erase_iff).1 hx
        have := hl x h2.2
        have := h2.1
        omega)
      rw [List.length_erase_of_mem h] at h1
      omega
    · have h1 := nodup_lt (N := N) hd (fun x hx => by
        have := hl x hx
        have : x ≠ N := fun e => h (e ▸ hx)
        omega)
      omega
theorem count_ow (ar : List (Nat × Nat)) (u m : Nat) : (owOf ar u).count m = ar.countP (fun a => decide (a = (u, m))) := by
  induction ar with
  | nil => rfl
  | cons a ar ih =>
    obtain ⟨x, y⟩ := a
    unfold owOf at ih ⊢
    rw [List.countP_cons, List.filter_cons]
    by_cases e1 : x = u
    · subst e1
      simp only [decide_true, if_true, List.map_cons, List.count_cons, ih]
      by_cases e2 : y = m
      · subst e2; simp
      · have e3 : (y == m) = false := by simpa using e2
        simp [e2]
    · simp only [e1, decide_false]
      have : ((x, y) = (u, m)) = False := by simp [e1]
      simp [this, ih]
/-- How many arcs m waits for, while those of u are told. -/
def wtAt (ar : List (Nat × Nat)) (T : List Nat) (u i m : Nat) : Nat := waits ar T m - ((owOf ar u).take i).count m
theorem wt_zero (ar : List (Nat × Nat)) (T : List Nat) (u m : Nat) : wtAt ar T u 0 m = waits ar T m := by simp [wtAt]
theorem wt_end {ar : List (Nat × Nat)} {T : List Nat} {u : Nat} (hu : u ∉ T) (m : Nat) : wtAt ar T u (owOf ar u).length m = waits ar (T ++ [u]) m := by
  unfold wtAt
  have := waits_tell (ar := ar) (m := m) hu
  rw [List.take_length, count_ow]; omega
theorem wt_step {ar : List (Nat × Nat)} {T : List Nat} {u i x : Nat} (hu : u ∉ T) (hx : (owOf ar u)[i]? = some x) : wtAt ar T u i x = wtAt ar T u (i + 1) x + 1 ∧ ∀ y, y ≠ x → wtAt ar T u (i + 1) y = wtAt ar T u i y := by
  have ht := take_snoc hx
  constructor
  · unfold wtAt
    have h1 := waits_tell (ar := ar) (m := x) hu
    have h2 : ((owOf ar u).take (i + 1)).count x ≤ (owOf ar u).count x := (List.take_sublist _ _).count_le x
    rw [count_ow] at h2
    rw [ht, List.count_append] at h2 ⊢
    simp only [List.count_singleton, beq_self_eq_true, if_true] at h2 ⊢
    omega
  · intro y hy
    unfold wtAt
    rw [ht, List.count_append]
    have e : (x == y) = false := by simpa using fun e => hy e.symm
    simp [List.count_singleton, e]
theorem mem_ow {ar : List (Nat × Nat)} {u x : Nat} (h : x ∈ owOf ar u) : (u, x) ∈ ar := by
  unfold owOf at h
  obtain ⟨⟨a, b⟩, h1, h2⟩ := List.mem_map.1 h
  obtain ⟨h3, h4⟩ := List.mem_filter.1 h1
  simp at h4 h2
  rw [← h4, ← h2]; exact h3
theorem waits_nil (ar : List (Nat × Nat)) (m : Nat) : waits ar [] m = wtOf ar m := by
  unfold waits wtOf
  congr 1
  funext a
  simp
/-- What stands in the heap amid a round. -/
def InHeap (hs : List Nat) (ar : List (Nat × Nat)) (T : List Nat) (u i m : Nat) : Prop := m ∈ hs ∧ m ∉ T ∧ m ≠ u ∧ wtAt ar T u i m = 0
theorem inHeap_start {hs : List Nat} {ar : List (Nat × Nat)} {T : List Nat} {u m : Nat} : InHeap hs ar T u 0 m ↔ Free hs ar T m ∧ m ≠ u := by
  unfold InHeap Free
  rw [wt_zero, waits_zero]
  constructor
  · rintro ⟨a, b, c, d⟩; exact ⟨⟨a, b, d⟩, c⟩
  · rintro ⟨⟨a, b, d⟩, c⟩; exact ⟨a, b, c, d⟩
theorem inHeap_end {hs : List Nat} {ar : List (Nat × Nat)} {T : List Nat} {u m : Nat} (hu : u ∉ T) : InHeap hs ar T u (owOf ar u).length m ↔ Free hs ar (T ++ [u]) m := by
  unfold InHeap Free
  rw [wt_end hu, waits_zero]
  simp only [List.mem_append, List.mem_singleton, not_or]
  constructor
  · rintro ⟨a, b, c, d⟩; exact ⟨a, ⟨b, c⟩, d⟩
  · rintro ⟨a, ⟨b, c⟩, d⟩; exact ⟨a, b, c, d⟩
/-- To what arcs lead from the one told next isn't told. -/
theorem Told.later {hs : List Nat} {ar : List (Nat × Nat)} {T : List Nat} {u x : Nat} (h : Told hs ar T) (hu : u ∉ T) (ha : (u, x) ∈ ar) : x ∉ T := fun hx => by
  obtain ⟨l1, l2, e, h1⟩ := h.ahead u x ha hx
  exact hu (by rw [e]; simp [h1])
end T9
/-- The heap's keys are these places, each its own rank. -/
def HK (Tm : Nat → Prop) (ms : List EntI) : Prop := (∀ x ∈ ms, ∃ m : Nat, x.key = (m : Int) ∧ x.rank = (m : Int) ∧ Tm m) ∧ ∀ m : Nat, Tm m → ∃ x ∈ ms, x.key = (m : Int)
theorem HK.congr {A B : Nat → Prop} {ms : List EntI} (h : HK A ms) (e : ∀ m, A m ↔ B m) : HK B ms :=
  ⟨fun x hx => by obtain ⟨m, a, b, c⟩ := h.1 x hx; exact ⟨m, a, b, (e m).1 c⟩, fun m hm => h.2 m ((e m).2 hm)⟩
theorem HK.push {A : Nat → Prop} {ms : List EntI} (h : HK A ms) (k t : Nat) : HK (fun m => A m ∨ m = k) (ms ++ [⟨(k : Int), (k : Int), t⟩]) := by
  refine ⟨fun x hx => ?_, fun m hm => ?_⟩
  · rcases List.mem_append.1 hx with q | q
    · obtain ⟨m, a, b, c⟩ := h.1 x q; exact ⟨m, a, b, .inl c⟩
    · rw [List.mem_singleton.1 q]; exact ⟨k, rfl, rfl, .inr rfl⟩
  · rcases hm with q | q
    · obtain ⟨x, a, b⟩ := h.2 m q; exact ⟨x, List.mem_append.2 (.inl a), b⟩
    · exact ⟨⟨(k : Int), (k : Int), t⟩, by simp, by rw [q]⟩
theorem HK.pop {A : Nat → Prop} {ms : List EntI} {u : Nat} {x : EntI} (h : HK A ms) (hx : x.key = (u : Int)) : HK (fun m => A m ∧ m ≠ u) (without x.key ms) := by
  refine ⟨fun y hy => ?_, fun m hm => ?_⟩
  · obtain ⟨y1, y2⟩ := mem_without.1 hy
    obtain ⟨m, a, b, c⟩ := h.1 y y1
    exact ⟨m, a, b, c, fun e => y2 (by rw [a, hx, e])⟩
  · obtain ⟨y, a, b⟩ := h.2 m hm.1
    exact ⟨y, mem_without.2 ⟨a, fun e => hm.2 (by rw [b, hx] at e; omega)⟩, b⟩
theorem HK.len {A : Nat → Prop} {ms : List EntI} {N : Nat} (h : HK A ms) (ho : KeysOnce ms) (hN : ∀ m, A m → m < N) : ms.length ≤ N := by
  have h1 : (ms.map (fun x => x.key.toNat)).Nodup := by
    unfold List.Nodup
    rw [List.pairwise_map]
    refine List.Pairwise.imp_of_mem (fun {a b} ha hb hab e => ?_) ho
    obtain ⟨m, e1, -⟩ := h.1 a ha
    obtain ⟨m', e2, -⟩ := h.1 b hb
    rw [e1, e2] at hab e
    simp at e
    exact hab (by rw [e])
  have h2 := nodup_lt (N := N) h1 (fun x hx => by
    obtain ⟨y, hy, rfl⟩ := List.mem_map.1 hx
    obtain ⟨m, e1, -, e3⟩ := h.1 y hy
    rw [e1]; simpa using hN m e3)
  rwa [List.length_map] at h2
/-- All that order keeps. -/
structure OM [Inhabited EntI] (w0 : World) (n : Nat) (ow : Nat → List Nat) (wt h : Nat → Nat) (hvv wv ov tv : Value) (ovs : List Value) (L : Nat → Nat) (p : Nat) (F : Nat → Prop) (ms : List EntI) (hn : Nat) (tl : List Int) (w : World) : Prop where
  ll : LLat w0.heap.size L 10 w ov ovs (nxl n ow)
  wr : BRow w0.heap.size w wv (rowI n (fun m => ((wt m : Nat) : Int)))
  hr : BRow w0.heap.size w hvv (rowI n (fun m => ((h m : Nat) : Int)))
  tr : BRow w0.heap.size w tv tl
  hp : OnI w p F ms hn
  l2 : ∀ b, wv.ownBlock = some b → L b = 2
  l3 : ∀ b, hvv.ownBlock = some b → L b = 3
  l4 : ∀ b, tv.ownBlock = some b → L b = 4
  l5 : ∀ b, F b → L b = 5
  below : Below w0.heap.size w0 w
  fb : ∀ b, F b → w0.heap.size ≤ b
section
variable [Inhabited EntI] {w0 w w' : World} {n : Nat} {ow : Nat → List Nat} {wt h : Nat → Nat} {hvv wv ov tv : Value} {ovs : List Value} {L : Nat → Nat} {p : Nat} {F : Nat → Prop} {ms : List EntI} {hn : Nat} {tl : List Int}
/-- A call of the heap. -/
theorem OM.heap {F' : Nat → Prop} {ms' : List EntI} {hn' : Nat} (H : OM w0 n ow wt h hvv wv ov tv ovs L p F ms hn tl w) (ho : OnI w' p F' ms' hn') (ht : Turned F w w') (hf : ∀ j, F' j → F j ∨ w.heap.size ≤ j) : OM w0 n ow wt h hvv wv ov tv ovs (lab L w.heap.size 5) p F' ms' hn' tl w' := by
  have hk : ∀ b, b < w.heap.size → L b ≠ 5 → w'.heap[b]? = w.heap[b]? := fun b hb hL => ht.block b hb (fun e => hL (H.l5 b e))
  have hs := H.below.size
  refine ⟨(H.ll.named 5).kept (fun b hb hL => hk b hb (fun e => by unfold lab at hL; rw [if_pos hb] at hL; omega)), brow_kept H.wr (fun b e => hk b (H.wr.lt b e).2 (by rw [H.l2 b e]; decide)), brow_kept H.hr (fun b e => hk b (H.hr.lt b e).2 (by rw [H.l3 b e]; decide)), brow_kept H.tr (fun b e => hk b (H.tr.lt b e).2 (by rw [H.l4 b e]; decide)), ho, fun b e => (if_pos (H.wr.lt b e).2).trans (H.l2 b e), fun b e => (if_pos (H.hr.lt b e).2).trans (H.l3 b e), fun b e => (if_pos (H.tr.lt b e).2).trans (H.l4 b e), fun b e => ?_, H.below.trans (ht.below hs H.fb), fun b e => ?_⟩
  · rcases hf b e with q | q
    · exact (if_pos (H.hp.lt q)).trans (H.l5 b q)
    · exact if_neg (by omega)
  · rcases hf b e with q | q
    · exact H.fb b q
    · omega
theorem OM.drew (H : OM w0 n ow wt h hvv wv ov tv ovs L p F ms hn tl w) (q : Nat) : OM w0 n ow wt h hvv wv ov tv ovs L p F ms hn tl (w.drewN q) :=
  ⟨H.ll.kept (fun _ _ _ => rfl), brow_kept H.wr (fun _ _ => rfl), brow_kept H.hr (fun _ _ => rfl), brow_kept H.tr (fun _ _ => rfl), H.hp.kept (fun _ _ => rfl), H.l2, H.l3, H.l4, H.l5, ⟨H.below.os, H.below.tape, H.below.output, H.below.size, H.below.block⟩, H.fb⟩
/-- One wait less. -/
theorem OM.setW {g m c q : Nat} (H : OM w0 n ow wt h hvv wv ov tv ovs L p F ms hn tl w) (e : wv = .slice (some ⟨g, 0, none⟩) m c) (hq : q < m) {wt' : Nat → Nat} {x : Nat} (h1 : ∀ y, wt' y = if y = q then x else wt y) : OM w0 n ow wt' h hvv wv ov tv ovs L p F ms hn tl (w.setCell ⟨g, q, none⟩ (.int .i64 (x : Nat))) := by
  have hg : L g = 2 := H.l2 g (by rw [e]; rfl)
  have hk : ∀ b, L b ≠ 2 → (w.setCell ⟨g, q, none⟩ (.int .i64 (x : Nat))).heap[b]? = w.heap[b]? := fun b hL => heap_setCell_other _ _ _ _ (fun q => hL (by rw [show b = g from q]; exact hg))
  have h2 := H.wr
  rw [e] at h2
  have h3 := (brow_set h2 (k := q) ((x : Nat) : Int) hq).2
  rw [rowI_set, ← e, rowI_congr (g := fun m => ((wt' m : Nat) : Int)) (fun y _ => by
    rw [h1 y]
    by_cases e2 : y = q
    · rw [if_pos e2, if_pos e2]
    · rw [if_neg e2, if_neg e2])] at h3
  exact ⟨H.ll.kept (fun b _ hL => hk b (by omega)), h3, brow_kept H.hr (fun b eb => hk b (by rw [H.l3 b eb]; decide)), brow_kept H.tr (fun b eb => hk b (by rw [H.l4 b eb]; decide)), H.hp.kept (fun b hb => hk b (by rw [H.l5 b hb]; decide)), H.l2, H.l3, H.l4, H.l5, H.below.setCell (row_own H.wr e).1 _, H.fb⟩
/-- One told. -/
theorem OM.tell (H : OM w0 n ow wt h hvv wv ov tv ovs L p F ms hn tl w) (x : Int) (hl : tl.length ≤ 1000000) : ∃ a' n' c' w', (∀ ty, (Builtin.append_ #[22, 22] ty #[tv, .slice (some ⟨w.heap.size, 0, none⟩) 1 1]).run Try.prog (w.alloc (.cells #[.int .i64 x] 3)) = .ok (.slice a' n' c') w') ∧ OM w0 n ow wt h hvv wv ov (.slice a' n' c') ovs (lab L w.heap.size 4) p F ms hn (tl ++ [x]) w' := by
  obtain ⟨a', n', c', w', r, hr', ht, hn'⟩ := run_app8 x H.tr H.below.size (by omega)
  have hk : ∀ b, b < w.heap.size → L b ≠ 4 → w'.heap[b]? = w.heap[b]? := fun b hb hL => ht.block b hb (fun e => hL (H.l4 b e))
  refine ⟨a', n', c', w', r, (H.ll.named 4).kept (fun b hb hL => hk b hb (fun e => by unfold lab at hL; rw [if_pos hb] at hL; omega)), brow_kept H.wr (fun b e => hk b (H.wr.lt b e).2 (by rw [H.l2 b e]; decide)), brow_kept H.hr (fun b e => hk b (H.hr.lt b e).2 (by rw [H.l3 b e]; decide)), hr', H.hp.kept (fun b hb => hk b (H.hp.lt hb) (by rw [H.l5 b hb]; decide)), fun b e => (if_pos (H.wr.lt b e).2).trans (H.l2 b e), fun b e => (if_pos (H.hr.lt b e).2).trans (H.l3 b e), fun b e => ?_, fun b e => (if_pos (H.hp.lt e)).trans (H.l5 b e), H.below.trans (ht.below H.below.size (fun k e => (H.tr.lt k e).1)), H.fb⟩
  rcases hn' b e with q | q
  · exact (if_pos (H.tr.lt b q).2).trans (H.l4 b q)
  · exact if_neg (by omega)
end
end Go.Proofs.Ytdpdghhieokcfaa
