/- The ring: what is so of it. -/
import Derived.Test.YtdpdghhieokcfaaCut9
namespace Go.Proofs.Ytdpdghhieokcfaa
open Go.RowKit Go.Maps T9
/-- The first i arcs of the ring. -/
def ringTo (ks : List Int) (i : Nat) : List (Int × Int) := (List.range i).map (fun j => (ks.getD j 0, ks.getD ((j + 1) % ks.length) 0))
theorem ringTo_succ (ks : List Int) (i : Nat) : ringTo ks (i + 1) = ringTo ks i ++ [(ks.getD i 0, ks.getD ((i + 1) % ks.length) 0)] := by
  unfold ringTo; rw [List.range_succ, List.map_append]; rfl
theorem ringTo_len (ks : List Int) (i : Nat) : (ringTo ks i).length = i := by simp [ringTo]
theorem getD_mem {ks : List Int} {i : Nat} (h : i < ks.length) : ks.getD i 0 ∈ ks := by
  rw [List.getD_eq_getElem?_getD, List.getElem?_eq_getElem h]; exact List.getElem_mem h
theorem ring_ok {ks : List Int} {l : List (Int × Int)} (h : okArcs ks l) : okArcs ks (l ++ ringTo ks ks.length) := by
  intro a ha
  rcases List.mem_append.1 ha with q | q
  · exact h a q
  · obtain ⟨j, hj, rfl⟩ := List.mem_map.1 q
    have hj := List.mem_range.1 hj
    exact ⟨getD_mem hj, getD_mem (Nat.mod_lt _ (by omega))⟩
theorem idx_at {V : List Int} (hs : V.Pairwise (· < ·)) {p : Nat} {x : Int} (h : V[p]? = some x) : V.idxOf x = p := by
  obtain ⟨l1, e1⟩ := List.getElem?_eq_some_iff.1 h
  have hm : x ∈ V := List.mem_of_getElem? h
  obtain ⟨l2, e2⟩ := List.getElem?_eq_some_iff.1 (idx_some hm)
  have hne := List.pairwise_iff_getElem.1 hs
  rcases Nat.lt_trichotomy (V.idxOf x) p with q | q | q
  · have := hne _ p l2 l1 q; rw [e1, e2] at this; simp at this
  · exact q
  · have := hne p _ l1 l2 q; rw [e1, e2] at this; simp at this
/-- Everything reaches everything. -/
theorem ring_all {ks V : List Int} {l : List (Int × Int)} (hp : V.Perm ks) (hs : V.Pairwise (· < ·)) : ∀ p q, p < V.length → q < V.length → T9.Reach (nextOf V (l ++ ringTo ks ks.length)) p q := by
  have hl := hp.length_eq
  refine ring_reach (fun i => V.idxOf (ks.getD i 0)) (fun i hi => ?_) (fun p hp' => ?_)
  · rw [mem_nextOf]
    refine ⟨(ks.getD i 0, ks.getD ((i + 1) % ks.length) 0), List.mem_append.2 (.inr (List.mem_map.2 ⟨i, List.mem_range.2 (by omega), rfl⟩)), idx_some (hp.mem_iff.2 (getD_mem (by omega))), by rw [hl]⟩
  · obtain ⟨x, hx⟩ : ∃ x, V[p]? = some x := ⟨_, List.getElem?_eq_getElem hp'⟩
    have hm := hp.mem_iff.1 (List.mem_of_getElem? hx)
    obtain ⟨i, hi⟩ := List.mem_iff_getElem?.1 hm
    refine ⟨i, by have := (List.getElem?_eq_some_iff.1 hi).1; omega, ?_⟩
    show V.idxOf (ks.getD i 0) = p
    rw [List.getD_eq_getElem?_getD, hi]
    exact idx_at hs hx
theorem cv_range (V : List Int) : cv V (List.range V.length) = V := by
  unfold cv
  apply List.ext_getElem?
  intro k
  by_cases hk : k < V.length
  · simp [hk]
  · simp [hk]
/-- One component: all. -/
theorem ring_comps {ks V : List Int} {l : List (Int × Int)} {h : Nat → Nat} (hp : V.Perm ks) (hs : V.Pairwise (· < ·)) (h0 : 0 < ks.length) (hH : Heads (nextOf V (l ++ ringTo ks ks.length)) V.length h) : (∀ p, p < V.length → h p = 0) ∧ compsV V h V.length = [V] ∧ headsTo h V.length = [0] := by
  have hl := hp.length_eq
  have h1 := hH.ring (ring_all hp hs)
  obtain ⟨e1, e2⟩ := headsTo_ring (h := h) (n := V.length) (by omega) h1
  refine ⟨h1, ?_, e1⟩
  unfold compsV
  rw [e2, List.map_cons, List.map_nil, cv_range]
theorem ring_told {hs : List Nat} {ar : List (Nat × Nat)} {T : List Nat} (h : T9.Told hs ar T) (e : hs = [0]) (ha : ∀ m, m ∈ hs → m ∈ T) : T = [0] := by
  have h1 := h.length_all (by rw [e]; simp) ha
  have h2 := h.nodup.2
  rw [e] at h1 h2
  match T, h1 with
  | [x], _ => rw [List.mem_singleton.1 (h2 x (by simp))]
/-- A walk comes back. -/
theorem ring_not {ks V : List Int} {l : List (Int × Int)} {h : Nat → Nat} {b : Bool} (hp : V.Perm ks) (hs : V.Pairwise (· < ·)) (h0 : 0 < ks.length) (hH : Heads (nextOf V (l ++ ringTo ks ks.length)) V.length h) (hb : b = true ↔ ∀ p, p < V.length → h p = p ∧ p ∉ nextOf V (l ++ ringTo ks ks.length) p) : b = false := by
  have hl := hp.length_eq
  obtain ⟨h1, -, -⟩ := ring_comps hp hs h0 hH
  cases e : b with
  | false => rfl
  | true =>
    have h2 := hb.1 e
    by_cases hn : V.length = 1
    · exfalso
      refine (h2 0 (by omega)).2 ?_
      rw [mem_nextOf]
      refine ⟨(ks.getD 0 0, ks.getD ((0 + 1) % ks.length) 0), List.mem_append.2 (.inr (List.mem_map.2 ⟨0, List.mem_range.2 (by omega), rfl⟩)), ?_, ?_⟩
      · have := hp.mem_iff.2 (getD_mem h0)
        have h3 := idx_some this
        have h4 := List.idxOf_lt_length_of_mem this
        rw [show V.idxOf (ks.getD 0 0) = 0 by omega] at h3
        exact h3
      · have := hp.mem_iff.2 (getD_mem (ks := ks) (i := (0 + 1) % ks.length) (Nat.mod_lt _ h0))
        have h4 := List.idxOf_lt_length_of_mem this
        show V.idxOf (ks.getD ((0 + 1) % ks.length) 0) = 0
        omega
    · have h3 := (h2 1 (by omega)).1
      rw [h1 1 (by omega)] at h3
      omega
/-- The lists of the law: the vertices stay, the arcs grow. -/
def RG (w1 : World) (ks : List Int) (l : List (Int × Int)) (v1 v2 : Value) (W : World) : Prop := Below w1.heap.size w1 W ∧ BRow w1.heap.size W v1 ks ∧ ABRow w1.heap.size W v2 l ∧ ∀ b, v1.ownBlock = some b → v2.ownBlock ≠ some b
theorem RG.below {w1 W W' : World} {ks : List Int} {l : List (Int × Int)} {v1 v2 : Value} (h : RG w1 ks l v1 v2 W) (hb : Below W.heap.size W W') : RG w1 ks l v1 v2 W' :=
  ⟨h.1.trans (hb.mono h.1.size), brow_kept h.2.1 (fun b e => hb.block b (h.2.1.lt b e).2), abrow_kept h.2.2.1 (fun b e => hb.block b (h.2.2.1.lt b e).2), h.2.2.2⟩
theorem RG.app {w1 W : World} {ks : List Int} {l : List (Int × Int)} {v1 v2 : Value} (h : RG w1 ks l v1 v2 W) (u x : Int) (hl : l.length ≤ 900000) :
    ∃ a' n' c' w', (∀ ty, (Builtin.append_ #[23, 23] ty #[v2, .slice (some ⟨W.heap.size, 0, none⟩) 1 1]).run Try.prog (W.alloc (oArc u x)) = .ok (.slice a' n' c') w') ∧ RG w1 ks l v1 v2 (W.alloc (oArc u x)) ∧ RG w1 ks (l ++ [(u, x)]) v1 (.slice a' n' c') w' := by
  have hb := below_new W (oArc u x)
  have h2 := h.below hb
  have hc := cellsArc (heap_alloc_new W (oArc u x))
  obtain ⟨a', n', c', w', r, g1, g2, g3⟩ := run_appA (ad := ⟨W.heap.size, 0, none⟩) (c := 1) (l2 := [(u, x)]) h2.2.2.1 (Nat.le_trans h.1.size hb.size) (fun j y hj => by
    rw [add_off, Nat.zero_add]
    match j, hj with
    | 0, hj => injection hj with hj; rw [← hj]; exact hc.1
    | 1, hj => injection hj with hj; rw [← hj]; exact hc.2.1
    | j + 2, hj => simp [encA] at hj) (by simp; omega)
  refine ⟨a', n', c', w', r, h2, h2.1.trans (g2.below h2.1.size (fun b e => (h2.2.2.1.lt b e).1)), brow_kept h2.2.1 (fun b e => g2.block b (h2.2.1.lt b e).2 (h2.2.2.2 b e)), g1, fun b e e2 => ?_⟩
  rcases g3 b e2 with q | q
  · exact h2.2.2.2 b e q
  · have := (h2.2.1.lt b e).2; omega
section
variable {w1 W : World} {ks V : List Int} {l : List (Int × Int)} {v1 v2 : Value}
theorem perm_sorted {a b ks : List Int} (h1 : a.Perm ks) (h2 : b.Perm ks) (s1 : a.Pairwise (· < ·)) (s2 : b.Pairwise (· < ·)) : a = b := sorted_ext s1 s2 (fun x => by rw [h1.mem_iff, h2.mem_iff])
theorem ring_of (h : RG w1 ks (l ++ ringTo ks ks.length) v1 v2 W) (hk : ks.length ≤ 60) (hl : l.length ≤ 240) (h0 : 0 < ks.length) (hnd : ks.Nodup) (hok : okArcs ks l) :
    Calls Try.prog 10 #[v1, v2] W fun e w' => Hid (∃ v V, e = .returned (.tuple #[v, .int .i64 0]) ∧ V.Perm ks ∧ V.Pairwise (· < ·) ∧ LLr w' v [V] ∧ Below W.heap.size W w') := by
  have hlen : (l ++ ringTo ks ks.length).length ≤ 300 := by rw [List.length_append, ringTo_len]; omega
  refine (ofS (brow_at0 h.2.1) (arow_zero h.2.2.1) (by omega) (by omega)).mono ?_
  intro e w' hh
  obtain ⟨hb, hcase⟩ := unhide hh
  rcases hcase with ⟨q, -⟩ | ⟨-, q, -⟩ | ⟨-, -, v, V, rfl, hp, hs, h2, hH, -, hL⟩
  · exact absurd hnd q
  · exact absurd (ring_ok hok) q
  · obtain ⟨-, e2, -⟩ := ring_comps hp hs h0 hH
    rw [e2] at hL
    exact ⟨v, V, rfl, hp, hs, lls_r hL, hb⟩
theorem ring_order [Inhabited EntI] (h : RG w1 ks (l ++ ringTo ks ks.length) v1 v2 W) (hk : ks.length ≤ 60) (hl : l.length ≤ 240) (h0 : 0 < ks.length) (hnd : ks.Nodup) (hok : okArcs ks l) (hp : V.Perm ks) (hs : V.Pairwise (· < ·)) :
    Calls Try.prog 11 #[v1, v2] W fun e w' => Hid (∃ v, e = .returned (.tuple #[v, .int .i64 0]) ∧ NRow w' v [V.getD 0 0] ∧ Below W.heap.size W w') := by
  have hlen : (l ++ ringTo ks ks.length).length ≤ 300 := by rw [List.length_append, ringTo_len]; omega
  refine (orderOfS (brow_at0 h.2.1) (arow_zero h.2.2.1) (by omega) (by omega)).mono ?_
  intro e w' hh
  obtain ⟨hb, hcase⟩ := unhide hh
  rcases hcase with ⟨q, -⟩ | ⟨-, q, -⟩ | ⟨-, -, v, V', rfl, hp', hs', h2, T, hH, -, hT, hall, hL⟩
  · exact absurd hnd q
  · exact absurd (ring_ok hok) q
  · obtain ⟨-, -, e3⟩ := ring_comps hp' hs' h0 hH
    rw [ring_told hT e3 hall, perm_sorted hp' hp hs' hs] at hL
    exact ⟨v, rfl, brow_at0 hL, hb⟩
theorem ring_acyc (h : RG w1 ks (l ++ ringTo ks ks.length) v1 v2 W) (hk : ks.length ≤ 60) (hl : l.length ≤ 240) (h0 : 0 < ks.length) (hnd : ks.Nodup) (hok : okArcs ks l) :
    Calls Try.prog 12 #[v1, v2] W fun e w' => e = .returned (.tuple #[.bool false, .int .i64 0]) ∧ Hid (Below W.heap.size W w') := by
  have hlen : (l ++ ringTo ks ks.length).length ≤ 300 := by rw [List.length_append, ringTo_len]; omega
  refine (acyclicOfS (brow_at0 h.2.1) (arow_zero h.2.2.1) (by omega) (by omega)).mono ?_
  intro e w' hh
  obtain ⟨hb, hcase⟩ := unhide hh
  rcases hcase with ⟨q, -⟩ | ⟨-, q, -⟩ | ⟨-, -, v, V', rfl, hp', hs', b, h2, rfl, hH, -, hiff⟩
  · exact absurd hnd q
  · exact absurd (ring_ok hok) q
  · rw [ring_not hp' hs' h0 hH hiff]
    exact ⟨rfl, hb⟩
end
end Go.Proofs.Ytdpdghhieokcfaa
