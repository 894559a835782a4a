/- Lists turned about: what is so of them, and the lists in memory. -/
import Derived.Test.YtdpdghhieokcfaaCut9
namespace Go.Proofs.Ytdpdghhieokcfaa

section
open Go.RowKit Go.Maps T9
/-- The first i arcs of the ring. -/
def ringTo (ks : List Int) (i : Nat) : List (Int × Int) := (List.range i).map (fun j => (ks.getD j 0, ks.getD ((j + 1) % ks.length) 0))
theorem ringTo_succ (ks : List Int) (i : Nat) : ringTo ks (i + 1) = ringTo ks i ++ [(ks.getD i 0, ks.getD ((i + 1) % ks.length) 0)] := by
  unfold ringTo; rw [List.range_succ, List.map_append]; rfl
theorem ringTo_len (ks : List Int) (i : Nat) : (ringTo ks i).length = i := by simp [ringTo]
theorem getD_mem {ks : List Int} {i : Nat} (h : i < ks.length) : ks.getD i 0 ∈ ks := by
  rw [List.getD_eq_getElem?_getD, List.getElem?_eq_getElem h]; exact List.getElem_mem h
theorem ring_ok {ks : List Int} {l : List (Int × Int)} (h : okArcs ks l) : okArcs ks (l ++ ringTo ks ks.length) := by
  intro a ha
  rcases List.mem_append.1 ha with q | q
  · exact h a q
  · obtain ⟨j, hj, rfl⟩ := List.mem_map.1 q
    have hj := List.mem_range.1 hj
    exact ⟨getD_mem hj, getD_mem (Nat.mod_lt _ (by omega))⟩
theorem idx_at {V : List Int} (hs : V.Pairwise (· < ·)) {p : Nat} {x : Int} (h : V[p]? = some x) : V.idxOf x = p := by
  obtain ⟨l1, e1⟩ := List.getElem?_eq_some_iff.1 h
  have hm : x ∈ V := List.mem_of_getElem? h
  obtain ⟨l2, e2⟩ := List.getElem?_eq_some_iff.1 (idx_some hm)
  have hne := List.pairwise_iff_getElem.1 hs
  rcases Nat.lt_trichotomy (V.idxOf x) p with q | q | q
  · have := hne _ p l2 l1 q; rw [e1, e2] at this; simp at this
  · exact q
  · have := hne p _ l1 l2 q; rw [e1, e2] at this; simp at this
/-- Everything reaches everything. -/
theorem ring_all {ks V : List Int} {l : List (Int × Int)} (hp : V.Perm ks) (hs : V.Pairwise (· < ·)) : ∀ p q, p < V.length → q < V.length → T9.Reach (nextOf V (l ++ ringTo ks ks.length)) p q := by
  have hl := hp.length_eq
  refine ring_reach (fun i => V.idxOf (ks.getD i 0)) (fun i hi => ?_) (fun p hp' => ?_)
  · rw [mem_nextOf]
    refine ⟨(ks.getD i 0, ks.getD ((i + 1) % ks.length) 0), List.mem_append.2 (.inr (List.mem_map.2 ⟨i, List.mem_range.2 (by omega), rfl⟩)), idx_some (hp.mem_iff.2 (getD_mem (by omega))), by rw [hl]⟩
  · obtain ⟨x, hx⟩ : ∃ x, V[p]? = some x := ⟨_, List.getElem?_eq_getElem hp'⟩
    have hm := hp.mem_iff.1 (List.mem_of_getElem? hx)
    obtain ⟨i, hi⟩ := List.mem_iff_getElem?.1 hm
    refine ⟨i, by have := (List.getElem?_eq_some_iff.1 hi).1; omega, ?_⟩
    show V.idxOf (ks.getD i 0) = p
    rw [List.getD_eq_getElem?_getD, hi]
    exact idx_at hs hx
theorem cv_range (V : List Int) : cv V (List.range V.length) = V := by
  unfold cv
  apply List.ext_getElem?
  intro k
  by_cases hk : k < V.length
  · simp [hk]
  · simp [hk]
/-- One component: all. -/
theorem ring_comps {ks V : List Int} {l : List (Int × Int)} {h : Nat → Nat} (hp : V.Perm ks) (hs : V.Pairwise (· < ·)) (h0 : 0 < ks.length) (hH : Heads (nextOf V (l ++ ringTo ks ks.length)) V.length h) : (∀ p, p < V.length → h p = 0) ∧ compsV V h V.length = [V] ∧ headsTo h V.length = [0] := by
  have hl := hp.length_eq
  have h1 := hH.ring (ring_all hp hs)
  obtain ⟨e1, e2⟩ := headsTo_ring (h := h) (n := V.length) (by omega) h1
  refine ⟨h1, ?_, e1⟩
  unfold compsV
  rw [e2, List.map_cons, List.map_nil, cv_range]
theorem ring_told {hs : List Nat} {ar : List (Nat × Nat)} {T : List Nat} (h : T9.Told hs ar T) (e : hs = [0]) (ha : ∀ m, m ∈ hs → m ∈ T) : T = [0] := by
  have h1 := h.length_all (by rw [e]; simp) ha
  have h2 := h.nodup.2
  rw [e] at h1 h2
  match T, h1 with
  | [x], _ => rw [List.mem_singleton.1 (h2 x (by simp))]
/-- A walk comes back. -/
theorem ring_not {ks V : List Int} {l : List (Int × Int)} {h : Nat → Nat} {b : Bool} (hp : V.Perm ks) (hs : V.Pairwise (· < ·)) (h0 : 0 < ks.length) (hH : Heads (nextOf V (l ++ ringTo ks ks.length)) V.length h) (hb : b = true ↔ ∀ p, p < V.length → h p = p ∧ p ∉ nextOf V (l ++ ringTo ks ks.length) p) : b = false := by
  have hl := hp.length_eq
  obtain ⟨h1, -, -⟩ := ring_comps hp hs h0 hH
  cases e : b with
  | false => rfl
  | true =>
    have h2 := hb.1 e
    by_cases hn : V.length = 1
    · exfalso
      refine (h2 0 (by omega)).2 ?_
      rw [mem_nextOf]
      refine ⟨(ks.getD 0 0, ks.getD ((0 + 1) % ks.length) 0), List.mem_append.2 (.inr (List.mem_map.2 ⟨0, List.mem_range.2 (by omega), rfl⟩)), ?_, ?_⟩
      · have := hp.mem_iff.2 (getD_mem h0)
        have h3 := idx_some this
        have h4 := List.idxOf_lt_length_of_mem this
        rw [show V.idxOf (ks.getD 0 0) = 0 by omega] at h3
        exact h3
      · have := hp.mem_iff.2 (getD_mem (ks := ks) (i := (0 + 1) % ks.length) (Nat.mod_lt _ h0))
        have h4 := List.idxOf_lt_length_of_mem this
        show V.idxOf (ks.getD ((0 + 1) % ks.length) 0) = 0
        omega
    · have h3 := (h2 1 (by omega)).1
      rw [h1 1 (by omega)] at h3
      omega
/-- The lists of the law: the vertices stay, the arcs grow. -/
def RG (w1 : World) (ks : List Int) (l : List (Int × Int)) (v1 v2 : Value) (W : World) : Prop := Below w1.heap.size w1 W ∧ BRow w1.heap.size W v1 ks ∧ ABRow w1.heap.size W v2 l ∧ ∀ b, v1.ownBlock = some b → v2.ownBlock ≠ some b
theorem RG.below {w1 W W' : World} {ks : List Int} {l : List (Int × Int)} {v1 v2 : Value} (h : RG w1 ks l v1 v2 W) (hb : Below W.heap.size W W') : RG w1 ks l v1 v2 W' :=
  ⟨h.1.trans (hb.mono h.1.size), brow_kept h.2.1 (fun b e => hb.block b (h.2.1.lt b e).2), abrow_kept h.2.2.1 (fun b e => hb.block b (h.2.2.1.lt b e).2), h.2.2.2⟩
theorem RG.app {w1 W : World} {ks : List Int} {l : List (Int × Int)} {v1 v2 : Value} (h : RG w1 ks l v1 v2 W) (u x : Int) (hl : l.length ≤ 900000) :
    ∃ a' n' c' w', (∀ ty, (Builtin.append_ #[23, 23] ty #[v2, .slice (some ⟨W.heap.size, 0, none⟩) 1 1]).run Try.prog (W.alloc (oArc u x)) = .ok (.slice a' n' c') w') ∧ RG w1 ks l v1 v2 (W.alloc (oArc u x)) ∧ RG w1 ks (l ++ [(u, x)]) v1 (.slice a' n' c') w' := by
  have hb := below_new W (oArc u x)
  have h2 := h.below hb
  have hc := cellsArc (heap_alloc_new W (oArc u x))
  obtain ⟨a', n', c', w', r, g1, g2, g3⟩ := run_appA (ad := ⟨W.heap.size, 0, none⟩) (c := 1) (l2 := [(u, x)]) h2.2.2.1 (Nat.le_trans h.1.size hb.size) (fun j y hj => by
    rw [add_off, Nat.zero_add]
    match j, hj with
    | 0, hj => injection hj with hj; rw [← hj]; exact hc.1
    | 1, hj => injection hj with hj; rw [← hj]; exact hc.2.1
    | j + 2, hj => simp [encA] at hj) (by simp; omega)
  refine ⟨a', n', c', w', r, h2, h2.1.trans (g2.below h2.1.size (fun b e => (h2.2.2.1.lt b e).1)), brow_kept h2.2.1 (fun b e => g2.block b (h2.2.1.lt b e).2 (h2.2.2.2 b e)), g1, fun b e e2 => ?_⟩
  rcases g3 b e2 with q | q
  · exact h2.2.2.2 b e q
  · have := (h2.2.1.lt b e).2; omega
section
variable {w1 W : World} {ks V : List Int} {l : List (Int × Int)} {v1 v2 : Value}
theorem perm_sorted {a b ks : List Int} (h1 : a.Perm ks) (h2 : b.Perm ks) (s1 : a.Pairwise (· < ·)) (s2 : b.Pairwise (· < ·)) : a = b := sorted_ext s1 s2 (fun x => by rw [h1.mem_iff, h2.mem_iff])
theorem ring_of (h : RG w1 ks (l ++ ringTo ks ks.length) v1 v2 W) (hk : ks.length ≤ 60) (hl : l.length ≤ 240) (h0 : 0 < ks.length) (hnd : ks.Nodup) (hok : okArcs ks l) :
    Calls Try.prog 10 #[v1, v2] W fun e w' => Hid (∃ v V, e = .returned (.tuple #[v, .int .i64 0]) ∧ V.Perm ks ∧ V.Pairwise (· < ·) ∧ LLr w' v [V] ∧ Below W.heap.size W w') := by
  have hlen : (l ++ ringTo ks ks.length).length ≤ 300 := by rw [List.length_append, ringTo_len]; omega
  refine (ofS (brow_at0 h.2.1) (arow_zero h.2.2.1) (by omega) (by omega)).mono ?_
  intro e w' hh
  obtain ⟨hb, hcase⟩ := unhide hh
  rcases hcase with ⟨q, -⟩ | ⟨-, q, -⟩ | ⟨-, -, v, V, rfl, hp, hs, h2, hH, -, hL⟩
  · exact absurd hnd q
  · exact absurd (ring_ok hok) q
  · obtain ⟨-, e2, -⟩ := ring_comps hp hs h0 hH
    rw [e2] at hL
    exact ⟨v, V, rfl, hp, hs, lls_r hL, hb⟩
theorem ring_order [Inhabited EntI] (h : RG w1 ks (l ++ ringTo ks ks.length) v1 v2 W) (hk : ks.length ≤ 60) (hl : l.length ≤ 240) (h0 : 0 < ks.length) (hnd : ks.Nodup) (hok : okArcs ks l) (hp : V.Perm ks) (hs : V.Pairwise (· < ·)) :
    Calls Try.prog 11 #[v1, v2] W fun e w' => Hid (∃ v, e = .returned (.tuple #[v, .int .i64 0]) ∧ NRow w' v [V.getD 0 0] ∧ Below W.heap.size W w') := by
  have hlen : (l ++ ringTo ks ks.length).length ≤ 300 := by rw [List.length_append, ringTo_len]; omega
  refine (orderOfS (brow_at0 h.2.1) (arow_zero h.2.2.1) (by omega) (by omega)).mono ?_
  intro e w' hh
  obtain ⟨hb, hcase⟩ := unhide hh
  rcases hcase with ⟨q, -⟩ | ⟨-, q, -⟩ | ⟨-, -, v, V', rfl, hp', hs', h2, T, hH, -, hT, hall, hL⟩
  · exact absurd hnd q
  · exact absurd (ring_ok hok) q
  · obtain ⟨-, -, e3⟩ := ring_comps hp' hs' h0 hH
    rw [ring_told hT e3 hall, perm_sorted hp' hp hs' hs] at hL
    exact ⟨v, rfl, brow_at0 hL, hb⟩
theorem ring_acyc (h : RG w1 ks (l ++ ringTo ks ks.length) v1 v2 W) (hk : ks.length ≤ 60) (hl : l.length ≤ 240) (h0 : 0 < ks.length) (hnd : ks.Nodup) (hok : okArcs ks l) :
    Calls Try.prog 12 #[v1, v2] W fun e w' => e = .returned (.tuple #[.bool false, .int .i64 0]) ∧ Hid (Below W.heap.size W w') := by
  have hlen : (l ++ ringTo ks ks.length).length ≤ 300 := by rw [List.length_append, ringTo_len]; omega
  refine (acyclicOfS (brow_at0 h.2.1) (arow_zero h.2.2.1) (by omega) (by omega)).mono ?_
  intro e w' hh
  obtain ⟨hb, hcase⟩ := unhide hh
  rcases hcase with ⟨q, -⟩ | ⟨-, q, -⟩ | ⟨-, -, v, V', rfl, hp', hs', b, h2, rfl, hH, -, hiff⟩
  · exact absurd hnd q
  · exact absurd (ring_ok hok) q
  · rw [ring_not hp' hs' h0 hH hiff]
    exact ⟨rfl, hb⟩
end
end

section
open Go.RowKit Go.Maps T9
def twos (l : List (Int × Int)) : List (Int × Int) := l.flatMap (fun a => [a, a])
def abouts (l : List (Int × Int)) : List (Int × Int) := l.map (fun a => (a.2, a.1))
theorem twos_snoc (l : List (Int × Int)) (a : Int × Int) : twos (l ++ [a]) = twos l ++ [a, a] := by simp [twos]
theorem abouts_snoc (l : List (Int × Int)) (a : Int × Int) : abouts (l ++ [a]) = abouts l ++ [(a.2, a.1)] := by simp [abouts]
theorem twos_len : ∀ l : List (Int × Int), (twos l).length = 2 * l.length
  | [] => rfl
  | a :: l => by
    have := twos_len l
    unfold twos at this ⊢
    simp [List.flatMap_cons, this]; omega
theorem abouts_len (l : List (Int × Int)) : (abouts l).length = l.length := by simp [abouts]
theorem mem_twos {l : List (Int × Int)} {a : Int × Int} : a ∈ l ↔ a ∈ twos l.reverse := by simp [twos]
theorem mem_abouts {l : List (Int × Int)} {u x : Int} : (u, x) ∈ l ↔ (x, u) ∈ abouts l.reverse :=
  ⟨fun h => List.mem_map.2 ⟨(u, x), List.mem_reverse.2 h, rfl⟩, fun h => by
    obtain ⟨⟨a, b⟩, h1, h2⟩ := List.mem_map.1 h
    have e1 : b = x := congrArg Prod.fst h2
    have e2 : a = u := congrArg Prod.snd h2
    rw [← e1, ← e2]; exact List.mem_reverse.1 h1⟩
theorem drop_rev {α : Type} {l : List α} {i : Nat} {a : α} (h : l[i]? = some a) : (l.drop i).reverse = (l.drop (i + 1)).reverse ++ [a] := by
  obtain ⟨hl, e⟩ := List.getElem?_eq_some_iff.1 h
  rw [List.drop_eq_getElem_cons hl, e, List.reverse_cons]
theorem nextOf_about {V : List Int} {l : List (Int × Int)} (hs : V.Pairwise (· < ·)) (hv : ∀ a ∈ l, a.1 ∈ V ∧ a.2 ∈ V) (p q : Nat) : q ∈ nextOf V l p ↔ p ∈ nextOf V (abouts l.reverse) q := by
  rw [mem_nextOf, mem_nextOf]
  constructor
  · rintro ⟨⟨u, x⟩, ha, h1, h2⟩
    refine ⟨(x, u), mem_abouts.1 ha, ?_, idx_at hs h1⟩
    rw [← h2]; exact idx_some (hv _ ha).2
  · rintro ⟨⟨x, u⟩, ha, h1, h2⟩
    have ha := mem_abouts.2 ha
    refine ⟨(u, x), ha, ?_, idx_at hs h1⟩
    rw [← h2]; exact idx_some (hv _ ha).1
/-- The code and the lists that Of answers. -/
def OfA (ks : List Int) (l : List (Int × Int)) (c : Int) (xss : List (List Int)) : Prop :=
  (¬ ks.Nodup ∧ c = 2 ∧ xss = []) ∨ (ks.Nodup ∧ ¬ okArcs ks l ∧ c = 5 ∧ xss = []) ∨ (ks.Nodup ∧ okArcs ks l ∧ c = 0 ∧ ∃ V h, V.Perm ks ∧ V.Pairwise (· < ·) ∧ Heads (nextOf V l) V.length h ∧ xss = compsV V h V.length)
/-- The code and the list that Order answers. -/
def OrA (ks : List Int) (l : List (Int × Int)) (c : Int) (xs : List Int) : Prop :=
  (¬ ks.Nodup ∧ c = 2 ∧ xs = []) ∨ (ks.Nodup ∧ ¬ okArcs ks l ∧ c = 5 ∧ xs = []) ∨ (ks.Nodup ∧ okArcs ks l ∧ c = 0 ∧ ∃ V h T, V.Perm ks ∧ V.Pairwise (· < ·) ∧ Heads (nextOf V l) V.length h ∧ T9.Told (headsTo h V.length) (arcsOf h (nextOf V l) V.length) T ∧ (∀ m, m ∈ headsTo h V.length → m ∈ T) ∧ xs = cv V T)
theorem ok_same {ks ks' : List Int} {l l' : List (Int × Int)} (hk : ∀ x, x ∈ ks ↔ x ∈ ks') (hl : ∀ a, a ∈ l ↔ a ∈ l') : okArcs ks l ↔ okArcs ks' l' :=
  ⟨fun h a ha => by have := h a ((hl a).2 ha); exact ⟨(hk _).1 this.1, (hk _).1 this.2⟩, fun h a ha => by have := h a ((hl a).1 ha); exact ⟨(hk _).2 this.1, (hk _).2 this.2⟩⟩
theorem ok_about {ks : List Int} {l : List (Int × Int)} : okArcs ks l ↔ okArcs ks (abouts l.reverse) :=
  ⟨fun h ⟨x, u⟩ ha => by have := h _ (mem_abouts.2 ha); exact ⟨this.2, this.1⟩, fun h ⟨u, x⟩ ha => by have := h _ (mem_abouts.1 ha); exact ⟨this.2, this.1⟩⟩
theorem compsV_congr {V : List Int} {h h' : Nat → Nat} (e : ∀ p < V.length, h p = h' p) : compsV V h V.length = compsV V h' V.length := by
  unfold compsV; rw [compsTo_congr e]
theorem of_twice {ks : List Int} {l : List (Int × Int)} {c c' : Int} {xs xs' : List (List Int)} (h : OfA ks l c xs) (h' : OfA ks.reverse (twos l.reverse) c' xs') : c = c' ∧ xs = xs' := by
  have hn : ks.reverse.Nodup ↔ ks.Nodup := (List.reverse_perm ks).nodup_iff
  have ho := ok_same (ks := ks) (ks' := ks.reverse) (l := l) (l' := twos l.reverse) (fun x => by simp) (fun a => mem_twos)
  rcases h with ⟨q1, rfl, rfl⟩ | ⟨q1, q2, rfl, rfl⟩ | ⟨q1, q2, rfl, V, f, hp, hs, hH, rfl⟩ <;> rcases h' with ⟨q1', rfl, rfl⟩ | ⟨q1', q2', rfl, rfl⟩ | ⟨q1', q2', rfl, V', f', hp', hs', hH', rfl⟩
  · exact ⟨rfl, rfl⟩
  · exact absurd (hn.1 q1') q1
  · exact absurd (hn.1 q1') q1
  · exact absurd (hn.2 q1) q1'
  · exact ⟨rfl, rfl⟩
  · exact absurd (ho.2 q2') q2
  · exact absurd (hn.2 q1) q1'
  · exact absurd (ho.1 q2) q2'
  · obtain rfl : V' = V := perm_sorted (hp'.trans (List.reverse_perm _)) hp hs' hs
    exact ⟨rfl, compsV_congr (hH.same_arcs hH' (nextOf_same (fun a => mem_twos)))⟩
theorem of_about {ks : List Int} {l : List (Int × Int)} {c c' : Int} {xs xs' : List (List Int)} (h : OfA ks l c xs) (h' : OfA ks (abouts l.reverse) c' xs') : c = c' ∧ xs = xs' := by
  have ho := ok_about (ks := ks) (l := l)
  rcases h with ⟨q1, rfl, rfl⟩ | ⟨q1, q2, rfl, rfl⟩ | ⟨q1, q2, rfl, V, f, hp, hs, hH, rfl⟩ <;> rcases h' with ⟨q1', rfl, rfl⟩ | ⟨q1', q2', rfl, rfl⟩ | ⟨q1', q2', rfl, V', f', hp', hs', hH', rfl⟩
  · exact ⟨rfl, rfl⟩
  · exact absurd q1' q1
  · exact absurd q1' q1
  · exact absurd q1 q1'
  · exact ⟨rfl, rfl⟩
  · exact absurd (ho.2 q2') q2
  · exact absurd q1 q1'
  · exact absurd (ho.1 q2) q2'
  · obtain rfl : V' = V := perm_sorted hp' hp hs' hs
    exact ⟨rfl, compsV_congr (hH.about_arcs hH' (nextOf_about hs (fun a ha => ⟨hp.mem_iff.2 (q2 a ha).1, hp.mem_iff.2 (q2 a ha).2⟩)))⟩
theorem arcsOf_mem_congr {h h' : Nat → Nat} {nx nx' : Nat → List Nat} {n : Nat} (e : ∀ p < n, h p = h' p) (en : ∀ p q, q ∈ nx p ↔ q ∈ nx' p) (hl : ∀ p < n, ∀ q ∈ nx p, q < n) (a : Nat × Nat) : a ∈ arcsOf h nx n ↔ a ∈ arcsOf h' nx' n := by
  obtain ⟨u, v⟩ := a
  rw [mem_arcsOf, mem_arcsOf]
  constructor
  · rintro ⟨q1, p, hp, q, hq, rfl, rfl⟩
    exact ⟨q1, p, hp, q, (en p q).1 hq, (e p hp).symm, (e q (hl p hp q hq)).symm⟩
  · rintro ⟨q1, p, hp, q, hq, rfl, rfl⟩
    have hq := (en p q).2 hq
    exact ⟨q1, p, hp, q, hq, e p hp, e q (hl p hp q hq)⟩
theorem or_one {ks : List Int} {l l' : List (Int × Int)} {V : List Int} {h h' : Nat → Nat} {T T' : List Nat} (hp : V.Perm ks) (hok : okArcs ks l) (hm : ∀ a, a ∈ l ↔ a ∈ l') (hH : Heads (nextOf V l) V.length h) (hH' : Heads (nextOf V l') V.length h') (hT : T9.Told (headsTo h V.length) (arcsOf h (nextOf V l) V.length) T) (hT' : T9.Told (headsTo h' V.length) (arcsOf h' (nextOf V l') V.length) T') (ha : ∀ m, m ∈ headsTo h V.length → m ∈ T) (ha' : ∀ m, m ∈ headsTo h' V.length → m ∈ T') : T = T' := by
  have e := hH.same_arcs hH' (nextOf_same hm)
  have eh := headsTo_congr e
  rw [← eh] at hT' ha'
  have hT2 := hT'.congr (fun a => (arcsOf_mem_congr e (nextOf_same hm) (fun p _ q hq => nextOf_lt (fun a ha => hp.mem_iff.2 (hok a ha).2) q hq) a).symm)
  exact hT.one hT2 (by rw [hT.length_all (headsTo_nodup _ _) ha, hT2.length_all (headsTo_nodup _ _) ha'])
theorem or_twice {ks : List Int} {l : List (Int × Int)} {c c' : Int} {xs xs' : List Int} (h : OrA ks l c xs) (h' : OrA ks.reverse (twos l.reverse) c' xs') : c = c' ∧ xs = xs' := by
  have hn : ks.reverse.Nodup ↔ ks.Nodup := (List.reverse_perm ks).nodup_iff
  have ho := ok_same (ks := ks) (ks' := ks.reverse) (l := l) (l' := twos l.reverse) (fun x => by simp) (fun a => mem_twos)
  rcases h with ⟨q1, rfl, rfl⟩ | ⟨q1, q2, rfl, rfl⟩ | ⟨q1, q2, rfl, V, f, T, hp, hs, hH, hT, ha, rfl⟩ <;> rcases h' with ⟨q1', rfl, rfl⟩ | ⟨q1', q2', rfl, rfl⟩ | ⟨q1', q2', rfl, V', f', T', hp', hs', hH', hT', ha', rfl⟩
  · exact ⟨rfl, rfl⟩
  · exact absurd (hn.1 q1') q1
  · exact absurd (hn.1 q1') q1
  · exact absurd (hn.2 q1) q1'
  · exact ⟨rfl, rfl⟩
  · exact absurd (ho.2 q2') q2
  · exact absurd (hn.2 q1) q1'
  · exact absurd (ho.1 q2) q2'
  · obtain rfl : V' = V := perm_sorted (hp'.trans (List.reverse_perm _)) hp hs' hs
    rw [or_one hp q2 (fun a => mem_twos) hH hH' hT hT' ha ha']
    exact ⟨rfl, rfl⟩
theorem of_or {ks : List Int} {l : List (Int × Int)} {c c' : Int} {xs : List (List Int)} {ys : List Int} (h : OfA ks l c xs) (h' : OrA ks l c' ys) : c = c' := by
  rcases h with ⟨q1, rfl, -⟩ | ⟨q1, q2, rfl, -⟩ | ⟨q1, q2, rfl, -⟩ <;> rcases h' with ⟨q1', rfl, -⟩ | ⟨q1', q2', rfl, -⟩ | ⟨q1', q2', rfl, -⟩
  · rfl
  · exact absurd q1' q1
  · exact absurd q1' q1
  · exact absurd q1 q1'
  · rfl
  · exact absurd q2' q2
  · exact absurd q1 q1'
  · exact absurd q2 q2'
  · rfl
theorem ofA_len {ks : List Int} {l : List (Int × Int)} {c : Int} {xs : List (List Int)} (h : OfA ks l c xs) (hk : ks.length ≤ 1000) : xs.length ≤ 1000000 ∧ ∀ y ∈ xs, y.length ≤ 1000000 := by
  rcases h with ⟨-, -, rfl⟩ | ⟨-, -, -, rfl⟩ | ⟨-, -, -, V, f, hp, -, -, rfl⟩
  · simp
  · simp
  · have hl := hp.length_eq
    constructor
    · rw [compsV_len]
      have : (headsTo f V.length).length ≤ (List.range V.length).length := List.length_filter_le _ _
      rw [List.length_range] at this; omega
    · intro y hy
      obtain ⟨c, hc, rfl⟩ := List.mem_map.1 hy
      obtain ⟨m, -, rfl⟩ := List.mem_map.1 hc
      have : (partTo f V.length m).length ≤ (List.range V.length).length := List.length_filter_le _ _
      rw [List.length_range] at this
      simp only [cv, List.length_map]; omega
theorem orA_len {ks : List Int} {l : List (Int × Int)} {c : Int} {xs : List Int} (h : OrA ks l c xs) (hk : ks.length ≤ 1000) : xs.length ≤ 1000000 := by
  rcases h with ⟨-, -, rfl⟩ | ⟨-, -, -, rfl⟩ | ⟨-, -, -, V, f, T, hp, -, -, hT, ha, rfl⟩
  · simp
  · simp
  · have hl := hp.length_eq
    have : (headsTo f V.length).length ≤ (List.range V.length).length := List.length_filter_le _ _
    rw [List.length_range] at this
    simp only [cv, List.length_map]
    rw [hT.length_all (headsTo_nodup _ _) ha]; omega
/-- The lists of the law: those that came, and the three that grow. -/
def TG (w1 : World) (ks : List Int) (l : List (Int × Int)) (ws : List Int) (tw ab : List (Int × Int)) (v1 v2 x3 x4 x5 : Value) (W : World) : Prop :=
  ∃ L : Nat → Nat, Below w1.heap.size w1 W ∧ (BRow w1.heap.size W v1 ks ∧ ∀ b, v1.ownBlock = some b → L b = 1) ∧ (ABRow w1.heap.size W v2 l ∧ ∀ b, v2.ownBlock = some b → L b = 2) ∧ (BRow w1.heap.size W x3 ws ∧ ∀ b, x3.ownBlock = some b → L b = 3) ∧ (ABRow w1.heap.size W x4 tw ∧ ∀ b, x4.ownBlock = some b → L b = 4) ∧ (ABRow w1.heap.size W x5 ab ∧ ∀ b, x5.ownBlock = some b → L b = 5)
section
variable {w1 W W' : World} {ks ws : List Int} {l tw ab : List (Int × Int)} {v1 v2 x3 x4 x5 : Value}
theorem TG.start (h : RG w1 ks l v1 v2 W) : TG w1 ks l [] [] [] v1 v2 (.slice none 0 0) (.slice none 0 0) (.slice none 0 0) W :=
  ⟨fun b => if v1.ownBlock = some b then 1 else 2, h.1, ⟨h.2.1, fun b e => if_pos e⟩, ⟨h.2.2.1, fun b e => if_neg (fun q => h.2.2.2 b q e)⟩, ⟨⟨rfl, .inl ⟨rfl, rfl⟩⟩, fun b e => by cases e⟩, ⟨⟨rfl, .inl ⟨rfl, rfl⟩⟩, fun b e => by cases e⟩, ⟨⟨rfl, .inl ⟨rfl, rfl⟩⟩, fun b e => by cases e⟩⟩
theorem TG.below (h : TG w1 ks l ws tw ab v1 v2 x3 x4 x5 W) (hb : Below W.heap.size W W') : TG w1 ks l ws tw ab v1 v2 x3 x4 x5 W' := by
  obtain ⟨L, h0, ⟨h1, e1⟩, ⟨h2, e2⟩, ⟨h3, e3⟩, ⟨h4, e4⟩, ⟨h5, e5⟩⟩ := h
  exact ⟨L, h0.trans (hb.mono h0.size), ⟨brow_kept h1 (fun b e => hb.block b (h1.lt b e).2), e1⟩, ⟨abrow_kept h2 (fun b e => hb.block b (h2.lt b e).2), e2⟩, ⟨brow_kept h3 (fun b e => hb.block b (h3.lt b e).2), e3⟩, ⟨abrow_kept h4 (fun b e => hb.block b (h4.lt b e).2), e4⟩, ⟨abrow_kept h5 (fun b e => hb.block b (h5.lt b e).2), e5⟩⟩
theorem TG.appW (h : TG w1 ks l ws tw ab v1 v2 x3 x4 x5 W) (x : Int) (hl : ws.length ≤ 900000) :
    ∃ a' n' c' w', (∀ ty, (Builtin.append_ #[22, 22] ty #[x3, .slice (some ⟨W.heap.size, 0, none⟩) 1 1]).run Try.prog (W.alloc (.cells #[.int .i64 x] 3)) = .ok (.slice a' n' c') w') ∧ TG w1 ks l (ws ++ [x]) tw ab v1 v2 (.slice a' n' c') x4 x5 w' := by
  obtain ⟨L, h0, ⟨h1, e1⟩, ⟨h2, e2⟩, ⟨h3, e3⟩, ⟨h4, e4⟩, ⟨h5, e5⟩⟩ := h
  obtain ⟨a', n', c', w', r, g1, g2, g3⟩ := run_app8 x h3 h0.size (by omega)
  refine ⟨a', n', c', w', r, lab L W.heap.size 3, h0.trans (g2.below h0.size (fun b e => (h3.lt b e).1)), ⟨brow_kept h1 (fun b e => g2.block b (h1.lt b e).2 (fun q => by have := e1 b e; have := e3 b q; omega)), fun b e => (if_pos (h1.lt b e).2).trans (e1 b e)⟩, ⟨abrow_kept h2 (fun b e => g2.block b (h2.lt b e).2 (fun q => by have := e2 b e; have := e3 b q; omega)), fun b e => (if_pos (h2.lt b e).2).trans (e2 b e)⟩, ⟨g1, fun b e => ?_⟩, ⟨abrow_kept h4 (fun b e => g2.block b (h4.lt b e).2 (fun q => by have := e4 b e; have := e3 b q; omega)), fun b e => (if_pos (h4.lt b e).2).trans (e4 b e)⟩, ⟨abrow_kept h5 (fun b e => g2.block b (h5.lt b e).2 (fun q => by have := e5 b e; have := e3 b q; omega)), fun b e => (if_pos (h5.lt b e).2).trans (e5 b e)⟩⟩
  rcases g3 b e with q | q
  · exact (if_pos (h3.lt b q).2).trans (e3 b q)
  · exact if_neg (by omega)
theorem TG.appT (h : TG w1 ks l ws tw ab v1 v2 x3 x4 x5 W) {ad : Addr} {c : Nat} (l2 : List (Int × Int)) (hcell : ∀ j u, (encA l2)[j]? = some u → W.cell? (ad.add j) = some u) (hl : tw.length + l2.length ≤ 1000000) :
    ∃ a' n' c' w', (∀ ty, (Builtin.append_ #[23, 23] ty #[x4, .slice (some ad) l2.length c]).run Try.prog W = .ok (.slice a' n' c') w') ∧ TG w1 ks l ws (tw ++ l2) ab v1 v2 x3 (.slice a' n' c') x5 w' := by
  obtain ⟨L, h0, ⟨h1, e1⟩, ⟨h2, e2⟩, ⟨h3, e3⟩, ⟨h4, e4⟩, ⟨h5, e5⟩⟩ := h
  obtain ⟨a', n', c', w', r, g1, g2, g3⟩ := run_appA (c := c) h4 h0.size hcell hl
  refine ⟨a', n', c', w', r, lab L W.heap.size 4, h0.trans (g2.below h0.size (fun b e => (h4.lt b e).1)), ⟨brow_kept h1 (fun b e => g2.block b (h1.lt b e).2 (fun q => by have := e1 b e; have := e4 b q; omega)), fun b e => (if_pos (h1.lt b e).2).trans (e1 b e)⟩, ⟨abrow_kept h2 (fun b e => g2.block b (h2.lt b e).2 (fun q => by have := e2 b e; have := e4 b q; omega)), fun b e => (if_pos (h2.lt b e).2).trans (e2 b e)⟩, ⟨brow_kept h3 (fun b e => g2.block b (h3.lt b e).2 (fun q => by have := e3 b e; have := e4 b q; omega)), fun b e => (if_pos (h3.lt b e).2).trans (e3 b e)⟩, ⟨g1, fun b e => ?_⟩, ⟨abrow_kept h5 (fun b e => g2.block b (h5.lt b e).2 (fun q => by have := e5 b e; have := e4 b q; omega)), fun b e => (if_pos (h5.lt b e).2).trans (e5 b e)⟩⟩
  rcases g3 b e with q | q
  · exact (if_pos (h4.lt b q).2).trans (e4 b q)
  · exact if_neg (by omega)
theorem TG.appB (h : TG w1 ks l ws tw ab v1 v2 x3 x4 x5 W) {ad : Addr} {c : Nat} (l2 : List (Int × Int)) (hcell : ∀ j u, (encA l2)[j]? = some u → W.cell? (ad.add j) = some u) (hl : ab.length + l2.length ≤ 1000000) :
    ∃ a' n' c' w', (∀ ty, (Builtin.append_ #[23, 23] ty #[x5, .slice (some ad) l2.length c]).run Try.prog W = .ok (.slice a' n' c') w') ∧ TG w1 ks l ws tw (ab ++ l2) v1 v2 x3 x4 (.slice a' n' c') w' := by
  obtain ⟨L, h0, ⟨h1, e1⟩, ⟨h2, e2⟩, ⟨h3, e3⟩, ⟨h4, e4⟩, ⟨h5, e5⟩⟩ := h
  obtain ⟨a', n', c', w', r, g1, g2, g3⟩ := run_appA (c := c) h5 h0.size hcell hl
  refine ⟨a', n', c', w', r, lab L W.heap.size 5, h0.trans (g2.below h0.size (fun b e => (h5.lt b e).1)), ⟨brow_kept h1 (fun b e => g2.block b (h1.lt b e).2 (fun q => by have := e1 b e; have := e5 b q; omega)), fun b e => (if_pos (h1.lt b e).2).trans (e1 b e)⟩, ⟨abrow_kept h2 (fun b e => g2.block b (h2.lt b e).2 (fun q => by have := e2 b e; have := e5 b q; omega)), fun b e => (if_pos (h2.lt b e).2).trans (e2 b e)⟩, ⟨brow_kept h3 (fun b e => g2.block b (h3.lt b e).2 (fun q => by have := e3 b e; have := e5 b q; omega)), fun b e => (if_pos (h3.lt b e).2).trans (e3 b e)⟩, ⟨abrow_kept h4 (fun b e => g2.block b (h4.lt b e).2 (fun q => by have := e4 b e; have := e5 b q; omega)), fun b e => (if_pos (h4.lt b e).2).trans (e4 b e)⟩, ⟨g1, fun b e => ?_⟩⟩
  rcases g3 b e with q | q
  · exact (if_pos (h5.lt b q).2).trans (e5 b q)
  · exact if_neg (by omega)
theorem TG.r1 (h : TG w1 ks l ws tw ab v1 v2 x3 x4 x5 W) : NRow W v1 ks := by obtain ⟨L, -, ⟨h, -⟩, -⟩ := h; exact brow_at0 h
theorem TG.r2 (h : TG w1 ks l ws tw ab v1 v2 x3 x4 x5 W) : ARow W v2 l := by obtain ⟨L, -, -, ⟨h, -⟩, -⟩ := h; exact arow_zero h
theorem TG.r3 (h : TG w1 ks l ws tw ab v1 v2 x3 x4 x5 W) : NRow W x3 ws := by obtain ⟨L, -, -, -, ⟨h, -⟩, -⟩ := h; exact brow_at0 h
theorem TG.r4 (h : TG w1 ks l ws tw ab v1 v2 x3 x4 x5 W) : ARow W x4 tw := by obtain ⟨L, -, -, -, -, ⟨h, -⟩, -⟩ := h; exact arow_zero h
theorem TG.r5 (h : TG w1 ks l ws tw ab v1 v2 x3 x4 x5 W) : ARow W x5 ab := by obtain ⟨L, -, -, -, -, -, ⟨h, -⟩⟩ := h; exact arow_zero h
theorem TG.arcs {g n c j : Nat} {u x : Int} (h : TG w1 ks l ws tw ab v1 (.slice (some ⟨g, 0, none⟩) n c) x3 x4 x5 W) (hj : l[j]? = some (u, x)) : W.cell? ⟨g, j * 2, none⟩ = some (.int .i64 u) ∧ W.cell? ⟨g, j * 2 + 1, none⟩ = some (.int .i64 x) := by
  obtain ⟨L, -, -, ⟨h1, -⟩, -⟩ := h
  obtain ⟨q1, q2⟩ := encA_at hj
  have h5 : ∀ k y, (encA l)[k]? = some y → W.cell? ((⟨g, 0, none⟩ : Addr).add k) = some y := World.ownsRow.cells h1 (g := g) rfl
  have e1 := h5 _ _ q1
  have e2 := h5 _ _ q2
  rw [add_off, Nat.zero_add] at e1 e2
  exact ⟨e1, e2⟩
theorem abrow_some {B : Nat} {w : World} {a : Option Addr} {n c : Nat} {l : List (Int × Int)} (h : ABRow B w (.slice a n c) l) (h0 : 0 < l.length) : ∃ g, a = some ⟨g, 0, none⟩ := by
  rcases h.2 with ⟨-, e⟩ | ⟨g, cap, cur, e, -⟩
  · omega
  · exact ⟨g, by injection e⟩
/-- Two arcs, and one, in a new block. -/
theorem cells_two {w : World} {g : Nat} {u x : Int} (h : w.heap[g]? = some (.cells #[.int .i64 u, .int .i64 x, .int .i64 u, .int .i64 x] 47 (0, 0))) : ∀ j y, (encA [(u, x), (u, x)])[j]? = some y → w.cell? ((⟨g, 0, none⟩ : Addr).add j) = some y := fun j y hj => by
  rw [add_off, Nat.zero_add, cell_of_row _ _ j _ _ (0, 0) h, ← hj]; simp [encA]
theorem cells_one {w : World} {g : Nat} {u x : Int} (h : w.heap[g]? = some (oArc u x)) : ∀ j y, (encA [(u, x)])[j]? = some y → w.cell? ((⟨g, 0, none⟩ : Addr).add j) = some y := fun j y hj => by
  rw [add_off, Nat.zero_add, cell_of_row _ _ j _ _ (0, 0) h, ← hj]; simp [encA]
end
/-- The calls, with their answers as lists. -/
theorem ofT {w : World} {v av : Value} {ks : List Int} {l : List (Int × Int)} (hv : NRow w v ks) (ha : ARow w av l) (hn : ks.length ≤ 1000) (hm : l.length ≤ 1000) :
    Calls Try.prog 10 #[v, av] w fun e w' => Hid (∃ y c xss, e = .returned (.tuple #[y, .int .i64 c]) ∧ OfA ks l c xss ∧ LLr w' y xss ∧ Below w.heap.size w w') := by
  refine (ofS hv ha hn hm).mono ?_
  intro e w' hh
  obtain ⟨hb, hcase⟩ := unhide hh
  rcases hcase with ⟨q, rfl⟩ | ⟨q1, q2, rfl⟩ | ⟨q1, q2, y, V, rfl, hp, hs, h, hH, -, hL⟩
  · exact ⟨_, _, [], rfl, .inl ⟨q, rfl, rfl⟩, ⟨none, 0, rfl, fun i z hz => by cases hz⟩, hb⟩
  · exact ⟨_, _, [], rfl, .inr (.inl ⟨q1, q2, rfl, rfl⟩), ⟨none, 0, rfl, fun i z hz => by cases hz⟩, hb⟩
  · exact ⟨_, _, _, rfl, .inr (.inr ⟨q1, q2, rfl, V, h, hp, hs, hH, rfl⟩), lls_r hL, hb⟩
theorem orderT [Inhabited EntI] {w : World} {v av : Value} {ks : List Int} {l : List (Int × Int)} (hv : NRow w v ks) (ha : ARow w av l) (hn : ks.length ≤ 1000) (hm : l.length ≤ 1000) :
    Calls Try.prog 11 #[v, av] w fun e w' => Hid (∃ y c xs, e = .returned (.tuple #[y, .int .i64 c]) ∧ OrA ks l c xs ∧ NRow w' y xs ∧ Below w.heap.size w w') := by
  refine (orderOfS hv ha hn hm).mono ?_
  intro e w' hh
  obtain ⟨hb, hcase⟩ := unhide hh
  rcases hcase with ⟨q, rfl⟩ | ⟨q1, q2, rfl⟩ | ⟨q1, q2, y, V, rfl, hp, hs, h, T, hH, -, hT, hall, hL⟩
  · exact ⟨_, _, [], rfl, .inl ⟨q, rfl, rfl⟩, ⟨rfl, .inl ⟨rfl, rfl⟩⟩, hb⟩
  · exact ⟨_, _, [], rfl, .inr (.inl ⟨q1, q2, rfl, rfl⟩), ⟨rfl, .inl ⟨rfl, rfl⟩⟩, hb⟩
  · exact ⟨_, _, _, rfl, .inr (.inr ⟨q1, q2, rfl, V, h, T, hp, hs, hH, hT, hall, rfl⟩), brow_at0 hL, hb⟩
/-- The last three calls: they answer true, whenever they come. -/
def Quiet3 (w : World) (va vb vc vx vy : Value) : Prop := ∀ q,
  Calls Try.prog 15 #[va, vb] (w.drewN q) (fun e w' => e = .returned (.bool true) ∧ ∃ m, w' = w.drewN m) ∧
  Calls Try.prog 15 #[va, vc] (w.drewN q) (fun e w' => e = .returned (.bool true) ∧ ∃ m, w' = w.drewN m) ∧
  Calls Try.prog 17 #[vx, vy] (w.drewN q) (fun e w' => e = .returned (.bool true) ∧ ∃ m, w' = w.drewN m)
theorem nrow_drewN {w : World} {v : Value} {ks : List Int} (h : NRow w v ks) (q : Nat) : NRow (w.drewN q) v ks := nrow_below h ⟨rfl, rfl, rfl, Nat.le_refl _, fun _ _ => rfl⟩
theorem quiet3 {w : World} {va vb vc vx vy : Value} {A : List (List Int)} {X : List Int} (h1 : LLr w va A) (h2 : LLr w vb A) (h3 : LLr w vc A) (h4 : NRow w vx X) (h5 : NRow w vy X) (s1 : A.length ≤ 1000000) (s2 : ∀ y ∈ A, y.length ≤ 1000000) (s3 : X.length ≤ 1000000) : Quiet3 w va vb vc vx vy := fun q => by
  refine ⟨(sameLists9 (llr_drew h1 q) (llr_drew h2 q) s1 s2).mono ?_, (sameLists9 (llr_drew h1 q) (llr_drew h3 q) s1 s2).mono ?_, (sameInts9 (nrow_drewN h4 q) (nrow_drewN h5 q) s3).mono ?_⟩ <;>
  · rintro e w' ⟨rfl, m, rfl⟩
    exact ⟨by simp, q + m, World.drewN_drewN ..⟩
end

end Go.Proofs.Ytdpdghhieokcfaa
