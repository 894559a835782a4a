/- SccOrders: what is so of the lists that Of and Order answer. -/
import Derived.Test.YtdpdghhieokcfaaTurnM9
import Derived.Test.YtdpdghhieokcfaaIn9
namespace Go.Proofs.Ytdpdghhieokcfaa
open Go.RowKit Go.Maps T9
section
variable {nx : Nat → List Nat} {V : List Int} {h : Nat → Nat}
theorem Heads.twice (H : Heads nx V.length h) {p : Nat} (hp : p < V.length) : h (h p) = h p := by
  have := (H.same (H.lt hp) hp).2 ⟨(H p hp).2.1, (H p hp).1⟩
  exact this
/-- The list at a place: the part of the head there. -/
theorem comp_at {i : Nat} {c : List Int} : (compsV V h V.length)[i]? = some c ↔ ∃ m, (headsTo h V.length)[i]? = some m ∧ c = cv V (partTo h V.length m) := by
  unfold compsV compsTo
  rw [List.getElem?_map, List.getElem?_map]
  cases (headsTo h V.length)[i]? with
  | none => simp
  | some m => simp [eq_comm]
/-- A part's first is its head. -/
theorem part_first (H : Heads nx V.length h) {m : Nat} (hm : m ∈ headsTo h V.length) : ∃ t, partTo h V.length m = m :: t := by
  obtain ⟨h1, h2⟩ := mem_headsTo.1 hm
  have hs : (partTo h V.length m).Pairwise (· < ·) := List.Pairwise.sublist List.filter_sublist List.pairwise_lt_range
  have hin : m ∈ partTo h V.length m := mem_partTo.2 ⟨h1, h2⟩
  cases e : partTo h V.length m with
  | nil => rw [e] at hin; cases hin
  | cons a t =>
    rw [e] at hs hin
    have ha : a ∈ partTo h V.length m := by rw [e]; exact List.mem_cons_self
    obtain ⟨a1, a2⟩ := mem_partTo.1 ha
    have hle := H.le a1
    rcases List.mem_cons.1 hin with q | q
    · exact ⟨t, by rw [q]⟩
    · have := List.rel_of_pairwise_cons hs q
      omega
theorem cv_first (H : Heads nx V.length h) {m : Nat} (hm : m ∈ headsTo h V.length) : 0 < (cv V (partTo h V.length m)).length ∧ (cv V (partTo h V.length m)).getD 0 0 = V.getD m 0 := by
  obtain ⟨t, e⟩ := part_first H hm
  rw [e]; exact ⟨by simp [cv], by simp [cv]⟩
theorem getD_lt (hs : V.Pairwise (· < ·)) {p q : Nat} (hpq : p < q) (hq : q < V.length) : V.getD p 0 < V.getD q 0 := by
  rw [List.getD_eq_getElem?_getD, List.getD_eq_getElem?_getD, List.getElem?_eq_getElem (by omega), List.getElem?_eq_getElem hq]
  exact List.pairwise_iff_getElem.1 hs p q (by omega) hq hpq
theorem heads_rise {i : Nat} {m m' : Nat} (h1 : (headsTo h V.length)[i]? = some m) (h2 : (headsTo h V.length)[i + 1]? = some m') : m < m' := by
  have hs : (headsTo h V.length).Pairwise (· < ·) := List.Pairwise.sublist List.filter_sublist List.pairwise_lt_range
  obtain ⟨l1, e1⟩ := List.getElem?_eq_some_iff.1 h1
  obtain ⟨l2, e2⟩ := List.getElem?_eq_some_iff.1 h2
  have := List.pairwise_iff_getElem.1 hs i (i + 1) l1 l2 (by omega)
  rw [e1, e2] at this; exact this
theorem comps_sum (H : Heads nx V.length h) : ((compsV V h V.length).map List.length).sum = V.length := by
  have e : ∀ p < V.length, h p = (fun p => if p < V.length then h p else p) p := fun p hp => (if_pos hp).symm
  have e1 : (compsV V h V.length).map List.length = (compsTo h V.length).map List.length := by
    unfold compsV; rw [List.map_map]; congr 1; funext c; simp [cv]
  rw [e1, compsTo_congr e]
  refine compsTo_count (fun p => ?_) (fun p hp => ?_)
  · show (if p < V.length then h p else p) ≤ p
    by_cases q : p < V.length
    · rw [if_pos q]; exact H.le q
    · rw [if_neg q]; exact Nat.le_refl _
  · show (if (if p < V.length then h p else p) < V.length then h (if p < V.length then h p else p) else (if p < V.length then h p else p)) = (if p < V.length then h p else p)
    rw [if_pos hp, if_pos (H.lt hp)]; exact Heads.twice H hp
/-- In which list a vertex lies. -/
theorem mem_part (hs : V.Pairwise (· < ·)) {p m : Nat} {x : Int} (hx : V[p]? = some x) : x ∈ cv V (partTo h V.length m) ↔ h p = m := by
  unfold cv
  rw [List.mem_map]
  constructor
  · rintro ⟨q, hq, e⟩
    obtain ⟨q1, q2⟩ := mem_partTo.1 hq
    have : V[q]? = some x := by rw [← e, List.getD_eq_getElem?_getD, List.getElem?_eq_getElem q1]; rfl
    rw [← idx_at hs hx, idx_at hs this]; exact q2
  · intro e
    refine ⟨p, mem_partTo.2 ⟨(List.getElem?_eq_some_iff.1 hx).1, e⟩, ?_⟩
    rw [List.getD_eq_getElem?_getD, hx]; rfl
theorem comp_of (hs : V.Pairwise (· < ·)) (H : Heads nx V.length h) {p : Nat} {x : Int} (hx : V[p]? = some x) : ∃ i : Nat, compAt (compsV V h V.length) x = (i : Int) ∧ (headsTo h V.length)[i]? = some (h p) := by
  have hp := (List.getElem?_eq_some_iff.1 hx).1
  obtain ⟨i, hi⟩ := List.mem_iff_getElem?.1 (mem_headsTo.2 ⟨H.lt hp, Heads.twice H hp⟩)
  refine ⟨i, compAt_some (comp_at.2 ⟨_, hi, rfl⟩) ((mem_part hs hx).2 rfl) (fun j l hj hl hxl => ?_), hi⟩
  obtain ⟨m, hm, rfl⟩ := comp_at.1 hl
  have e := (mem_part hs hx).1 hxl
  obtain ⟨l1, e1⟩ := List.getElem?_eq_some_iff.1 hi
  obtain ⟨l2, e2⟩ := List.getElem?_eq_some_iff.1 hm
  have := (List.pairwise_iff_getElem.1 (headsTo_nodup h V.length)) j i l2 l1 hj
  rw [e1, e2] at this
  exact this e.symm
end
/-- What the law asks of the two answers. -/
structure OrdsF (ks : List Int) (l : List (Int × Int)) (A : List (List Int)) (X : List Int) : Prop where
  len : X.length = A.length
  some_ : ∀ (i : Nat) (c : List Int), A[i]? = some c → 0 < c.length ∧ c.length ≤ 1000
  rise : ∀ (i : Nat) (c d : List Int), A[i]? = some c → A[i + 1]? = some d → c.getD 0 0 < d.getD 0 0
  sum : (A.map List.length).sum = ks.length
  at_ : ∀ x ∈ ks, ∃ i : Nat, i < A.length ∧ compAt A x = (i : Int)
  nodup : X.Nodup
  ok : okArcs ks l
  on : ∀ (u x : Int) (i j : Nat) (c d : List Int), (u, x) ∈ l → compAt A u = (i : Int) → compAt A x = (j : Int) → A[i]? = some c → A[j]? = some d → c.getD 0 0 ∈ X ∧ d.getD 0 0 ∈ X ∧ (i ≠ j → ∃ p q : Nat, p < q ∧ X[p]? = some (c.getD 0 0) ∧ X[q]? = some (d.getD 0 0))
theorem ofor_len {ks : List Int} {l : List (Int × Int)} {c : Int} {A : List (List Int)} {X : List Int} (hA : OfA ks l c A) (hX : OrA ks l c X) : X.length = A.length := by
  rcases hA with ⟨q1, rfl, rfl⟩ | ⟨q1, q2, rfl, rfl⟩ | ⟨q1, q2, rfl, V, f, hp, hs, hH, rfl⟩ <;> rcases hX with ⟨q1', q3, rfl⟩ | ⟨q1', q2', q3, rfl⟩ | ⟨q1', q2', q3, V', f', T, hp', hs', hH', hT, ha, rfl⟩
  · rfl
  · rfl
  · exact absurd q1' q1
  · rfl
  · rfl
  · exact absurd q2' q2
  · exact absurd q1 q1'
  · exact absurd q2 q2'
  · obtain rfl : V' = V := perm_sorted hp' hp hs' hs
    have e := hH'.same_arcs hH (fun _ _ => Iff.rfl)
    rw [compsV_len, ← headsTo_congr e]
    simp only [cv, List.length_map]
    exact hT.length_all (headsTo_nodup _ _) ha
theorem ofA_few {ks : List Int} {l : List (Int × Int)} {c : Int} {A : List (List Int)} (h : OfA ks l c A) (hk : ks.length ≤ 1000) : A.length ≤ 1000 := by
  rcases h with ⟨-, -, rfl⟩ | ⟨-, -, -, rfl⟩ | ⟨-, -, -, V, f, hp, -, -, rfl⟩
  · simp
  · simp
  · have := headsTo_le f V.length
    have := hp.length_eq
    rw [compsV_len]; omega
theorem ordsF {ks : List Int} {l : List (Int × Int)} {A : List (List Int)} {X : List Int} (hA : OfA ks l 0 A) (hX : OrA ks l 0 X) (hk : ks.length ≤ 1000) : OrdsF ks l A X := by
  have hlen := ofor_len hA hX
  rcases hA with ⟨-, q, -⟩ | ⟨-, -, q, -⟩ | ⟨q1, q2, -, V, h, hp, hs, hH, rfl⟩
  · cases q
  · cases q
  rcases hX with ⟨-, q, -⟩ | ⟨-, -, q, -⟩ | ⟨-, -, -, V', h', T, hp', hs', hH', hT, ha, rfl⟩
  · cases q
  · cases q
  obtain rfl : V' = V := perm_sorted hp' hp hs' hs
  have e := hH'.same_arcs hH (fun _ _ => Iff.rfl)
  have hle := hp.length_eq
  have hlt : ∀ p < V'.length, ∀ q ∈ nextOf V' l p, q < V'.length := fun p _ q hq => nextOf_lt (fun a ha => hp.mem_iff.2 (q2 a ha).2) q hq
  rw [headsTo_congr e] at hT ha
  have hT := hT.congr (arcsOf_mem_congr e (fun _ _ => Iff.rfl) hlt)
  have hin : ∀ t ∈ T, t < V'.length := fun t ht => (mem_headsTo.1 (hT.nodup.2 t ht)).1
  refine ⟨hlen, fun i c hc => ?_, fun i c d hc hd => ?_, by rw [comps_sum hH, hle], fun x hx => ?_, ?_, q2, fun u x i j c d hl hu hx hc hd => ?_⟩
  · obtain ⟨m, hm, rfl⟩ := comp_at.1 hc
    refine ⟨(cv_first hH (List.mem_of_getElem? hm)).1, ?_⟩
    have := partTo_le h V'.length m
    simp only [cv, List.length_map]; omega
  · obtain ⟨m, hm, rfl⟩ := comp_at.1 hc
    obtain ⟨m', hm', rfl⟩ := comp_at.1 hd
    rw [(cv_first hH (List.mem_of_getElem? hm)).2, (cv_first hH (List.mem_of_getElem? hm')).2]
    exact getD_lt hs (heads_rise hm hm') (mem_headsTo.1 (List.mem_of_getElem? hm')).1
  · obtain ⟨i, h1, h2⟩ := comp_of hs hH (idx_some (hp.mem_iff.2 hx))
    exact ⟨i, by rw [compsV_len]; exact (List.getElem?_eq_some_iff.1 h2).1, h1⟩
  · unfold cv
    refine List.pairwise_map.2 (List.Pairwise.imp_of_mem (fun {a b} ha' hb' hne hab => ?_) hT.nodup.1)
    rcases Nat.lt_trichotomy a b with q | q | q
    · have := getD_lt hs q (hin b hb'); omega
    · exact hne q
    · have := getD_lt hs q (hin a ha'); omega
  · have hul := hp.mem_iff.2 (q2 _ hl).1
    have hxl := hp.mem_iff.2 (q2 _ hl).2
    obtain ⟨i', a1, a2⟩ := comp_of hs hH (idx_some hul)
    obtain ⟨j', b1, b2⟩ := comp_of hs hH (idx_some hxl)
    obtain rfl : i = i' := by have := hu.symm.trans a1; omega
    obtain rfl : j = j' := by have := hx.symm.trans b1; omega
    obtain ⟨m, hm, rfl⟩ := comp_at.1 hc
    obtain ⟨m', hm', rfl⟩ := comp_at.1 hd
    obtain rfl : m = h (V'.idxOf u) := by rw [hm] at a2; injection a2
    obtain rfl : m' = h (V'.idxOf x) := by rw [hm'] at b2; injection b2
    rw [(cv_first hH (List.mem_of_getElem? hm)).2, (cv_first hH (List.mem_of_getElem? hm')).2]
    have t1 := ha _ (List.mem_of_getElem? hm)
    have t2 := ha _ (List.mem_of_getElem? hm')
    refine ⟨List.mem_map.2 ⟨_, t1, rfl⟩, List.mem_map.2 ⟨_, t2, rfl⟩, fun hij => ?_⟩
    have hne : h (V'.idxOf u) ≠ h (V'.idxOf x) := fun q => hij (by
      rw [q] at hm
      obtain ⟨l1, e1⟩ := List.getElem?_eq_some_iff.1 hm
      obtain ⟨l2, e2⟩ := List.getElem?_eq_some_iff.1 hm'
      have hn := List.pairwise_iff_getElem.1 (headsTo_nodup h V'.length)
      rcases Nat.lt_trichotomy i j with z | z | z
      · exact absurd (e1.trans e2.symm) (hn i j l1 l2 z)
      · exact z
      · exact absurd (e2.trans e1.symm) (hn j i l2 l1 z))
    have har : (h (V'.idxOf u), h (V'.idxOf x)) ∈ arcsOf h (nextOf V' l) V'.length := mem_arcsOf.2 ⟨hne, V'.idxOf u, List.idxOf_lt_length_of_mem hul, V'.idxOf x, mem_nextOf.2 ⟨(u, x), hl, idx_some hul, rfl⟩, rfl, rfl⟩
    obtain ⟨l1, l2, eT, hin1⟩ := hT.ahead _ _ har t2
    obtain ⟨p, hp1⟩ := List.mem_iff_getElem?.1 hin1
    have hp2 := (List.getElem?_eq_some_iff.1 hp1).1
    refine ⟨p, l1.length, hp2, ?_, ?_⟩
    · rw [eT]; unfold cv
      rw [List.getElem?_map, List.getElem?_append_left hp2, hp1]; rfl
    · rw [eT]; unfold cv
      rw [List.getElem?_map, List.getElem?_append_right (Nat.le_refl _), Nat.sub_self]; rfl
/-- The law's two tables in memory; all else stands as it stood. -/
def OG (w0 : World) (n gh gp : Nat) (hs ps : List Int) (W : World) : Prop := Below w0.heap.size w0 W ∧ BRow w0.heap.size W (.slice (some ⟨gh, 0, none⟩) n n) hs ∧ BRow w0.heap.size W (.slice (some ⟨gp, 0, none⟩) n n) ps ∧ gh ≠ gp ∧ w0.heap.size ≤ gh ∧ w0.heap.size ≤ gp ∧ hs.length = n ∧ ps.length = n
theorem og_start {w0 : World} {n q : Nat} (hn : n ≤ 1000000) : OG w0 n (w0.drewN q).heap.size ((w0.drewN q).alloc (.cells (madeCells #[.int .i64 0] n) 3)).heap.size (List.replicate n 0) (List.replicate n 0) (((w0.drewN q).alloc (.cells (madeCells #[.int .i64 0] n) 3)).alloc (.cells (madeCells #[.int .i64 0] n) 3)) := by
  have b0 : Below w0.heap.size w0 (w0.drewN q) := ⟨rfl, rfl, rfl, Nat.le_refl _, fun _ _ => rfl⟩
  have b1 := below_new (w0.drewN q) (.cells (madeCells #[.int .i64 0] n) 3)
  have b2 := below_new ((w0.drewN q).alloc (.cells (madeCells #[.int .i64 0] n) 3)) (.cells (madeCells #[.int .i64 0] n) 3)
  have r1 := brow_made n hn (w0.drewN q)
  have r2 := brow_made n hn ((w0.drewN q).alloc (.cells (madeCells #[.int .i64 0] n) 3))
  have s1 : ((w0.drewN q).alloc (.cells (madeCells #[.int .i64 0] n) 3)).heap.size = w0.heap.size + 1 := by simp
  have s0 : (w0.drewN q).heap.size = w0.heap.size := rfl
  refine ⟨(b0.trans (b1.mono b0.size)).trans (b2.mono (by omega)), brow_low (brow_kept r1 (fun b e => b2.block b (r1.lt b e).2)) (Nat.le_refl _), brow_low r2 (by omega), by omega, by omega, by omega, by simp, by simp⟩
theorem OG.drew {w0 W : World} {n gh gp : Nat} {hs ps : List Int} (h : OG w0 n gh gp hs ps W) (q : Nat) : OG w0 n gh gp hs ps (W.drewN q) :=
  ⟨h.1.trans ⟨rfl, rfl, rfl, Nat.le_refl _, fun _ _ => rfl⟩, brow_kept h.2.1 (fun _ _ => rfl), brow_kept h.2.2.1 (fun _ _ => rfl), h.2.2.2⟩
theorem OG.grow {w0 W W' : World} {n gh gp : Nat} {hs ps : List Int} (h : OG w0 n gh gp hs ps W) (hb : Below W.heap.size W W') : OG w0 n gh gp hs ps W' :=
  ⟨h.1.trans (hb.mono h.1.size), brow_kept h.2.1 (fun b e => hb.block b (h.2.1.lt b e).2), brow_kept h.2.2.1 (fun b e => hb.block b (h.2.2.1.lt b e).2), h.2.2.2⟩
theorem OG.cell {w0 W : World} {n gh gp g o : Nat} {hs ps : List Int} {v : Value} (h : OG w0 n gh gp hs ps W) (hc : w0.cell? ⟨g, o, none⟩ = some v) : W.cell? ⟨g, o, none⟩ = some v := by
  have hl : g < w0.heap.size := by
    have h2 := hc
    unfold World.cell? at h2
    rcases Nat.lt_or_ge g w0.heap.size with q | q
    · exact q
    · rw [Array.getElem?_eq_none q] at h2; cases h2
  exact (h.1.cell (p := ⟨g, o, none⟩) hl).trans hc
/-- Where c stands among the first k of X: r tells it. -/
def AtX (X : List Int) (k : Nat) (c : Int) (r : Option Int) : Prop := c ∈ X.take k → ∃ p : Nat, r = some (p : Int) ∧ X[p]? = some c
theorem AtX.hit {X : List Int} {k : Nat} {c : Int} (h : X[k]? = some c) : AtX X (k + 1) c (some (k : Int)) := fun _ => ⟨k, rfl, h⟩
theorem AtX.miss {X : List Int} {k : Nat} {c y : Int} {r : Option Int} (h : X[k]? = some y) (hn : y ≠ c) (ha : AtX X k c r) : AtX X (k + 1) c r := fun hm => by
  rw [take_snoc h] at hm
  rcases List.mem_append.1 hm with q | q
  · exact ha q
  · exact absurd (List.mem_singleton.1 q).symm hn
theorem nodup_idx {X : List Int} (hn : X.Nodup) {p q : Nat} {c : Int} (h1 : X[p]? = some c) (h2 : X[q]? = some c) : p = q := by
  obtain ⟨l1, e1⟩ := List.getElem?_eq_some_iff.1 h1
  obtain ⟨l2, e2⟩ := List.getElem?_eq_some_iff.1 h2
  have hw := List.pairwise_iff_getElem.1 hn
  rcases Nat.lt_trichotomy p q with z | z | z
  · exact absurd (e1.trans e2.symm) (hw p q l1 l2 z)
  · exact z
  · exact absurd (e2.trans e1.symm) (hw q p l2 l1 z)
theorem OG.setH {w0 W : World} {n gh gp k : Nat} {hs ps : List Int} (h : OG w0 n gh gp hs ps W) (hk : k < n) (x : Int) : (∀ o, W.frozen? ⟨gh, o, none⟩ = false) ∧ OG w0 n gh gp (hs.set k x) ps (W.setCell ⟨gh, k, none⟩ (.int .i64 x)) := by
  obtain ⟨h0, h1, h2, h3, h4, h5, h6, h7⟩ := h
  obtain ⟨f, r⟩ := brow_set h1 x hk
  have ht : Turned (fun b => b = gh) W (W.setCell ⟨gh, k, none⟩ (.int .i64 x)) := setCells_turned (S := fun b => b = gh) gh rfl [.int .i64 x] k W
  exact ⟨f, h0.trans (ht.below h0.size (fun b e => by rw [e]; exact h4)), r, brow_kept h2 (fun b e => ht.block b (h2.lt b e).2 (fun q => h3 (q.symm.trans (own_eq e).symm))), h3, h4, h5, by rw [List.length_set]; exact h6, h7⟩
theorem OG.setP {w0 W : World} {n gh gp k : Nat} {hs ps : List Int} (h : OG w0 n gh gp hs ps W) (hk : k < n) (x : Int) : (∀ o, W.frozen? ⟨gp, o, none⟩ = false) ∧ OG w0 n gh gp hs (ps.set k x) (W.setCell ⟨gp, k, none⟩ (.int .i64 x)) := by
  obtain ⟨h0, h1, h2, h3, h4, h5, h6, h7⟩ := h
  obtain ⟨f, r⟩ := brow_set h2 x hk
  have ht : Turned (fun b => b = gp) W (W.setCell ⟨gp, k, none⟩ (.int .i64 x)) := setCells_turned (S := fun b => b = gp) gp rfl [.int .i64 x] k W
  exact ⟨f, h0.trans (ht.below h0.size (fun b e => by rw [e]; exact h5)), brow_kept h1 (fun b e => ht.block b (h1.lt b e).2 (fun q => h3 ((own_eq e).trans q))), r, h3, h4, h5, h6, by rw [List.length_set]; exact h7⟩
end Go.Proofs.Ytdpdghhieokcfaa
