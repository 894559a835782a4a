/- SccOrders: what is so of the lists that Of and Order answer. -/
import Derived.Test.YtdpdghhieokcfaaRingM9
import Derived.Test.YtdpdghhieokcfaaSame9
namespace Go.Proofs.Ytdpdghhieokcfaa

section
open Go.RowKit Go.Maps T9
def twos (l : List (Int × Int)) : List (Int × Int) := l.flatMap (fun a => [a, a])
def abouts (l : List (Int × Int)) : List (Int × Int) := l.map (fun a => (a.2, a.1))
theorem twos_snoc (l : List (Int × Int)) (a : Int × Int) : twos (l ++ [a]) = twos l ++ [a, a] := by simp [twos]
theorem abouts_snoc (l : List (Int × Int)) (a : Int × Int) : abouts (l ++ [a]) = abouts l ++ [(a.2, a.1)] := by simp [abouts]
theorem twos_len : ∀ l : List (Int × Int), (twos l).length = 2 * l.length
  | [] => rfl
  | a :: l => by
    have := twos_len l
    unfold twos at this ⊢
    simp [List.flatMap_cons, this]; omega
theorem abouts_len (l : List (Int × Int)) : (abouts l).length = l.length := by simp [abouts]
theorem mem_twos {l : List (Int × Int)} {a : Int × Int} : a ∈ l ↔ a ∈ twos l.reverse := by simp [twos]
theorem mem_abouts {l : List (Int × Int)} {u x : Int} : (u, x) ∈ l ↔ (x, u) ∈ abouts l.reverse :=
  ⟨fun h => List.mem_map.2 ⟨(u, x), List.mem_reverse.2 h, rfl⟩, fun h => by
    obtain ⟨⟨a, b⟩, h1, h2⟩ := List.mem_map.1 h
    have e1 : b = x := congrArg Prod.fst h2
    have e2 : a = u := congrArg Prod.snd h2
    rw [← e1, ← e2]; exact List.mem_reverse.1 h1⟩
theorem drop_rev {α : Type} {l : List α} {i : Nat} {a : α} (h : l[i]? = some a) : (l.drop i).reverse = (l.drop (i + 1)).reverse ++ [a] := by
  obtain ⟨hl, e⟩ := List.getElem?_eq_some_iff.1 h
  rw [List.drop_eq_getElem_cons hl, e, List.reverse_cons]
theorem nextOf_about {V : List Int} {l : List (Int × Int)} (hs : V.Pairwise (· < ·)) (hv : ∀ a ∈ l, a.1 ∈ V ∧ a.2 ∈ V) (p q : Nat) : q ∈ nextOf V l p ↔ p ∈ nextOf V (abouts l.reverse) q := by
  rw [mem_nextOf, mem_nextOf]
  constructor
  · rintro ⟨⟨u, x⟩, ha, h1, h2⟩
    refine ⟨(x, u), mem_abouts.1 ha, ?_, idx_at hs h1⟩
    rw [← h2]; exact idx_some (hv _ ha).2
  · rintro ⟨⟨x, u⟩, ha, h1, h2⟩
    have ha := mem_abouts.2 ha
    refine ⟨(u, x), ha, ?_, idx_at hs h1⟩
    rw [← h2]; exact idx_some (hv _ ha).1
/-- The code and the lists that Of answers. -/
def OfA (ks : List Int) (l : List (Int × Int)) (c : Int) (xss : List (List Int)) : Prop :=
  (¬ ks.Nodup ∧ c = 2 ∧ xss = []) ∨ (ks.Nodup ∧ ¬ okArcs ks l ∧ c = 5 ∧ xss = []) ∨ (ks.Nodup ∧ okArcs ks l ∧ c = 0 ∧ ∃ V h, V.Perm ks ∧ V.Pairwise (· < ·) ∧ Heads (nextOf V l) V.length h ∧ xss = compsV V h V.length)
/-- The code and the list that Order answers. -/
def OrA (ks : List Int) (l : List (Int × Int)) (c : Int) (xs : List Int) : Prop :=
  (¬ ks.Nodup ∧ c = 2 ∧ xs = []) ∨ (ks.Nodup ∧ ¬ okArcs ks l ∧ c = 5 ∧ xs = []) ∨ (ks.Nodup ∧ okArcs ks l ∧ c = 0 ∧ ∃ V h T, V.Perm ks ∧ V.Pairwise (· < ·) ∧ Heads (nextOf V l) V.length h ∧ T9.Told (headsTo h V.length) (arcsOf h (nextOf V l) V.length) T ∧ (∀ m, m ∈ headsTo h V.length → m ∈ T) ∧ xs = cv V T)
theorem ok_same {ks ks' : List Int} {l l' : List (Int × Int)} (hk : ∀ x, x ∈ ks ↔ x ∈ ks') (hl : ∀ a, a ∈ l ↔ a ∈ l') : okArcs ks l ↔ okArcs ks' l' :=
  ⟨fun h a ha => by have := h a ((hl a).2 ha); exact ⟨(hk _).1 this.1, (hk _).1 this.2⟩, fun h a ha => by have := h a ((hl a).1 ha); exact ⟨(hk _).2 this.1, (hk _).2 this.2⟩⟩
theorem ok_about {ks : List Int} {l : List (Int × Int)} : okArcs ks l ↔ okArcs ks (abouts l.reverse) :=
  ⟨fun h ⟨x, u⟩ ha => by have := h _ (mem_abouts.2 ha); exact ⟨this.2, this.1⟩, fun h ⟨u, x⟩ ha => by have := h _ (mem_abouts.1 ha); exact ⟨this.2, this.1⟩⟩
theorem compsV_congr {V : List Int} {h h' : Nat → Nat} (e : ∀ p < V.length, h p = h' p) : compsV V h V.length = compsV V h' V.length := by
  unfold compsV; rw [compsTo_congr e]
theorem of_twice {ks : List Int} {l : List (Int × Int)} {c c' : Int} {xs xs' : List (List Int)} (h : OfA ks l c xs) (h' : OfA ks.reverse (twos l.reverse) c' xs') : c = c' ∧ xs = xs' := by
  have hn : ks.reverse.Nodup ↔ ks.Nodup := (List.reverse_perm ks).nodup_iff
  have ho := ok_same (ks := ks) (ks' := ks.reverse) (l := l) (l' := twos l.reverse) (fun x => by simp) (fun a => mem_twos)
  rcases h with ⟨q1, rfl, rfl⟩ | ⟨q1, q2, rfl, rfl⟩ | ⟨q1, q2, rfl, V, f, hp, hs, hH, rfl⟩ <;> rcases h' with ⟨q1', rfl, rfl⟩ | ⟨q1', q2', rfl, rfl⟩ | ⟨q1', q2', rfl, V', f', hp', hs', hH', rfl⟩
  · exact ⟨rfl, rfl⟩
  · exact absurd (hn.1 q1') q1
  · exact absurd (hn.1 q1') q1
  · exact absurd (hn.2 q1) q1'
  · exact ⟨rfl, rfl⟩
  · exact absurd (ho.2 q2') q2
  · exact absurd (hn.2 q1) q1'
  · exact absurd (ho.1 q2) q2'
  · obtain rfl : V' = V := perm_sorted (hp'.trans (List.reverse_perm _)) hp hs' hs
    exact ⟨rfl, compsV_congr (hH.same_arcs hH' (nextOf_same (fun a => mem_twos)))⟩
theorem of_about {ks : List Int} {l : List (Int × Int)} {c c' : Int} {xs xs' : List (List Int)} (h : OfA ks l c xs) (h' : OfA ks (abouts l.reverse) c' xs') : c = c' ∧ xs = xs' := by
  have ho := ok_about (ks := ks) (l := l)
  rcases h with ⟨q1, rfl, rfl⟩ | ⟨q1, q2, rfl, rfl⟩ | ⟨q1, q2, rfl, V, f, hp, hs, hH, rfl⟩ <;> rcases h' with ⟨q1', rfl, rfl⟩ | ⟨q1', q2', rfl, rfl⟩ | ⟨q1', q2', rfl, V', f', hp', hs', hH', rfl⟩
  · exact ⟨rfl, rfl⟩
  · exact absurd q1' q1
  · exact absurd q1' q1
  · exact absurd q1 q1'
  · exact ⟨rfl, rfl⟩
  · exact absurd (ho.2 q2') q2
  · exact absurd q1 q1'
  · exact absurd (ho.1 q2) q2'
  · obtain rfl : V' = V := perm_sorted hp' hp hs' hs
    exact ⟨rfl, compsV_congr (hH.about_arcs hH' (nextOf_about hs (fun a ha => ⟨hp.mem_iff.2 (q2 a ha).1, hp.mem_iff.2 (q2 a ha).2⟩)))⟩
theorem arcsOf_mem_congr {h h' : Nat → Nat} {nx nx' : Nat → List Nat} {n : Nat} (e : ∀ p < n, h p = h' p) (en : ∀ p q, q ∈ nx p ↔ q ∈ nx' p) (hl : ∀ p < n, ∀ q ∈ nx p, q < n) (a : Nat × Nat) : a ∈ arcsOf h nx n ↔ a ∈ arcsOf h' nx' n := by
  obtain ⟨u, v⟩ := a
  rw [mem_arcsOf, mem_arcsOf]
  constructor
  · rintro ⟨q1, p, hp, q, hq, rfl, rfl⟩
    exact ⟨q1, p, hp, q, (en p q).1 hq, (e p hp).symm, (e q (hl p hp q hq)).symm⟩
  · rintro ⟨q1, p, hp, q, hq, rfl, rfl⟩
    have hq := (en p q).2 hq
    exact ⟨q1, p, hp, q, hq, e p hp, e q (hl p hp q hq)⟩
theorem or_one {ks : List Int} {l l' : List (Int × Int)} {V : List Int} {h h' : Nat → Nat} {T T' : List Nat} (hp : V.Perm ks) (hok : okArcs ks l) (hm : ∀ a, a ∈ l ↔ a ∈ l') (hH : Heads (nextOf V l) V.length h) (hH' : Heads (nextOf V l') V.length h') (hT : T9.Told (headsTo h V.length) (arcsOf h (nextOf V l) V.length) T) (hT' : T9.Told (headsTo h' V.length) (arcsOf h' (nextOf V l') V.length) T') (ha : ∀ m, m ∈ headsTo h V.length → m ∈ T) (ha' : ∀ m, m ∈ headsTo h' V.length → m ∈ T') : T = T' := by
  have e := hH.same_arcs hH' (nextOf_same hm)
  have eh := headsTo_congr e
  rw [← eh] at hT' ha'
  have hT2 := hT'.congr (fun a => (arcsOf_mem_congr e (nextOf_same hm) (fun p _ q hq => nextOf_lt (fun a ha => hp.mem_iff.2 (hok a ha).2) q hq) a).symm)
  exact hT.one hT2 (by rw [hT.length_all (headsTo_nodup _ _) ha, hT2.length_all (headsTo_nodup _ _) ha'])
theorem or_twice {ks : List Int} {l : List (Int × Int)} {c c' : Int} {xs xs' : List Int} (h : OrA ks l c xs) (h' : OrA ks.reverse (twos l.reverse) c' xs') : c = c' ∧ xs = xs' := by
  have hn : ks.reverse.Nodup ↔ ks.Nodup := (List.reverse_perm ks).nodup_iff
  have ho := ok_same (ks := ks) (ks' := ks.reverse) (l := l) (l' := twos l.reverse) (fun x => by simp) (fun a => mem_twos)
  rcases h with ⟨q1, rfl, rfl⟩ | ⟨q1, q2, rfl, rfl⟩ | ⟨q1, q2, rfl, V, f, T, hp, hs, hH, hT, ha, rfl⟩ <;> rcases h' with ⟨q1', rfl, rfl⟩ | ⟨q1', q2', rfl, rfl⟩ | ⟨q1', q2', rfl, V', f', T', hp', hs', hH', hT', ha', rfl⟩
  · exact ⟨rfl, rfl⟩
  · exact absurd (hn.1 q1') q1
  · exact absurd (hn.1 q1') q1
  · exact absurd (hn.2 q1) q1'
  · exact ⟨rfl, rfl⟩
  · exact absurd (ho.2 q2') q2
  · exact absurd (hn.2 q1) q1'
  · exact absurd (ho.1 q2) q2'
  · obtain rfl : V' = V := perm_sorted (hp'.trans (List.reverse_perm _)) hp hs' hs
    rw [or_one hp q2 (fun a => mem_twos) hH hH' hT hT' ha ha']
    exact ⟨rfl, rfl⟩
theorem of_or {ks : List Int} {l : List (Int × Int)} {c c' : Int} {xs : List (List Int)} {ys : List Int} (h : OfA ks l c xs) (h' : OrA ks l c' ys) : c = c' := by
  rcases h with ⟨q1, rfl, -⟩ | ⟨q1, q2, rfl, -⟩ | ⟨q1, q2, rfl, -⟩ <;> rcases h' with ⟨q1', rfl, -⟩ | ⟨q1', q2', rfl, -⟩ | ⟨q1', q2', rfl, -⟩
  · rfl
  · exact absurd q1' q1
  · exact absurd q1' q1
  · exact absurd q1 q1'
  · rfl
  · exact absurd q2' q2
  · exact absurd q1 q1'
  · exact absurd q2 q2'
  · rfl
theorem ofA_len {ks : List Int} {l : List (Int × Int)} {c : Int} {xs : List (List Int)} (h : OfA ks l c xs) (hk : ks.length ≤ 1000) : xs.length ≤ 1000000 ∧ ∀ y ∈ xs, y.length ≤ 1000000 := by
  rcases h with ⟨-, -, rfl⟩ | ⟨-, -, -, rfl⟩ | ⟨-, -, -, V, f, hp, -, -, rfl⟩
  · simp
  · simp
  · have hl := hp.length_eq
    constructor
    · rw [compsV_len]
      have : (headsTo f V.length).length ≤ (List.range V.length).length := List.length_filter_le _ _
      rw [List.length_range] at this; omega
    · intro y hy
      obtain ⟨c, hc, rfl⟩ := List.mem_map.1 hy
      obtain ⟨m, -, rfl⟩ := List.mem_map.1 hc
      have : (partTo f V.length m).length ≤ (List.range V.length).length := List.length_filter_le _ _
      rw [List.length_range] at this
      simp only [cv, List.length_map]; omega
theorem orA_len {ks : List Int} {l : List (Int × Int)} {c : Int} {xs : List Int} (h : OrA ks l c xs) (hk : ks.length ≤ 1000) : xs.length ≤ 1000000 := by
  rcases h with ⟨-, -, rfl⟩ | ⟨-, -, -, rfl⟩ | ⟨-, -, -, V, f, T, hp, -, -, hT, ha, rfl⟩
  · simp
  · simp
  · have hl := hp.length_eq
    have : (headsTo f V.length).length ≤ (List.range V.length).length := List.length_filter_le _ _
    rw [List.length_range] at this
    simp only [cv, List.length_map]
    rw [hT.length_all (headsTo_nodup _ _) ha]; omega
/-- The lists of the law: those that came, and the three that grow. -/
def TG (w1 : World) (ks : List Int) (l : List (Int × Int)) (ws : List Int) (tw ab : List (Int × Int)) (v1 v2 x3 x4 x5 : Value) (W : World) : Prop :=
  ∃ L : Nat → Nat, Below w1.heap.size w1 W ∧ (BRow w1.heap.size W v1 ks ∧ ∀ b, v1.ownBlock = some b → L b = 1) ∧ (ABRow w1.heap.size W v2 l ∧ ∀ b, v2.ownBlock = some b → L b = 2) ∧ (BRow w1.heap.size W x3 ws ∧ ∀ b, x3.ownBlock = some b → L b = 3) ∧ (ABRow w1.heap.size W x4 tw ∧ ∀ b, x4.ownBlock = some b → L b = 4) ∧ (ABRow w1.heap.size W x5 ab ∧ ∀ b, x5.ownBlock = some b → L b = 5)
section
variable {w1 W W' : World} {ks ws : List Int} {l tw ab : List (Int × Int)} {v1 v2 x3 x4 x5 : Value}
theorem TG.start (h : RG w1 ks l v1 v2 W) : TG w1 ks l [] [] [] v1 v2 (.slice none 0 0) (.slice none 0 0) (.slice none 0 0) W :=
  ⟨fun b => if v1.ownBlock = some b then 1 else 2, h.1, ⟨h.2.1, fun b e => if_pos e⟩, ⟨h.2.2.1, fun b e => if_neg (fun q => h.2.2.2 b q e)⟩, ⟨⟨rfl, .inl ⟨rfl, rfl⟩⟩, fun b e => by cases e⟩, ⟨⟨rfl, .inl ⟨rfl, rfl⟩⟩, fun b e => by cases e⟩, ⟨⟨rfl, .inl ⟨rfl, rfl⟩⟩, fun b e => by cases e⟩⟩
theorem TG.below (h : TG w1 ks l ws tw ab v1 v2 x3 x4 x5 W) (hb : Below W.heap.size W W') : TG w1 ks l ws tw ab v1 v2 x3 x4 x5 W' := by
  obtain ⟨L, h0, ⟨h1, e1⟩, ⟨h2, e2⟩, ⟨h3, e3⟩, ⟨h4, e4⟩, ⟨h5, e5⟩⟩ := h
  exact ⟨L, h0.trans (hb.mono h0.size), ⟨brow_kept h1 (fun b e => hb.block b (h1.lt b e).2), e1⟩, ⟨abrow_kept h2 (fun b e => hb.block b (h2.lt b e).2), e2⟩, ⟨brow_kept h3 (fun b e => hb.block b (h3.lt b e).2), e3⟩, ⟨abrow_kept h4 (fun b e => hb.block b (h4.lt b e).2), e4⟩, ⟨abrow_kept h5 (fun b e => hb.block b (h5.lt b e).2), e5⟩⟩
theorem TG.appW (h : TG w1 ks l ws tw ab v1 v2 x3 x4 x5 W) (x : Int) (hl : ws.length ≤ 900000) :
    ∃ a' n' c' w', (∀ ty, (Builtin.append_ #[22, 22] ty #[x3, .slice (some ⟨W.heap.size, 0, none⟩) 1 1]).run Try.prog (W.alloc (.cells #[.int .i64 x] 3)) = .ok (.slice a' n' c') w') ∧ TG w1 ks l (ws ++ [x]) tw ab v1 v2 (.slice a' n' c') x4 x5 w' := by
  obtain ⟨L, h0, ⟨h1, e1⟩, ⟨h2, e2⟩, ⟨h3, e3⟩, ⟨h4, e4⟩, ⟨h5, e5⟩⟩ := h
  obtain ⟨a', n', c', w', r, g1, g2, g3⟩ := run_app8 x h3 h0.size (by omega)
  refine ⟨a', n', c', w', r, lab L W.heap.size 3, h0.trans (g2.below h0.size (fun b e => (h3.lt b e).1)), ⟨brow_kept h1 (fun b e => g2.block b (h1.lt b e).2 (fun q => by have := e1 b e; have := e3 b q; omega)), fun b e => (if_pos (h1.lt b e).2).trans (e1 b e)⟩, ⟨abrow_kept h2 (fun b e => g2.block b (h2.lt b e).2 (fun q => by have := e2 b e; have := e3 b q; omega)), fun b e => (if_pos (h2.lt b e).2).trans (e2 b e)⟩, ⟨g1, fun b e => ?_⟩, ⟨abrow_kept h4 (fun b e => g2.block b (h4.lt b e).2 (fun q => by have := e4 b e; have := e3 b q; omega)), fun b e => (if_pos (h4.lt b e).2).trans (e4 b e)⟩, ⟨abrow_kept h5 (fun b e => g2.block b (h5.lt b e).2 (fun q => by have := e5 b e; have := e3 b q; omega)), fun b e => (if_pos (h5.lt b e).2).trans (e5 b e)⟩⟩
  rcases g3 b e with q | q
  · exact (if_pos (h3.lt b q).2).trans (e3 b q)
  · exact if_neg (by omega)
theorem TG.appT (h : TG w1 ks l ws tw ab v1 v2 x3 x4 x5 W) {ad : Addr} {c : Nat} (l2 : List (Int × Int)) (hcell : ∀ j u, (encA l2)[j]? = some u → W.cell? (ad.add j) = some u) (hl : tw.length + l2.length ≤ 1000000) :
    ∃ a' n' c' w', (∀ ty, (Builtin.append_ #[23, 23] ty #[x4, .slice (some ad) l2.length c]).run Try.prog W = .ok (.slice a' n' c') w') ∧ TG w1 ks l ws (tw ++ l2) ab v1 v2 x3 (.slice a' n' c') x5 w' := by
  obtain ⟨L, h0, ⟨h1, e1⟩, ⟨h2, e2⟩, ⟨h3, e3⟩, ⟨h4, e4⟩, ⟨h5, e5⟩⟩ := h
  obtain ⟨a', n', c', w', r, g1, g2, g3⟩ := run_appA (c := c) h4 h0.size hcell hl
  refine ⟨a', n', c', w', r, lab L W.heap.size 4, h0.trans (g2.below h0.size (fun b e => (h4.lt b e).1)), ⟨brow_kept h1 (fun b e => g2.block b (h1.lt b e).2 (fun q => by have := e1 b e; have := e4 b q; omega)), fun b e => (if_pos (h1.lt b e).2).trans (e1 b e)⟩, ⟨abrow_kept h2 (fun b e => g2.block b (h2.lt b e).2 (fun q => by have := e2 b e; have := e4 b q; omega)), fun b e => (if_pos (h2.lt b e).2).trans (e2 b e)⟩, ⟨brow_kept h3 (fun b e => g2.block b (h3.lt b e).2 (fun q => by have := e3 b e; have := e4 b q; omega)), fun b e => (if_pos (h3.lt b e).2).trans (e3 b e)⟩, ⟨g1, fun b e => ?_⟩, ⟨abrow_kept h5 (fun b e => g2.block b (h5.lt b e).2 (fun q => by have := e5 b e; have := e4 b q; omega)), fun b e => (if_pos (h5.lt b e).2).trans (e5 b e)⟩⟩
  rcases g3 b e with q | q
  · exact (if_pos (h4.lt b q).2).trans (e4 b q)
  · exact if_neg (by omega)
theorem TG.appB (h : TG w1 ks l ws tw ab v1 v2 x3 x4 x5 W) {ad : Addr} {c : Nat} (l2 : List (Int × Int)) (hcell : ∀ j u, (encA l2)[j]? = some u → W.cell? (ad.add j) = some u) (hl : ab.length + l2.length ≤ 1000000) :
    ∃ a' n' c' w', (∀ ty, (Builtin.append_ #[23, 23] ty #[x5, .slice (some ad) l2.length c]).run Try.prog W = .ok (.slice a' n' c') w') ∧ TG w1 ks l ws tw (ab ++ l2) v1 v2 x3 x4 (.slice a' n' c') w' := by
  obtain ⟨L, h0, ⟨h1, e1⟩, ⟨h2, e2⟩, ⟨h3, e3⟩, ⟨h4, e4⟩, ⟨h5, e5⟩⟩ := h
  obtain ⟨a', n', c', w', r, g1, g2, g3⟩ := run_appA (c := c) h5 h0.size hcell hl
  refine ⟨a', n', c', w', r, lab L W.heap.size 5, h0.trans (g2.below h0.size (fun b e => (h5.lt b e).1)), ⟨brow_kept h1 (fun b e => g2.block b (h1.lt b e).2 (fun q => by have := e1 b e; have := e5 b q; omega)), fun b e => (if_pos (h1.lt b e).2).trans (e1 b e)⟩, ⟨abrow_kept h2 (fun b e => g2.block b (h2.lt b e).2 (fun q => by have := e2 b e; have := e5 b q; omega)), fun b e => (if_pos (h2.lt b e).2).trans (e2 b e)⟩, ⟨brow_kept h3 (fun b e => g2.block b (h3.lt b e).2 (fun q => by have := e3 b e; have := e5 b q; omega)), fun b e => (if_pos (h3.lt b e).2).trans (e3 b e)⟩, ⟨abrow_kept h4 (fun b e => g2.block b (h4.lt b e).2 (fun q => by have := e4 b e; have := e5 b q; omega)), fun b e => (if_pos (h4.lt b e).2).trans (e4 b e)⟩, ⟨g1, fun b e => ?_⟩⟩
  rcases g3 b e with q | q
  · exact (if_pos (h5.lt b q).2).trans (e5 b q)
  · exact if_neg (by omega)
theorem TG.r1 (h : TG w1 ks l ws tw ab v1 v2 x3 x4 x5 W) : NRow W v1 ks := by obtain ⟨L, -, ⟨h, -⟩, -⟩ := h; exact brow_at0 h
theorem TG.r2 (h : TG w1 ks l ws tw ab v1 v2 x3 x4 x5 W) : ARow W v2 l := by obtain ⟨L, -, -, ⟨h, -⟩, -⟩ := h; exact arow_zero h
theorem TG.r3 (h : TG w1 ks l ws tw ab v1 v2 x3 x4 x5 W) : NRow W x3 ws := by obtain ⟨L, -, -, -, ⟨h, -⟩, -⟩ := h; exact brow_at0 h
theorem TG.r4 (h : TG w1 ks l ws tw ab v1 v2 x3 x4 x5 W) : ARow W x4 tw := by obtain ⟨L, -, -, -, -, ⟨h, -⟩, -⟩ := h; exact arow_zero h
theorem TG.r5 (h : TG w1 ks l ws tw ab v1 v2 x3 x4 x5 W) : ARow W x5 ab := by obtain ⟨L, -, -, -, -, -, ⟨h, -⟩⟩ := h; exact arow_zero h
theorem TG.arcs {g n c j : Nat} {u x : Int} (h : TG w1 ks l ws tw ab v1 (.slice (some ⟨g, 0, none⟩) n c) x3 x4 x5 W) (hj : l[j]? = some (u, x)) : W.cell? ⟨g, j * 2, none⟩ = some (.int .i64 u) ∧ W.cell? ⟨g, j * 2 + 1, none⟩ = some (.int .i64 x) := by
  obtain ⟨L, -, -, ⟨h1, -⟩, -⟩ := h
  obtain ⟨q1, q2⟩ := encA_at hj
  have h5 : ∀ k y, (encA l)[k]? = some y → W.cell? ((⟨g, 0, none⟩ : Addr).add k) = some y := World.ownsRow.cells h1 (g := g) rfl
  have e1 := h5 _ _ q1
  have e2 := h5 _ _ q2
  rw [add_off, Nat.zero_add] at e1 e2
  exact ⟨e1, e2⟩
theorem abrow_some {B : Nat} {w : World} {a : Option Addr} {n c : Nat} {l : List (Int × Int)} (h : ABRow B w (.slice a n c) l) (h0 : 0 < l.length) : ∃ g, a = some ⟨g, 0, none⟩ := by
  rcases h.2 with ⟨-, e⟩ | ⟨g, cap, cur, e, -⟩
  · omega
  · exact ⟨g, by injection e⟩
/-- Two arcs, and one, in a new block. -/
theorem cells_two {w : World} {g : Nat} {u x : Int} (h : w.heap[g]? = some (.cells #[.int .i64 u, .int .i64 x, .int .i64 u, .int .i64 x] 47 (0, 0))) : ∀ j y, (encA [(u, x), (u, x)])[j]? = some y → w.cell? ((⟨g, 0, none⟩ : Addr).add j) = some y := fun j y hj => by
  rw [add_off, Nat.zero_add, cell_of_row _ _ j _ _ (0, 0) h, ← hj]; simp [encA]
theorem cells_one {w : World} {g : Nat} {u x : Int} (h : w.heap[g]? = some (oArc u x)) : ∀ j y, (encA [(u, x)])[j]? = some y → w.cell? ((⟨g, 0, none⟩ : Addr).add j) = some y := fun j y hj => by
  rw [add_off, Nat.zero_add, cell_of_row _ _ j _ _ (0, 0) h, ← hj]; simp [encA]
end
/-- The calls, with their answers as lists. -/
theorem ofT {w : World} {v av : Value} {ks : List Int} {l : List (Int × Int)} (hv : NRow w v ks) (ha : ARow w av l) (hn : ks.length ≤ 1000) (hm : l.length ≤ 1000) :
    Calls Try.prog 10 #[v, av] w fun e w' => Hid (∃ y c xss, e = .returned (.tuple #[y, .int .i64 c]) ∧ OfA ks l c xss ∧ LLr w' y xss ∧ Below w.heap.size w w') := by
  refine (ofS hv ha hn hm).mono ?_
  intro e w' hh
  obtain ⟨hb, hcase⟩ := unhide hh
  rcases hcase with ⟨q, rfl⟩ | ⟨q1, q2, rfl⟩ | ⟨q1, q2, y, V, rfl, hp, hs, h, hH, -, hL⟩
  · exact ⟨_, _, [], rfl, .inl ⟨q, rfl, rfl⟩, ⟨none, 0, rfl, fun i z hz => by cases hz⟩, hb⟩
  · exact ⟨_, _, [], rfl, .inr (.inl ⟨q1, q2, rfl, rfl⟩), ⟨none, 0, rfl, fun i z hz => by cases hz⟩, hb⟩
  · exact ⟨_, _, _, rfl, .inr (.inr ⟨q1, q2, rfl, V, h, hp, hs, hH, rfl⟩), lls_r hL, hb⟩
theorem orderT [Inhabited EntI] {w : World} {v av : Value} {ks : List Int} {l : List (Int × Int)} (hv : NRow w v ks) (ha : ARow w av l) (hn : ks.length ≤ 1000) (hm : l.length ≤ 1000) :
    Calls Try.prog 11 #[v, av] w fun e w' => Hid (∃ y c xs, e = .returned (.tuple #[y, .int .i64 c]) ∧ OrA ks l c xs ∧ NRow w' y xs ∧ Below w.heap.size w w') := by
  refine (orderOfS hv ha hn hm).mono ?_
  intro e w' hh
  obtain ⟨hb, hcase⟩ := unhide hh
  rcases hcase with ⟨q, rfl⟩ | ⟨q1, q2, rfl⟩ | ⟨q1, q2, y, V, rfl, hp, hs, h, T, hH, -, hT, hall, hL⟩
  · exact ⟨_, _, [], rfl, .inl ⟨q, rfl, rfl⟩, ⟨rfl, .inl ⟨rfl, rfl⟩⟩, hb⟩
  · exact ⟨_, _, [], rfl, .inr (.inl ⟨q1, q2, rfl, rfl⟩), ⟨rfl, .inl ⟨rfl, rfl⟩⟩, hb⟩
  · exact ⟨_, _, _, rfl, .inr (.inr ⟨q1, q2, rfl, V, h, T, hp, hs, hH, hT, hall, rfl⟩), brow_at0 hL, hb⟩
/-- The last three calls: they answer true, whenever they come. -/
def Quiet3 (w : World) (va vb vc vx vy : Value) : Prop := ∀ q,
  Calls Try.prog 15 #[va, vb] (w.drewN q) (fun e w' => e = .returned (.bool true) ∧ ∃ m, w' = w.drewN m) ∧
  Calls Try.prog 15 #[va, vc] (w.drewN q) (fun e w' => e = .returned (.bool true) ∧ ∃ m, w' = w.drewN m) ∧
  Calls Try.prog 17 #[vx, vy] (w.drewN q) (fun e w' => e = .returned (.bool true) ∧ ∃ m, w' = w.drewN m)
theorem nrow_drewN {w : World} {v : Value} {ks : List Int} (h : NRow w v ks) (q : Nat) : NRow (w.drewN q) v ks := nrow_below h ⟨rfl, rfl, rfl, Nat.le_refl _, fun _ _ => rfl⟩
theorem quiet3 {w : World} {va vb vc vx vy : Value} {A : List (List Int)} {X : List Int} (h1 : LLr w va A) (h2 : LLr w vb A) (h3 : LLr w vc A) (h4 : NRow w vx X) (h5 : NRow w vy X) (s1 : A.length ≤ 1000000) (s2 : ∀ y ∈ A, y.length ≤ 1000000) (s3 : X.length ≤ 1000000) : Quiet3 w va vb vc vx vy := fun q => by
  refine ⟨(sameLists9 (llr_drew h1 q) (llr_drew h2 q) s1 s2).mono ?_, (sameLists9 (llr_drew h1 q) (llr_drew h3 q) s1 s2).mono ?_, (sameInts9 (nrow_drewN h4 q) (nrow_drewN h5 q) s3).mono ?_⟩ <;>
  · rintro e w' ⟨rfl, m, rfl⟩
    exact ⟨by simp, q + m, World.drewN_drewN ..⟩
end

section
open Go.RowKit Go.Maps T9
/-- The place of the list that has it, or -1. -/
def compAt (xss : List (List Int)) (x : Int) : Int := match xss.findIdx? (fun l => decide (x ∈ l)) with | some i => (i : Nat) | none => -1
theorem compAt_some {xss : List (List Int)} {x : Int} {i : Nat} {y : List Int} (hy : xss[i]? = some y) (hx : x ∈ y) (hS : ∀ (j : Nat) (l : List Int), j < i → xss[j]? = some l → x ∉ l) : compAt xss x = (i : Int) := by
  obtain ⟨hl, e⟩ := List.getElem?_eq_some_iff.1 hy
  have : xss.findIdx? (fun l => decide (x ∈ l)) = some i := by
    rw [List.findIdx?_eq_some_iff_getElem]
    refine ⟨hl, by rw [e]; exact decide_eq_true hx, fun j hj => ?_⟩
    have := hS j xss[j] hj (List.getElem?_eq_getElem (by omega))
    simpa using this
  unfold compAt; rw [this]
theorem compAt_none {xss : List (List Int)} {x : Int} (hS : ∀ (j : Nat) (l : List Int), xss[j]? = some l → x ∉ l) : compAt xss x = -1 := by
  have : xss.findIdx? (fun l => decide (x ∈ l)) = none := by
    rw [List.findIdx?_eq_none_iff]
    intro l hl
    obtain ⟨j, hj⟩ := List.mem_iff_getElem?.1 hl
    exact decide_eq_false (hS j l hj)
  unfold compAt; rw [this]
set_option maxHeartbeats 4000000 in
set_option maxRecDepth 100000 in
theorem inS {w : World} {v : Value} {ks : List Int} {x : Int} (h : NRow w v ks) (hl : ks.length ≤ 1000000) :
    Calls Try.prog 28 #[v, .int .i64 x] w fun e w' => e = .returned (.bool (decide (x ∈ ks))) ∧ w' = w := by
  obtain ⟨x1, c1, e1, -⟩ := brow_shape h
  obtain ⟨n1, hn1⟩ : ∃ n1, n1 = ks.length := ⟨_, rfl⟩
  rw [← hn1] at e1
  have HN : Hid (n1 = ks.length ∧ n1 ≤ 1000000) := ⟨hn1, by omega⟩
  have HC := hide h
  clear h hl hn1
  subst e1
  generalize hrr : decide (x ∈ ks) = rr
  have HRR := hide hrr
  clear hrr
  go_enter Try.func28, Try.ntmps28
  go_wp2_with fail
  go_loopw [5] (fun s5 wr => ∃ i : Nat, s5 = .int .i64 (i : Nat) ∧ wr = w ∧ i ≤ n1 ∧ Hid (∀ j : Nat, j < i → ks[j]? ≠ some x)) (fun s5 _ => n1 - (intOf s5).toNat)
  case atStart => exact ⟨0, rfl, rfl, Nat.zero_le _, fun j hj => absurd hj (Nat.not_lt_zero _)⟩
  case round =>
    obtain ⟨i, rfl, rfl, hi, hS⟩ := hrel
    obtain ⟨l1, l2⟩ := unhide HN
    by_cases hlt : i < n1
    · obtain ⟨y, hy⟩ : ∃ y, ks[i]? = some y := ⟨_, List.getElem?_eq_getElem (by omega)⟩
      obtain ⟨g1, hg1⟩ := brow_some (unhide HC) (by omega)
      subst hg1
      have k1 := brow_at (unhide HC) hy
      have z1 : (i : Int) < (n1 : Int) := by omega
      by_cases hyy : y = x
      · subst hyy
        have HG : Hid (rr = true) := by
          show rr = true
          rw [← unhide HRR]; exact decide_eq_true (List.mem_of_getElem? hy)
        clear hy hlt hi hS l1 l2
        go_wp2_with fail
        go_ret
        exact ⟨by rw [unhide HG]; rfl, rfl⟩
      · have hz : (y == x) = false := by simpa using hyy
        obtain ⟨i1, hi1⟩ : ∃ i1, i1 = i + 1 := ⟨_, rfl⟩
        have zw : Hid (wrap64 ((i : Int) + 1) = (i1 : Int)) := by show wrap64 ((i : Int) + 1) = (i1 : Int); unfold wrap64; omega
        have HJ : Hid ((∀ j : Nat, j < i1 → ks[j]? ≠ some x) ∧ i1 ≤ n1 ∧ n1 - i1 < n1 - i) := ⟨fun j hj => by
            by_cases e : j = i
            · rw [e, hy]; exact fun q => hyy (by injection q)
            · exact unhide hS j (by omega), by omega, by omega⟩
        clear hy hlt hi hS l1 l2 hyy hi1
        go_wp2_with fail
        rw [unhide zw]
        exact ⟨⟨i1, rfl, trivial, (unhide HJ).2.1, (unhide HJ).1⟩, by have := (unhide HJ).2.2; simp [intOf]; omega⟩
    · have HG : Hid (rr = false) := by
        show rr = false
        rw [← unhide HRR]
        refine decide_eq_false (fun e => ?_)
        obtain ⟨j, hj⟩ := List.mem_iff_getElem?.1 e
        exact unhide hS j (by have := (List.getElem?_eq_some_iff.1 hj).1; omega) hj
      have z1 : ¬ (i : Int) < (n1 : Int) := by omega
      clear hlt hi hS l1 l2
      go_wp2_with fail
      go_ret
      exact ⟨by rw [unhide HG]; rfl, rfl⟩
set_option maxHeartbeats 4000000 in
set_option maxRecDepth 100000 in
theorem compS {w : World} {v : Value} {xss : List (List Int)} {x : Int} (h : LLr w v xss) (hl : xss.length ≤ 1000000) (hll : ∀ l ∈ xss, l.length ≤ 1000000) :
    Calls Try.prog 20 #[v, .int .i64 x] w fun e w' => e = .returned (.int .i64 (compAt xss x)) ∧ w' = w := by
  obtain ⟨x1, c1, e1, H1⟩ := h
  obtain ⟨n1, hn1⟩ : ∃ n1, n1 = xss.length := ⟨_, rfl⟩
  rw [← hn1] at e1
  have HN : Hid (n1 = xss.length ∧ n1 ≤ 1000000 ∧ ∀ l ∈ xss, l.length ≤ 1000000) := ⟨hn1, by omega, hll⟩
  have HC := hide H1
  clear H1 hl hn1 hll
  subst e1
  generalize hrr : compAt xss x = rr
  have HRR := hide hrr
  clear hrr
  go_enter Try.func20, Try.ntmps20
  go_wp2_with fail
  go_loopw [5] (fun s5 wr => ∃ i : Nat, s5 = .int .i64 (i : Nat) ∧ wr = w ∧ i ≤ n1 ∧ Hid (∀ (j : Nat) (l : List Int), j < i → xss[j]? = some l → x ∉ l)) (fun s5 _ => n1 - (intOf s5).toNat)
  case atStart => exact ⟨0, rfl, rfl, Nat.zero_le _, fun j l hj => absurd hj (Nat.not_lt_zero _)⟩
  case round =>
    obtain ⟨i, rfl, rfl, hi, hS⟩ := hrel
    obtain ⟨l1, l2, l3⟩ := unhide HN
    by_cases hlt : i < n1
    · obtain ⟨y, hy⟩ : ∃ y, xss[i]? = some y := ⟨_, List.getElem?_eq_getElem (by omega)⟩
      obtain ⟨g1, u1, hg1, k1, r1⟩ := unhide HC i y hy
      subst hg1
      have CI := hide (inS (x := x) r1 (l3 y (List.mem_of_getElem? hy)))
      obtain ⟨ux1, uc1, ue1, -⟩ := brow_shape r1
      subst ue1
      have z1 : (i : Int) < (n1 : Int) := by omega
      by_cases hyy : x ∈ y
      · have HG : Hid (rr = (i : Int)) := by
          show rr = (i : Int)
          rw [← unhide HRR]; exact compAt_some hy hyy (unhide hS)
        rw [decide_eq_true hyy] at CI
        clear hy hlt hi hS l1 l2 l3 r1 hyy
        generalize y.length = m1 at *
        go_wp2_with fail
        refine (unhide CI).mono ?_
        rintro e w' ⟨rfl, rfl⟩
        go_wp2_with fail
        go_ret
        exact ⟨by rw [unhide HG]; rfl, rfl⟩
      · rw [decide_eq_false hyy] at CI
        obtain ⟨i1, hi1⟩ : ∃ i1, i1 = i + 1 := ⟨_, rfl⟩
        have zw : Hid (wrap64 ((i : Int) + 1) = (i1 : Int)) := by show wrap64 ((i : Int) + 1) = (i1 : Int); unfold wrap64; omega
        have HJ : Hid ((∀ (j : Nat) (l : List Int), j < i1 → xss[j]? = some l → x ∉ l) ∧ i1 ≤ n1 ∧ n1 - i1 < n1 - i) := ⟨fun j l hj hl => by
            by_cases e : j = i
            · rw [e, hy] at hl; injection hl with hl; rw [← hl]; exact hyy
            · exact unhide hS j l (by omega) hl, by omega, by omega⟩
        clear hy hlt hi hS l1 l2 l3 r1 hyy hi1
        generalize y.length = m1 at *
        go_wp2_with fail
        refine (unhide CI).mono ?_
        rintro e w' ⟨rfl, rfl⟩
        clear CI
        go_wp2_with fail
        rw [unhide zw]
        exact ⟨⟨i1, rfl, trivial, (unhide HJ).2.1, (unhide HJ).1⟩, by have := (unhide HJ).2.2; simp [intOf]; omega⟩
    · have HG : Hid (rr = -1) := by
        show rr = -1
        rw [← unhide HRR]
        exact compAt_none (fun j l hl => unhide hS j l (by have := (List.getElem?_eq_some_iff.1 hl).1; omega) hl)
      have z1 : ¬ (i : Int) < (n1 : Int) := by omega
      clear hlt hi hS l1 l2 l3
      go_wp2_with fail
      go_ret
      exact ⟨by rw [unhide HG]; rfl, rfl⟩
end

section
open Go.RowKit Go.Maps T9
section
variable {nx : Nat → List Nat} {V : List Int} {h : Nat → Nat}
theorem Heads.twice (H : Heads nx V.length h) {p : Nat} (hp : p < V.length) : h (h p) = h p := by
  have := (H.same (H.lt hp) hp).2 ⟨(H p hp).2.1, (H p hp).1⟩
  exact this
/-- The list at a place: the part of the head there. -/
theorem comp_at {i : Nat} {c : List Int} : (compsV V h V.length)[i]? = some c ↔ ∃ m, (headsTo h V.length)[i]? = some m ∧ c = cv V (partTo h V.length m) := by
  unfold compsV compsTo
  rw [List.getElem?_map, List.getElem?_map]
  cases (headsTo h V.length)[i]? with
  | none => simp
  | some m => simp [eq_comm]
/-- A part's first is its head. -/
theorem part_first (H : Heads nx V.length h) {m : Nat} (hm : m ∈ headsTo h V.length) : ∃ t, partTo h V.length m = m :: t := by
  obtain ⟨h1, h2⟩ := mem_headsTo.1 hm
  have hs : (partTo h V.length m).Pairwise (· < ·) := List.Pairwise.sublist List.filter_sublist List.pairwise_lt_range
  have hin : m ∈ partTo h V.length m := mem_partTo.2 ⟨h1, h2⟩
  cases e : partTo h V.length m with
  | nil => rw [e] at hin; cases hin
  | cons a t =>
    rw [e] at hs hin
    have ha : a ∈ partTo h V.length m := by rw [e]; exact List.mem_cons_self
    obtain ⟨a1, a2⟩ := mem_partTo.1 ha
    have hle := H.le a1
    rcases List.mem_cons.1 hin with q | q
    · exact ⟨t, by rw [q]⟩
    · have := List.rel_of_pairwise_cons hs q
      omega
theorem cv_first (H : Heads nx V.length h) {m : Nat} (hm : m ∈ headsTo h V.length) : 0 < (cv V (partTo h V.length m)).length ∧ (cv V (partTo h V.length m)).getD 0 0 = V.getD m 0 := by
  obtain ⟨t, e⟩ := part_first H hm
  rw [e]; exact ⟨by simp [cv], by simp [cv]⟩
theorem getD_lt (hs : V.Pairwise (· < ·)) {p q : Nat} (hpq : p < q) (hq : q < V.length) : V.getD p 0 < V.getD q 0 := by
  rw [List.getD_eq_getElem?_getD, List.getD_eq_getElem?_getD, List.getElem?_eq_getElem (by omega), List.getElem?_eq_getElem hq]
  exact List.pairwise_iff_getElem.1 hs p q (by omega) hq hpq
theorem heads_rise {i : Nat} {m m' : Nat} (h1 : (headsTo h V.length)[i]? = some m) (h2 : (headsTo h V.length)[i + 1]? = some m') : m < m' := by
  have hs : (headsTo h V.length).Pairwise (· < ·) := List.Pairwise.sublist List.filter_sublist List.pairwise_lt_range
  obtain ⟨l1, e1⟩ := List.getElem?_eq_some_iff.1 h1
  obtain ⟨l2, e2⟩ := List.getElem?_eq_some_iff.1 h2
  have := List.pairwise_iff_getElem.1 hs i (i + 1) l1 l2 (by omega)
  rw [e1, e2] at this; exact this
theorem comps_sum (H : Heads nx V.length h) : ((compsV V h V.length).map List.length).sum = V.length := by
  have e : ∀ p < V.length, h p = (fun p => if p < V.length then h p else p) p := fun p hp => (if_pos hp).symm
  have e1 : (compsV V h V.length).map List.length = (compsTo h V.length).map List.length := by
    unfold compsV; rw [List.map_map]; congr 1; funext c; simp [cv]
  rw [e1, compsTo_congr e]
  refine compsTo_count (fun p => ?_) (fun p hp => ?_)
  · show (if p < V.length then h p else p) ≤ p
    by_cases q : p < V.length
    · rw [if_pos q]; exact H.le q
    · rw [if_neg q]; exact Nat.le_refl _
  · show (if (if p < V.length then h p else p) < V.length then h (if p < V.length then h p else p) else (if p < V.length then h p else p)) = (if p < V.length then h p else p)
    rw [if_pos hp, if_pos (H.lt hp)]; exact Heads.twice H hp
/-- In which list a vertex lies. -/
theorem mem_part (hs : V.Pairwise (· < ·)) {p m : Nat} {x : Int} (hx : V[p]? = some x) : x ∈ cv V (partTo h V.length m) ↔ h p = m := by
  unfold cv
  rw [List.mem_map]
  constructor
  · rintro ⟨q, hq, e⟩
    obtain ⟨q1, q2⟩ := mem_partTo.1 hq
    have : V[q]? = some x := by rw [← e, List.getD_eq_getElem?_getD, List.getElem?_eq_getElem q1]; rfl
    rw [← idx_at hs hx, idx_at hs this]; exact q2
  · intro e
    refine ⟨p, mem_partTo.2 ⟨(List.getElem?_eq_some_iff.1 hx).1, e⟩, ?_⟩
    rw [List.getD_eq_getElem?_getD, hx]; rfl
theorem comp_of (hs : V.Pairwise (· < ·)) (H : Heads nx V.length h) {p : Nat} {x : Int} (hx : V[p]? = some x) : ∃ i : Nat, compAt (compsV V h V.length) x = (i : Int) ∧ (headsTo h V.length)[i]? = some (h p) := by
  have hp := (List.getElem?_eq_some_iff.1 hx).1
  obtain ⟨i, hi⟩ := List.mem_iff_getElem?.1 (mem_headsTo.2 ⟨H.lt hp, Heads.twice H hp⟩)
  refine ⟨i, compAt_some (comp_at.2 ⟨_, hi, rfl⟩) ((mem_part hs hx).2 rfl) (fun j l hj hl hxl => ?_), hi⟩
  obtain ⟨m, hm, rfl⟩ := comp_at.1 hl
  have e := (mem_part hs hx).1 hxl
  obtain ⟨l1, e1⟩ := List.getElem?_eq_some_iff.1 hi
  obtain ⟨l2, e2⟩ := List.getElem?_eq_some_iff.1 hm
  have := (List.pairwise_iff_getElem.1 (headsTo_nodup h V.length)) j i l2 l1 hj
  rw [e1, e2] at this
  exact this e.symm
end
/-- What the law asks of the two answers. -/
structure OrdsF (ks : List Int) (l : List (Int × Int)) (A : List (List Int)) (X : List Int) : Prop where
  len : X.length = A.length
  some_ : ∀ (i : Nat) (c : List Int), A[i]? = some c → 0 < c.length ∧ c.length ≤ 1000
  rise : ∀ (i : Nat) (c d : List Int), A[i]? = some c → A[i + 1]? = some d → c.getD 0 0 < d.getD 0 0
  sum : (A.map List.length).sum = ks.length
  at_ : ∀ x ∈ ks, ∃ i : Nat, i < A.length ∧ compAt A x = (i : Int)
  nodup : X.Nodup
  ok : okArcs ks l
  on : ∀ (u x : Int) (i j : Nat) (c d : List Int), (u, x) ∈ l → compAt A u = (i : Int) → compAt A x = (j : Int) → A[i]? = some c → A[j]? = some d → c.getD 0 0 ∈ X ∧ d.getD 0 0 ∈ X ∧ (i ≠ j → ∃ p q : Nat, p < q ∧ X[p]? = some (c.getD 0 0) ∧ X[q]? = some (d.getD 0 0))
theorem ofor_len {ks : List Int} {l : List (Int × Int)} {c : Int} {A : List (List Int)} {X : List Int} (hA : OfA ks l c A) (hX : OrA ks l c X) : X.length = A.length := by
  rcases hA with ⟨q1, rfl, rfl⟩ | ⟨q1, q2, rfl, rfl⟩ | ⟨q1, q2, rfl, V, f, hp, hs, hH, rfl⟩ <;> rcases hX with ⟨q1', q3, rfl⟩ | ⟨q1', q2', q3, rfl⟩ | ⟨q1', q2', q3, V', f', T, hp', hs', hH', hT, ha, rfl⟩
  · rfl
  · rfl
  · exact absurd q1' q1
  · rfl
  · rfl
  · exact absurd q2' q2
  · exact absurd q1 q1'
  · exact absurd q2 q2'
  · obtain rfl : V' = V := perm_sorted hp' hp hs' hs
    have e := hH'.same_arcs hH (fun _ _ => Iff.rfl)
    rw [compsV_len, ← headsTo_congr e]
    simp only [cv, List.length_map]
    exact hT.length_all (headsTo_nodup _ _) ha
theorem ofA_few {ks : List Int} {l : List (Int × Int)} {c : Int} {A : List (List Int)} (h : OfA ks l c A) (hk : ks.length ≤ 1000) : A.length ≤ 1000 := by
  rcases h with ⟨-, -, rfl⟩ | ⟨-, -, -, rfl⟩ | ⟨-, -, -, V, f, hp, -, -, rfl⟩
  · simp
  · simp
  · have := headsTo_le f V.length
    have := hp.length_eq
    rw [compsV_len]; omega
theorem ordsF {ks : List Int} {l : List (Int × Int)} {A : List (List Int)} {X : List Int} (hA : OfA ks l 0 A) (hX : OrA ks l 0 X) (hk : ks.length ≤ 1000) : OrdsF ks l A X := by
  have hlen := ofor_len hA hX
  rcases hA with ⟨-, q, -⟩ | ⟨-, -, q, -⟩ | ⟨q1, q2, -, V, h, hp, hs, hH, rfl⟩
  · cases q
  · cases q
  rcases hX with ⟨-, q, -⟩ | ⟨-, -, q, -⟩ | ⟨-, -, -, V', h', T, hp', hs', hH', hT, ha, rfl⟩
  · cases q
  · cases q
  obtain rfl : V' = V := perm_sorted hp' hp hs' hs
  have e := hH'.same_arcs hH (fun _ _ => Iff.rfl)
  have hle := hp.length_eq
  have hlt : ∀ p < V'.length, ∀ q ∈ nextOf V' l p, q < V'.length := fun p _ q hq => nextOf_lt (fun a ha => hp.mem_iff.2 (q2 a ha).2) q hq
  rw [headsTo_congr e] at hT ha
  have hT := hT.congr (arcsOf_mem_congr e (fun _ _ => Iff.rfl) hlt)
  have hin : ∀ t ∈ T, t < V'.length := fun t ht => (mem_headsTo.1 (hT.nodup.2 t ht)).1
  refine ⟨hlen, fun i c hc => ?_, fun i c d hc hd => ?_, by rw [comps_sum hH, hle], fun x hx => ?_, ?_, q2, fun u x i j c d hl hu hx hc hd => ?_⟩
  · obtain ⟨m, hm, rfl⟩ := comp_at.1 hc
    refine ⟨(cv_first hH (List.mem_of_getElem? hm)).1, ?_⟩
    have := partTo_le h V'.length m
    simp only [cv, List.length_map]; omega
  · obtain ⟨m, hm, rfl⟩ := comp_at.1 hc
    obtain ⟨m', hm', rfl⟩ := comp_at.1 hd
    rw [(cv_first hH (List.mem_of_getElem? hm)).2, (cv_first hH (List.mem_of_getElem? hm')).2]
    exact getD_lt hs (heads_rise hm hm') (mem_headsTo.1 (List.mem_of_getElem? hm')).1
  · obtain ⟨i, h1, h2⟩ := comp_of hs hH (idx_some (hp.mem_iff.2 hx))
    exact ⟨i, by rw [compsV_len]; exact (List.getElem?_eq_some_iff.1 h2).1, h1⟩
  · unfold cv
    refine List.pairwise_map.2 (List.Pairwise.imp_of_mem (fun {a b} ha' hb' hne hab => ?_) hT.nodup.1)
    rcases Nat.lt_trichotomy a b with q | q | q
    · have := getD_lt hs q (hin b hb'); omega
    · exact hne q
    · have := getD_lt hs q (hin a ha'); omega
  · have hul := hp.mem_iff.2 (q2 _ hl).1
    have hxl := hp.mem_iff.2 (q2 _ hl).2
    obtain ⟨i', a1, a2⟩ := comp_of hs hH (idx_some hul)
    obtain ⟨j', b1, b2⟩ := comp_of hs hH (idx_some hxl)
    obtain rfl : i = i' := by have := hu.symm.trans a1; omega
    obtain rfl : j = j' := by have := hx.symm.trans b1; omega
    obtain ⟨m, hm, rfl⟩ := comp_at.1 hc
    obtain ⟨m', hm', rfl⟩ := comp_at.1 hd
    obtain rfl : m = h (V'.idxOf u) := by rw [hm] at a2; injection a2
    obtain rfl : m' = h (V'.idxOf x) := by rw [hm'] at b2; injection b2
    rw [(cv_first hH (List.mem_of_getElem? hm)).2, (cv_first hH (List.mem_of_getElem? hm')).2]
    have t1 := ha _ (List.mem_of_getElem? hm)
    have t2 := ha _ (List.mem_of_getElem? hm')
    refine ⟨List.mem_map.2 ⟨_, t1, rfl⟩, List.mem_map.2 ⟨_, t2, rfl⟩, fun hij => ?_⟩
    have hne : h (V'.idxOf u) ≠ h (V'.idxOf x) := fun q => hij (by
      rw [q] at hm
      obtain ⟨l1, e1⟩ := List.getElem?_eq_some_iff.1 hm
      obtain ⟨l2, e2⟩ := List.getElem?_eq_some_iff.1 hm'
      have hn := List.pairwise_iff_getElem.1 (headsTo_nodup h V'.length)
      rcases Nat.lt_trichotomy i j with z | z | z
      · exact absurd (e1.trans e2.symm) (hn i j l1 l2 z)
      · exact z
      · exact absurd (e2.trans e1.symm) (hn j i l2 l1 z))
    have har : (h (V'.idxOf u), h (V'.idxOf x)) ∈ arcsOf h (nextOf V' l) V'.length := mem_arcsOf.2 ⟨hne, V'.idxOf u, List.idxOf_lt_length_of_mem hul, V'.idxOf x, mem_nextOf.2 ⟨(u, x), hl, idx_some hul, rfl⟩, rfl, rfl⟩
    obtain ⟨l1, l2, eT, hin1⟩ := hT.ahead _ _ har t2
    obtain ⟨p, hp1⟩ := List.mem_iff_getElem?.1 hin1
    have hp2 := (List.getElem?_eq_some_iff.1 hp1).1
    refine ⟨p, l1.length, hp2, ?_, ?_⟩
    · rw [eT]; unfold cv
      rw [List.getElem?_map, List.getElem?_append_left hp2, hp1]; rfl
    · rw [eT]; unfold cv
      rw [List.getElem?_map, List.getElem?_append_right (Nat.le_refl _), Nat.sub_self]; rfl
/-- The law's two tables in memory; all else stands as it stood. -/
def OG (w0 : World) (n gh gp : Nat) (hs ps : List Int) (W : World) : Prop := Below w0.heap.size w0 W ∧ BRow w0.heap.size W (.slice (some ⟨gh, 0, none⟩) n n) hs ∧ BRow w0.heap.size W (.slice (some ⟨gp, 0, none⟩) n n) ps ∧ gh ≠ gp ∧ w0.heap.size ≤ gh ∧ w0.heap.size ≤ gp ∧ hs.length = n ∧ ps.length = n
theorem og_start {w0 : World} {n q : Nat} (hn : n ≤ 1000000) : OG w0 n (w0.drewN q).heap.size ((w0.drewN q).alloc (.cells (madeCells #[.int .i64 0] n) 3)).heap.size (List.replicate n 0) (List.replicate n 0) (((w0.drewN q).alloc (.cells (madeCells #[.int .i64 0] n) 3)).alloc (.cells (madeCells #[.int .i64 0] n) 3)) := by
  have b0 : Below w0.heap.size w0 (w0.drewN q) := ⟨rfl, rfl, rfl, Nat.le_refl _, fun _ _ => rfl⟩
  have b1 := below_new (w0.drewN q) (.cells (madeCells #[.int .i64 0] n) 3)
  have b2 := below_new ((w0.drewN q).alloc (.cells (madeCells #[.int .i64 0] n) 3)) (.cells (madeCells #[.int .i64 0] n) 3)
  have r1 := brow_made n hn (w0.drewN q)
  have r2 := brow_made n hn ((w0.drewN q).alloc (.cells (madeCells #[.int .i64 0] n) 3))
  have s1 : ((w0.drewN q).alloc (.cells (madeCells #[.int .i64 0] n) 3)).heap.size = w0.heap.size + 1 := by simp
  have s0 : (w0.drewN q).heap.size = w0.heap.size := rfl
  refine ⟨(b0.trans (b1.mono b0.size)).trans (b2.mono (by omega)), brow_low (brow_kept r1 (fun b e => b2.block b (r1.lt b e).2)) (Nat.le_refl _), brow_low r2 (by omega), by omega, by omega, by omega, by simp, by simp⟩
theorem OG.drew {w0 W : World} {n gh gp : Nat} {hs ps : List Int} (h : OG w0 n gh gp hs ps W) (q : Nat) : OG w0 n gh gp hs ps (W.drewN q) :=
  ⟨h.1.trans ⟨rfl, rfl, rfl, Nat.le_refl _, fun _ _ => rfl⟩, brow_kept h.2.1 (fun _ _ => rfl), brow_kept h.2.2.1 (fun _ _ => rfl), h.2.2.2⟩
theorem OG.grow {w0 W W' : World} {n gh gp : Nat} {hs ps : List Int} (h : OG w0 n gh gp hs ps W) (hb : Below W.heap.size W W') : OG w0 n gh gp hs ps W' :=
  ⟨h.1.trans (hb.mono h.1.size), brow_kept h.2.1 (fun b e => hb.block b (h.2.1.lt b e).2), brow_kept h.2.2.1 (fun b e => hb.block b (h.2.2.1.lt b e).2), h.2.2.2⟩
theorem OG.cell {w0 W : World} {n gh gp g o : Nat} {hs ps : List Int} {v : Value} (h : OG w0 n gh gp hs ps W) (hc : w0.cell? ⟨g, o, none⟩ = some v) : W.cell? ⟨g, o, none⟩ = some v := by
  have hl : g < w0.heap.size := by
    have h2 := hc
    unfold World.cell? at h2
    rcases Nat.lt_or_ge g w0.heap.size with q | q
    · exact q
    · rw [Array.getElem?_eq_none q] at h2; cases h2
  exact (h.1.cell (p := ⟨g, o, none⟩) hl).trans hc
/-- Where c stands among the first k of X: r tells it. -/
def AtX (X : List Int) (k : Nat) (c : Int) (r : Option Int) : Prop := c ∈ X.take k → ∃ p : Nat, r = some (p : Int) ∧ X[p]? = some c
theorem AtX.hit {X : List Int} {k : Nat} {c : Int} (h : X[k]? = some c) : AtX X (k + 1) c (some (k : Int)) := fun _ => ⟨k, rfl, h⟩
theorem AtX.miss {X : List Int} {k : Nat} {c y : Int} {r : Option Int} (h : X[k]? = some y) (hn : y ≠ c) (ha : AtX X k c r) : AtX X (k + 1) c r := fun hm => by
  rw [take_snoc h] at hm
  rcases List.mem_append.1 hm with q | q
  · exact ha q
  · exact absurd (List.mem_singleton.1 q).symm hn
theorem nodup_idx {X : List Int} (hn : X.Nodup) {p q : Nat} {c : Int} (h1 : X[p]? = some c) (h2 : X[q]? = some c) : p = q := by
  obtain ⟨l1, e1⟩ := List.getElem?_eq_some_iff.1 h1
  obtain ⟨l2, e2⟩ := List.getElem?_eq_some_iff.1 h2
  have hw := List.pairwise_iff_getElem.1 hn
  rcases Nat.lt_trichotomy p q with z | z | z
  · exact absurd (e1.trans e2.symm) (hw p q l1 l2 z)
  · exact z
  · exact absurd (e2.trans e1.symm) (hw q p l2 l1 z)
theorem OG.setH {w0 W : World} {n gh gp k : Nat} {hs ps : List Int} (h : OG w0 n gh gp hs ps W) (hk : k < n) (x : Int) : (∀ o, W.frozen? ⟨gh, o, none⟩ = false) ∧ OG w0 n gh gp (hs.set k x) ps (W.setCell ⟨gh, k, none⟩ (.int .i64 x)) := by
  obtain ⟨h0, h1, h2, h3, h4, h5, h6, h7⟩ := h
  obtain ⟨f, r⟩ := brow_set h1 x hk
  have ht : Turned (fun b => b = gh) W (W.setCell ⟨gh, k, none⟩ (.int .i64 x)) := setCells_turned (S := fun b => b = gh) gh rfl [.int .i64 x] k W
  exact ⟨f, h0.trans (ht.below h0.size (fun b e => by rw [e]; exact h4)), r, brow_kept h2 (fun b e => ht.block b (h2.lt b e).2 (fun q => h3 (q.symm.trans (own_eq e).symm))), h3, h4, h5, by rw [List.length_set]; exact h6, h7⟩
theorem OG.setP {w0 W : World} {n gh gp k : Nat} {hs ps : List Int} (h : OG w0 n gh gp hs ps W) (hk : k < n) (x : Int) : (∀ o, W.frozen? ⟨gp, o, none⟩ = false) ∧ OG w0 n gh gp hs (ps.set k x) (W.setCell ⟨gp, k, none⟩ (.int .i64 x)) := by
  obtain ⟨h0, h1, h2, h3, h4, h5, h6, h7⟩ := h
  obtain ⟨f, r⟩ := brow_set h2 x hk
  have ht : Turned (fun b => b = gp) W (W.setCell ⟨gp, k, none⟩ (.int .i64 x)) := setCells_turned (S := fun b => b = gp) gp rfl [.int .i64 x] k W
  exact ⟨f, h0.trans (ht.below h0.size (fun b e => by rw [e]; exact h5)), brow_kept h1 (fun b e => ht.block b (h1.lt b e).2 (fun q => h3 ((own_eq e).trans q))), r, h3, h4, h5, h6, by rw [List.length_set]; exact h7⟩
end

end Go.Proofs.Ytdpdghhieokcfaa
