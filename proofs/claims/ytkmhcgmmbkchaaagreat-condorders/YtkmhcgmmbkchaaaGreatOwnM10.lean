/- CondOwn's memory: six answered lists beside the index. -/
import Derived.Test.YtkmhcgmmbkchaaaGreatPlsW10
namespace Go.Proofs.YtkmhcgmmbkchaaaGreat
open Go.RowKit Go.Maps T9
/-- The members that are told of u. -/
def MemL (V : List Int) (es : List EdV) (u : Int) (ms : List Int) : Prop := ms.Pairwise (· < ·) ∧ ∀ y, y ∈ ms ↔ u ∈ V ∧ y ∈ V ∧ Mut (AE es) u y
theorem MemL.uni {V : List Int} {es : List EdV} {u : Int} {ms ms' : List Int} (h : MemL V es u ms) (h' : MemL V es u ms') : ms = ms' :=
  rise_ext h.1 h'.1 (fun x => by rw [h.2 x, h'.2 x])
section
variable {w W W' : World} {gb c p m ma ml me : Nat} {lk : Int} {V : List Int} {es : List EdV} {N : Nat} {vv ev : Value} {wr : Int} {L : Nat → Nat}
theorem ls_memL (h : LS w gb c p m ma ml me lk V es N vv ev wr L W) (hN : N ≤ 900) {u : Int} (hu : okN u) : Calls Tryz.prog 11 #[.pointer (some ⟨c, 0, none⟩), .int .i64 u] W fun e w' => ∃ a n c', e = .returned (.slice a n c') ∧ Hid (∃ ms, MemL V es u ms ∧ ms.length ≤ 900 ∧ BRow W.heap.size w' (.slice a n c') ms ∧ Below W.heap.size W w') := by
  obtain ⟨S, h1, h2⟩ := h.k
  have ht := h1.tot_
  by_cases hv : u ∈ V
  · obtain ⟨x, hx, hux, -⟩ := h2.self.2 hv
    refine (kMembersF (Q := fun v' w' => BRow W.heap.size w' v' x.ks ∧ Below W.heap.size W w') h1.box ((membersN u _ h1.at_ hx hux (by omega)).mono fun e w' hh => hh)).mono ?_
    rintro e w' ⟨v', rfl, hq⟩
    obtain ⟨q1, q2⟩ := unhide hq
    obtain ⟨a, c', rfl, -⟩ := brow_shape q1
    have hr : x.ks.Pairwise (· < ·) := (h1.at_.fam.rise x hx).imp (fun hh => by simpa [ltN] using hh)
    refine ⟨a, _, c', rfl, x.ks, ⟨hr, fun y => ?_⟩, by have := len_le_tot hx; omega, q1, q2⟩
    exact ⟨fun hy => (h2 u y).1 ⟨x, hx, hux, hy⟩, fun hy => sp_in h1.at_.fam hx hux ((h2 u y).2 hy)⟩
  · refine (kMembersF (Q := fun v' w' => v' = .slice none 0 0 ∧ w' = W) h1.box ((membersNoN u _ h1.at_ hu (h2.notin hv)).mono fun e w' hh => ⟨_, hh.1, rfl, hh.2⟩)).mono ?_
    rintro e w' ⟨v', rfl, hq⟩
    obtain ⟨rfl, rfl⟩ := unhide hq
    exact ⟨none, 0, 0, rfl, [], ⟨List.Pairwise.nil, fun y => ⟨fun q => (by cases q), fun q => absurd q.1 hv⟩⟩, by simp, ⟨rfl, .inl ⟨rfl, rfl⟩⟩, Below.refl _ _⟩
theorem memL_ex (h : LS w gb c p m ma ml me lk V es N vv ev wr L W) (hN : N ≤ 900) (u : Int) : ∃ ms, MemL V es u ms ∧ ms.length ≤ 900 := by
  obtain ⟨S, h1, h2⟩ := h.k
  have ht := h1.tot_
  by_cases hv : u ∈ V
  · obtain ⟨x, hx, hux, -⟩ := h2.self.2 hv
    have hr : x.ks.Pairwise (· < ·) := (h1.at_.fam.rise x hx).imp (fun hh => by simpa [ltN] using hh)
    refine ⟨x.ks, ⟨hr, fun y => ?_⟩, by have := len_le_tot hx; omega⟩
    exact ⟨fun hy => (h2 u y).1 ⟨x, hx, hux, hy⟩, fun hy => sp_in h1.at_.fam hx hux ((h2 u y).2 hy)⟩
  · exact ⟨[], ⟨List.Pairwise.nil, fun y => ⟨fun q => (by cases q), fun q => absurd q.1 hv⟩⟩, by simp⟩
theorem brow_len {B : Nat} {a : Option Addr} {n c : Nat} {ks : List Int} (h : BRow B W (.slice a n c) ks) : n = ks.length := by
  obtain ⟨a', c', e, -⟩ := brow_shape h
  injection e
theorem abrow_len {B : Nat} {a : Option Addr} {n c : Nat} {l : List (Int × Int)} (h : ABRow B W (.slice a n c) l) : n = l.length := by
  obtain ⟨a', c', e, -⟩ := abrow_shape h
  injection e
theorem ls_hds {h0 : Nat → Nat} (h : LS w gb c p m ma ml me lk V es N vv ev wr L W) (hN : N ≤ 900) (H : Heads (nextOf V (arcsE es)) V.length h0) : Calls Tryz.prog 18 #[.pointer (some ⟨c, 0, none⟩)] W fun e w' => ∃ a n c', e = .returned (.slice a n c') ∧ Hid (BRow W.heap.size w' (.slice a n c') (hdsOf (compsV V h0 V.length)) ∧ Below W.heap.size W w') := by
  obtain ⟨S, k1, k2⟩ := h.k
  refine (kHeadsS k1 (by omega)).mono ?_
  rintro e w' ⟨v, rfl, hq⟩
  obtain ⟨ys, q1, q2, q3, q4⟩ := unhide hq
  rw [heads_same h.g H k2 k1.at_.fam q1 q2] at q3
  obtain ⟨a, c', rfl, -⟩ := brow_shape q3
  exact ⟨a, _, c', rfl, q3, q4⟩
theorem ls_arcs {h0 : Nat → Nat} (h : LS w gb c p m ma ml me lk V es N vv ev wr L W) (hN : N ≤ 900) (H : Heads (nextOf V (arcsE es)) V.length h0) : Calls Tryz.prog 20 #[.pointer (some ⟨c, 0, none⟩)] W fun e w' => ∃ a n c', e = .returned (.slice a n c') ∧ Hid (ABRow W.heap.size w' (.slice a n c') (arcA (compsV V h0 V.length) es (compsV V h0 V.length).length) ∧ (arcA (compsV V h0 V.length) es (compsV V h0 V.length).length).length ≤ N ∧ Below W.heap.size W w') := by
  obtain ⟨S, k1, k2⟩ := h.k
  refine (kArcsS k1 (by omega) (fun e u v he hf => ?_)).mono ?_
  · obtain ⟨x, hx, -, e2⟩ := arcF_some hf
    injection e2 with e2 e3
    rw [e2, e3]
    exact ⟨h.g.okV _ (h.g.end1 hx).1, h.g.okV _ (h.g.end1 hx).2⟩
  · rintro e w' ⟨a, n, c', rfl, hq⟩
    obtain ⟨l, q1, q2, q3, q4, q5⟩ := unhide hq
    have el := arcs_same h.g H k2 q2 q3
    rw [el] at q1 q4
    exact ⟨a, n, c', rfl, q1, q4, q5⟩
end
/-- Six lists, each in a block that is nobody else's; the last three stay. -/
structure O6 (W0 : World) (lv hv av mv iv bv : Value) (ls hs : List Int) (al : List (Int × Int)) (ms is : List Int) (bs : List (Int × Int)) (L : Nat → Nat) (W : World) : Prop where
  bel : Below W0.heap.size W0 W
  l : BRow W0.heap.size W lv ls
  h : BRow W0.heap.size W hv hs
  a : ABRow W0.heap.size W av al
  m : BRow W0.heap.size W mv ms
  i : BRow W0.heap.size W iv is
  b : ABRow W0.heap.size W bv bs
  l1 : ∀ g, lv.ownBlock = some g → L g = 1
  l2 : ∀ g, hv.ownBlock = some g → L g = 2
  l3 : ∀ g, av.ownBlock = some g → L g = 3
  l4 : ∀ g, mv.ownBlock = some g → L g = 4
  l5 : ∀ g, iv.ownBlock = some g → L g = 4
  l6 : ∀ g, bv.ownBlock = some g → L g = 4
section
variable {W0 W W' : World} {lv hv av mv iv bv lv' hv' av' : Value} {ls hs ms is ls' hs' : List Int} {al bs al' : List (Int × Int)} {L : Nat → Nat}
theorem O6.below (h : O6 W0 lv hv av mv iv bv ls hs al ms is bs L W) (hb : Below W.heap.size W W') : O6 W0 lv hv av mv iv bv ls hs al ms is bs L W' :=
  ⟨h.bel.trans (hb.mono h.bel.size), brow_kept h.l (fun b e => hb.block b (h.l.lt b e).2), brow_kept h.h (fun b e => hb.block b (h.h.lt b e).2), abrow_kept h.a (fun b e => hb.block b (h.a.lt b e).2), brow_kept h.m (fun b e => hb.block b (h.m.lt b e).2), brow_kept h.i (fun b e => hb.block b (h.i.lt b e).2), abrow_kept h.b (fun b e => hb.block b (h.b.lt b e).2), h.l1, h.l2, h.l3, h.l4, h.l5, h.l6⟩
theorem O6.chL (h : O6 W0 lv hv av mv iv bv ls hs al ms is bs L W) (ht : Turned (fun b => lv.ownBlock = some b) W W') (hr : BRow W0.heap.size W' lv' ls') (hb : ∀ b, lv'.ownBlock = some b → lv.ownBlock = some b ∨ W.heap.size ≤ b) : O6 W0 lv' hv av mv iv bv ls' hs al ms is bs (lab L W.heap.size 1) W' := by
  refine ⟨h.bel.trans (ht.below h.bel.size (fun b e => (h.l.lt b e).1)), hr, brow_kept h.h (fun b e => ht.block b (h.h.lt b e).2 (fun q => by have := h.l1 b q; have := h.l2 b e; omega)), abrow_kept h.a (fun b e => ht.block b (h.a.lt b e).2 (fun q => by have := h.l1 b q; have := h.l3 b e; omega)), brow_kept h.m (fun b e => ht.block b (h.m.lt b e).2 (fun q => by have := h.l1 b q; have := h.l4 b e; omega)), brow_kept h.i (fun b e => ht.block b (h.i.lt b e).2 (fun q => by have := h.l1 b q; have := h.l5 b e; omega)), abrow_kept h.b (fun b e => ht.block b (h.b.lt b e).2 (fun q => by have := h.l1 b q; have := h.l6 b e; omega)), fun g q => ?_, fun g q => (if_pos (h.h.lt g q).2).trans (h.l2 g q), fun g q => (if_pos (h.a.lt g q).2).trans (h.l3 g q), fun g q => (if_pos (h.m.lt g q).2).trans (h.l4 g q), fun g q => (if_pos (h.i.lt g q).2).trans (h.l5 g q), fun g q => (if_pos (h.b.lt g q).2).trans (h.l6 g q)⟩
  rcases hb g q with z | z
  · exact (if_pos (h.l.lt g z).2).trans (h.l1 g z)
  · exact if_neg (by omega)
theorem O6.chH (h : O6 W0 lv hv av mv iv bv ls hs al ms is bs L W) (ht : Turned (fun b => hv.ownBlock = some b) W W') (hr : BRow W0.heap.size W' hv' hs') (hb : ∀ b, hv'.ownBlock = some b → hv.ownBlock = some b ∨ W.heap.size ≤ b) : O6 W0 lv hv' av mv iv bv ls hs' al ms is bs (lab L W.heap.size 2) W' := by
  refine ⟨h.bel.trans (ht.below h.bel.size (fun b e => (h.h.lt b e).1)), brow_kept h.l (fun b e => ht.block b (h.l.lt b e).2 (fun q => by have := h.l2 b q; have := h.l1 b e; omega)), hr, abrow_kept h.a (fun b e => ht.block b (h.a.lt b e).2 (fun q => by have := h.l2 b q; have := h.l3 b e; omega)), brow_kept h.m (fun b e => ht.block b (h.m.lt b e).2 (fun q => by have := h.l2 b q; have := h.l4 b e; omega)), brow_kept h.i (fun b e => ht.block b (h.i.lt b e).2 (fun q => by have := h.l2 b q; have := h.l5 b e; omega)), abrow_kept h.b (fun b e => ht.block b (h.b.lt b e).2 (fun q => by have := h.l2 b q; have := h.l6 b e; omega)), fun g q => (if_pos (h.l.lt g q).2).trans (h.l1 g q), fun g q => ?_, fun g q => (if_pos (h.a.lt g q).2).trans (h.l3 g q), fun g q => (if_pos (h.m.lt g q).2).trans (h.l4 g q), fun g q => (if_pos (h.i.lt g q).2).trans (h.l5 g q), fun g q => (if_pos (h.b.lt g q).2).trans (h.l6 g q)⟩
  rcases hb g q with z | z
  · exact (if_pos (h.h.lt g z).2).trans (h.l2 g z)
  · exact if_neg (by omega)
theorem O6.chA (h : O6 W0 lv hv av mv iv bv ls hs al ms is bs L W) (ht : Turned (fun b => av.ownBlock = some b) W W') (hr : ABRow W0.heap.size W' av' al') (hb : ∀ b, av'.ownBlock = some b → av.ownBlock = some b ∨ W.heap.size ≤ b) : O6 W0 lv hv av' mv iv bv ls hs al' ms is bs (lab L W.heap.size 3) W' := by
  refine ⟨h.bel.trans (ht.below h.bel.size (fun b e => (h.a.lt b e).1)), brow_kept h.l (fun b e => ht.block b (h.l.lt b e).2 (fun q => by have := h.l3 b q; have := h.l1 b e; omega)), brow_kept h.h (fun b e => ht.block b (h.h.lt b e).2 (fun q => by have := h.l3 b q; have := h.l2 b e; omega)), hr, brow_kept h.m (fun b e => ht.block b (h.m.lt b e).2 (fun q => by have := h.l3 b q; have := h.l4 b e; omega)), brow_kept h.i (fun b e => ht.block b (h.i.lt b e).2 (fun q => by have := h.l3 b q; have := h.l5 b e; omega)), abrow_kept h.b (fun b e => ht.block b (h.b.lt b e).2 (fun q => by have := h.l3 b q; have := h.l6 b e; omega)), fun g q => (if_pos (h.l.lt g q).2).trans (h.l1 g q), fun g q => (if_pos (h.h.lt g q).2).trans (h.l2 g q), fun g q => ?_, fun g q => (if_pos (h.m.lt g q).2).trans (h.l4 g q), fun g q => (if_pos (h.i.lt g q).2).trans (h.l5 g q), fun g q => (if_pos (h.b.lt g q).2).trans (h.l6 g q)⟩
  rcases hb g q with z | z
  · exact (if_pos (h.a.lt g z).2).trans (h.l3 g z)
  · exact if_neg (by omega)
/-- An arc appended, with what stays. -/
theorem run_app8A {B : Nat} {v : Value} {l : List (Int × Int)} (u x : Int) (h : ABRow B W v l) (hB : B ≤ W.heap.size) (hl : l.length ≤ 900000) :
    ∃ a' n' c' w', (∀ ty, (Builtin.append_ #[50, 50] ty #[v, .slice (some ⟨W.heap.size, 0, none⟩) 1 1]).run Tryz.prog (W.alloc (oArc u x)) = .ok (.slice a' n' c') w') ∧ ABRow B w' (.slice a' n' c') (l ++ [(u, x)]) ∧ Turned (fun b => v.ownBlock = some b) W w' ∧ ∀ b, (Value.slice a' n' c').ownBlock = some b → v.ownBlock = some b ∨ W.heap.size ≤ b := by
  have hb := below_new W (oArc u x)
  have h2 := abrow_kept h (fun b e => hb.block b (h.lt b e).2)
  have hcc := cellsArc (heap_alloc_new W (oArc u x))
  have hs := hb.size
  obtain ⟨a', n', c', w', r, g1, g2, g3⟩ := run_appA (ad := ⟨W.heap.size, 0, none⟩) (c := 1) (l2 := [(u, x)]) h2 (by omega) (fun j y hj => by
    rw [add_off10, Nat.zero_add]
    match j, hj with
    | 0, hj => injection hj with hj; rw [← hj]; exact hcc.1
    | 1, hj => injection hj with hj; rw [← hj]; exact hcc.2.1
    | j + 2, hj => simp [encA] at hj) (by simp; omega)
  exact ⟨a', n', c', w', r, g1, ⟨g2.os.trans hb.os, g2.tape.trans hb.tape, g2.output.trans hb.output, Nat.le_trans hs g2.size, fun k h1 hk => (g2.block k (by omega) hk).trans (hb.block k h1)⟩, fun b e => (g3 b e).imp id (fun q => by omega)⟩
/-- The six calls, one behind the other. -/
theorem o6_start {W1 W2 W3 W4 W5 W6 : World} (b1 : Below W0.heap.size W0 W1) (r1 : BRow W0.heap.size W1 lv ls) (b2 : Below W1.heap.size W1 W2) (r2 : BRow W1.heap.size W2 hv hs) (b3 : Below W2.heap.size W2 W3) (r3 : ABRow W2.heap.size W3 av al) (b4 : Below W3.heap.size W3 W4) (r4 : BRow W3.heap.size W4 mv ms) (b5 : Below W4.heap.size W4 W5) (r5 : BRow W4.heap.size W5 iv is) (b6 : Below W5.heap.size W5 W6) (r6 : ABRow W5.heap.size W6 bv bs) :
    O6 W0 lv hv av mv iv bv ls hs al ms is bs (fun g => if g < W1.heap.size then 1 else if g < W2.heap.size then 2 else if g < W3.heap.size then 3 else 4) W6 := by
  have s1 := b1.size
  have s2 := b2.size
  have s3 := b3.size
  have s4 := b4.size
  have s5 := b5.size
  have c5 : Below W4.heap.size W4 W6 := b5.trans (b6.mono s5)
  have c4 : Below W3.heap.size W3 W6 := b4.trans (c5.mono s4)
  have c3 : Below W2.heap.size W2 W6 := b3.trans (c4.mono s3)
  have c2 : Below W1.heap.size W1 W6 := b2.trans (c3.mono s2)
  refine ⟨b1.trans (c2.mono s1), brow_kept r1 (fun b e => c2.block b (r1.lt b e).2), brow_low (brow_kept r2 (fun b e => c3.block b (r2.lt b e).2)) s1, abrow_low (abrow_kept r3 (fun b e => c4.block b (r3.lt b e).2)) (by omega), brow_low (brow_kept r4 (fun b e => c5.block b (r4.lt b e).2)) (by omega), brow_low (brow_kept r5 (fun b e => b6.block b (r5.lt b e).2)) (by omega), abrow_low r6 (by omega), fun g q => ?_, fun g q => ?_, fun g q => ?_, fun g q => ?_, fun g q => ?_, fun g q => ?_⟩
  · exact if_pos (r1.lt g q).2
  · have := r2.lt g q
    rw [if_neg (by omega), if_pos (by omega)]
  · have := r3.lt g q
    rw [if_neg (by omega), if_neg (by omega), if_pos (by omega)]
  · have := r4.lt g q
    rw [if_neg (by omega), if_neg (by omega), if_neg (by omega)]
  · have := r5.lt g q
    rw [if_neg (by omega), if_neg (by omega), if_neg (by omega)]
  · have := r6.lt g q
    rw [if_neg (by omega), if_neg (by omega), if_neg (by omega)]
end
end Go.Proofs.YtkmhcgmmbkchaaaGreat
