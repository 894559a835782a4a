/- What StoreOwn asks of the store and of the reference. -/
import Derived.Test.YtanbnipndkmnlaaGreatOwn7
namespace Go.Proofs.YtanbnipndkmnlaaGreat
open Go.RowKit Go.Maps

/-- Some list in new memory. -/
def Ans4 (W : World) (e : Ending) (w' : World) : Prop := ∃ a m k, e = .returned (.slice a m k) ∧ Hid (∃ ks : List Int, m = ks.length ∧ m ≤ 1024 ∧ BRow W.heap.size w' (.slice a m k) ks ∧ Below W.heap.size W w')
def pick4 {α : Type} (x0 x1 x2 x3 : α) : Nat → α
  | 0 => x0
  | 1 => x1
  | 2 => x2
  | _ => x3
theorem ans4_of {W W' : World} {ks : List Int} {v : Value} (h : BRow W.heap.size W' v ks) (hl : ks.length ≤ 1024) (hb : Below W.heap.size W W') : Ans4 W (.returned v) W' := by
  obtain ⟨a, k, e, -⟩ := brow_shape h
  subst e
  exact ⟨a, _, k, rfl, ks, rfl, hl, h, hb⟩
section
variable [Inhabited EntI] {n : Nat} {w W W' : World} {X : Sto} {g : Gr} {vv ev : Value} {vs : List Int} {es : List EdgeV}

theorem oVerts (h : Game n X g vv ev vs es W) : Calls Tryz.prog 12 #[.pointer (some ⟨X.s, 0, none⟩)] W fun e w' => Ans4 W e w' := by
  refine (vertsS h.st).mono ?_
  rintro e w' ⟨v, us, rfl, hq⟩
  obtain ⟨r1, r2, r3, r4, r5⟩ := unhide hq
  exact ans4_of r1 (by have := h.st.size; omega) r5
theorem oEdges (h : Game n X g vv ev vs es W) : Calls Tryz.prog 11 #[.pointer (some ⟨X.s, 0, none⟩)] W fun e w' => Ans4 W e w' := by
  refine (edgesS h.st).mono ?_
  rintro e w' ⟨v, rfl, hq⟩
  obtain ⟨r1, r5⟩ := unhide hq
  exact ans4_of r1 (Nat.le_trans (length_numsOf _ _) (by have := h.st.tab.len; omega)) r5
theorem oOut (h : Game n X g vv ev vs es W) (k : Int) (hk : okN k) : Calls Tryz.prog 13 #[.pointer (some ⟨X.s, 0, none⟩), .int .i64 k] W fun e w' => Ans4 W e w' := by
  cases hv : g.V k with
  | true =>
    refine (outS h.st (h.sh.some_ hv)).mono ?_
    rintro e w' ⟨v, rfl, hq⟩
    obtain ⟨r1, r5⟩ := unhide hq
    exact ans4_of r1 (Nat.le_trans (length_numsOf _ _) (by have := h.st.tab.len; omega)) r5
  | false =>
    refine (outNo k h.st hk (h.sh.none_ hv)).mono ?_
    rintro e w' ⟨rfl, rfl⟩
    exact ⟨none, 0, 0, rfl, [], rfl, by omega, ⟨rfl, .inl ⟨rfl, rfl⟩⟩, Below.refl _ _⟩
theorem oIn (h : Game n X g vv ev vs es W) (k : Int) (hk : okN k) : Calls Tryz.prog 14 #[.pointer (some ⟨X.s, 0, none⟩), .int .i64 k] W fun e w' => Ans4 W e w' := by
  cases hv : g.V k with
  | true =>
    refine (innS h.st (h.sh.some_ hv)).mono ?_
    rintro e w' ⟨v, rfl, hq⟩
    obtain ⟨r1, r5⟩ := unhide hq
    exact ans4_of r1 (Nat.le_trans (length_numsOf _ _) (by have := h.st.tab.len; omega)) r5
  | false =>
    refine (innNo k h.st hk (h.sh.none_ hv)).mono ?_
    rintro e w' ⟨rfl, rfl⟩
    exact ⟨none, 0, 0, rfl, [], rfl, by omega, ⟨rfl, .inl ⟨rfl, rfl⟩⟩, Below.refl _ _⟩

/-- Behind both DropVertex: the store and the reference side by side, the store's answered list of edges beside them. -/
def OE (w : World) (s : Nat) (vv ev : Value) (rd wr : Int) (a : Option Addr) (m bx : Nat) (W : World) : Prop :=
  ∃ n X g vs es, Game n X g vv ev vs es W ∧ X.s = s ∧ g.rd = rd ∧ g.wr = wr ∧ Below w.heap.size w W ∧ (m = 0 ∨ ∃ p cur t, a = some ⟨p, 0, none⟩ ∧ W.heap[p]? = some (.cells cur t (0, 0)) ∧ m * 4 ≤ cur.size ∧ X.L p = none ∧ vv.ownBlock ≠ some p ∧ ev.ownBlock ≠ some p ∧ w.heap.size ≤ p ∧ p < bx)
theorem OE.below {s m bx : Nat} {rd wr : Int} {a : Option Addr} (h : OE w s vv ev rd wr a m bx W) (hb : Below W.heap.size W W') : OE w s vv ev rd wr a m bx W' := by
  obtain ⟨n, X, g, vs, es, h1, h2, h3, h4, h5, h6⟩ := h
  refine ⟨n, X, g, vs, es, h1.below hb, h2, h3, h4, h5.trans (hb.mono h5.size), h6.imp id ?_⟩
  rintro ⟨p, cur, t, e, q, r⟩
  exact ⟨p, cur, t, e, (hb.block p (Array.getElem?_eq_some_iff.1 q).1).trans q, r⟩
theorem OE.write {s m bx i : Nat} {rd wr : Int} {a : Option Addr} (h : OE w s vv ev rd wr a m bx W) (hi : i < m) (x : Int) : ∃ p u, a = some ⟨p, 0, none⟩ ∧ W.cell? ⟨p, i * 4 + 3, none⟩ = some u ∧ (∀ o, W.frozen? ⟨p, o, none⟩ = false) ∧ OE w s vv ev rd wr a m bx (W.setCell ⟨p, i * 4 + 3, none⟩ (.int .u32 x)) ∧ (W.setCell ⟨p, i * 4 + 3, none⟩ (.int .u32 x)).heap[bx]? = W.heap[bx]? := by
  obtain ⟨n, X, g, vs, es, h1, h2, h3, h4, h5, h6⟩ := h
  rcases h6 with h6 | ⟨p, cur, t, e, q, r, r1, r2, r3, r4⟩
  · omega
  · refine ⟨p, cur[i * 4 + 3]'(by omega), e, ?_, fun o => frozen_of_row W _ o _ _ q, ⟨n, X, g, vs, es, h1.put r1 r2 r3 (fun b hb => heap_setCell_other W ⟨p, i * 4 + 3, none⟩ b _ hb) (by simp), h2, h3, h4, h5.trans ⟨rfl, rfl, rfl, by simp, fun b hb => heap_setCell_other W ⟨p, i * 4 + 3, none⟩ b _ (by show b ≠ p; omega)⟩, .inr ⟨p, _, t, e, heap_setCell_same W p _ cur t _ q, by simpa using r, r1, r2, r3, r4⟩⟩, heap_setCell_other W ⟨p, i * 4 + 3, none⟩ bx _ (by show bx ≠ p; omega)⟩
    rw [cell_of_row _ _ (i * 4 + 3) _ _ (0, 0) q]
    exact Array.getElem?_eq_getElem _
theorem OE.tells {s m bx : Nat} {rd wr : Int} {a : Option Addr} (h : OE w s vv ev rd wr a m bx W) : Calls Tryz.prog 10 #[.pointer (some ⟨s, 0, none⟩), .agg #[vv, ev, .int .i64 rd, .int .i64 wr]] W fun e w' => e = .returned (.bool true) ∧ Below w.heap.size w w' := by
  obtain ⟨n, X, g, vs, es, h1, h2, h3, h4, h5, h6⟩ := h
  rw [← h2, ← h3, ← h4]
  refine (tellsS h1).mono ?_
  rintro e w' ⟨rfl, hh⟩
  exact ⟨rfl, h5.trans ((unhide hh).mono h5.size)⟩
/-- DropVertex on both. -/
theorem ownDrop (hG : Game n X g vv ev vs es W) (hn : n + 1 ≤ 1000) (hL : ∀ b, X.L b ≠ none → w.heap.size ≤ b) (hB : Below w.heap.size w W) (v : Int) (hok : okN v) :
    ∃ (c : Int) (m : Nat), m ≤ 1024 ∧ Calls Tryz.prog 19 #[.pointer (some ⟨X.s, 0, none⟩), .int .i64 v] W fun e w1 => ∃ a k, e = .returned (.tuple #[.slice a m k, .int .i64 c]) ∧ Hid ((∀ b, b < W.heap.size → X.L b = none → w1.heap[b]? = W.heap[b]?) ∧
      Calls Tryz.prog 23 #[.agg #[vv, ev, .int .i64 g.rd, .int .i64 g.wr], .int .i64 v] w1 fun e2 w2 => ∃ a1 m1 q1 a2 m2 q2 la lk rd' wr', e2 = .returned (.tuple #[.agg #[.slice a1 m1 q1, .slice a2 m2 q2, .int .i64 rd', .int .i64 wr'], .slice la m lk, .int .i64 c]) ∧ Hid (OE w X.s (.slice a1 m1 q1) (.slice a2 m2 q2) rd' wr' a m w2.heap.size w2)) := by
  obtain ⟨c, g', gs, hlen, C1, C2⟩ := pairDropV hG v hok
  refine ⟨c, gs.length, hlen, C1.mono ?_⟩
  rintro e w1 ⟨a, m, k, rfl, hh⟩
  obtain ⟨⟨X', hS, hsh, hlab⟩, hgr⟩ := unhide hh
  obtain ⟨a2, c2, e2⟩ := grow_len hgr
  injection e2 with e3 e4 e5
  subst e4
  obtain ⟨s1, s2, hF⟩ := hS
  refine ⟨a, k, rfl, fun b hb hn => (hF.old hb hn).1, ?_⟩
  obtain ⟨v1, v2, v3, v4⟩ := hG.store ⟨s1, s2, hF⟩
  refine (C2 w1 v1 v2).mono ?_
  rintro e w2 hh2
  obtain ⟨vs', es', hNx, vv', ev', lv, rfl, r1, r2, r3, r4, r5, r6, r7⟩ := unhide hh2
  obtain ⟨b1, b2, b3, -⟩ := brow_shape r1
  obtain ⟨b4, b5, b6⟩ := grow_shape r2
  obtain ⟨b7, b8, b9⟩ := grow_len r3
  have hvv : ∃ m1, vv' = .slice b1 m1 b2 := ⟨_, b3⟩
  obtain ⟨m1, hvv⟩ := hvv
  obtain ⟨b10, hev⟩ := b6
  subst hvv hev b9
  have hB1 : Below w.heap.size w w1 := hB.trans (hF.1.below hB.size (fun b hb => hL b hb))
  have hsz : W.heap.size ≤ w1.heap.size := hF.1.size
  refine ⟨b1, m1, b2, b4, b5, b10, b7, b8, g'.rd, g'.wr, rfl, n + 1, X', g', vs', es', ⟨s1.below r4, hsh, hNx.1, hNx.2, hn, r1, r2, fun b hb => ?_, fun b hb => ?_⟩, s2, rfl, rfl, hB1.trans (r4.mono hB1.size), ?_⟩
  · rcases r5 b hb with q | q
    · exact v3 b q
    · exact s1.mem.new q
  · rcases r6 b hb with q | q
    · exact v4 b q
    · exact s1.mem.new q
  · rcases hgr.2 with ⟨-, h0⟩ | ⟨p, cap, cur, e, hb, hgg, hc, hm, hs, ht⟩
    · exact .inl h0
    · injection e with e6 e7 e8
      have hp1 : p < w1.heap.size := (Array.getElem?_eq_some_iff.1 hgg).1
      refine .inr ⟨p, cur, _, e6, (r4.block p hp1).trans hgg, ?_, hlab p (by rw [e6]; rfl), fun q => ?_, fun q => ?_, Nat.le_trans hB.size hb, Nat.lt_of_lt_of_le hp1 r4.size⟩
      · rw [hs]; exact Nat.mul_le_mul_right _ hc
      · rcases r5 p q with q | q
        · have := (hG.vrow.lt p q).2; omega
        · omega
      · rcases r6 p q with q | q
        · have := (hG.erow.lt p q).2; omega
        · omega
end
end Go.Proofs.YtanbnipndkmnlaaGreat
