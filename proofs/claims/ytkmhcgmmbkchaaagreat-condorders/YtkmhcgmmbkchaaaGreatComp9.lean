/- components: the lists built place by place. -/
import Derived.Test.YtkmhcgmmbkchaaaGreatSea97
namespace Go.Proofs.YtkmhcgmmbkchaaaGreat

section
open Go.RowKit Go.Maps T9
/-- A list of lists, from B on: the outer block is a's, the i-th inner one a + 1 + i's. -/
structure LLat (B : Nat) (L : Nat → Nat) (a : Nat) (w : World) (v : Value) (vs : List Value) (xss : List (List Int)) : Prop where
  outer : w.ownsRow B 25 1 v xss.length vs
  inner : ∀ (i : Nat) (x : Value) (ks : List Int), vs[i]? = some x → xss[i]? = some ks → BRow B w x ks
  lo : ∀ b, v.ownBlock = some b → L b = a
  li : ∀ (i : Nat) (x : Value) (b : Nat), vs[i]? = some x → x.ownBlock = some b → L b = a + 1 + i
section
variable {B a : Nat} {L : Nat → Nat} {w w' : World} {v : Value} {vs : List Value} {xss : List (List Int)}
theorem LLat.len (h : LLat B L a w v vs xss) : vs.length = xss.length := by have := h.outer.1; omega
theorem LLat.shape (h : LLat B L a w v vs xss) : ∃ x c, v = .slice x xss.length c ∧ xss.length ≤ c := by
  rcases h.outer.2 with ⟨e, h0⟩ | ⟨g', cap, cur, e, -, -, hc, -⟩
  · exact ⟨none, 0, by rw [e, h0], by omega⟩
  · exact ⟨_, _, e, hc⟩
theorem LLat.some_ {x : Option Addr} {n c : Nat} (h : LLat B L a w (.slice x n c) vs xss) (h0 : 0 < xss.length) : ∃ g, x = some ⟨g, 0, none⟩ := by
  rcases h.outer.2 with ⟨e, h1⟩ | ⟨g', cap, cur, e, -⟩
  · omega
  · injection e with e1; exact ⟨g', e1⟩
theorem LLat.inrow (h : LLat B L a w v vs xss) {i : Nat} {ks : List Int} (hi : xss[i]? = some ks) : ∃ x, vs[i]? = some x ∧ BRow B w x ks := by
  have hl : i < vs.length := by rw [h.len]; exact (List.getElem?_eq_some_iff.1 hi).1
  exact ⟨vs[i], List.getElem?_eq_getElem hl, h.inner i _ ks (List.getElem?_eq_getElem hl) hi⟩
theorem LLat.cell {g n c : Nat} (h : LLat B L a w (.slice (some ⟨g, 0, none⟩) n c) vs xss) {i : Nat} {x : Value} (hi : vs[i]? = some x) : w.cell? ⟨g, i, none⟩ = some x := by
  have := h.outer.cells (g := g) rfl i x hi
  rwa [show (⟨g, 0, none⟩ : Addr).add i = ⟨g, i, none⟩ by unfold Addr.add; split <;> simp_all] at this
theorem LLat.frozen {g n c : Nat} (h : LLat B L a w (.slice (some ⟨g, 0, none⟩) n c) vs xss) : ∀ o, w.frozen? ⟨g, o, none⟩ = false := by
  rcases h.outer.2 with ⟨e, -⟩ | ⟨g', cap, cur, e, -, hg, -⟩
  · cases e
  · injection e with e1 _ _
    injection e1 with e1
    injection e1 with e1
    subst e1
    exact fun o => frozen_of_row _ _ o _ _ hg
theorem LLat.kept (h : LLat B L a w v vs xss) (hk : ∀ b, b < w.heap.size → a ≤ L b → w'.heap[b]? = w.heap[b]?) : LLat B L a w' v vs xss := by
  refine ⟨⟨h.outer.1, ?_⟩, fun i x ks h1 h2 => brow_kept (h.inner i x ks h1 h2) (fun b e => hk b ((h.inner i x ks h1 h2).lt b e).2 (by rw [h.li i x b h1 e]; omega)), h.lo, h.li⟩
  rcases h.outer.2 with hn | ⟨g, cap, cur, e, hb, hgg, rest⟩
  · exact .inl hn
  · exact .inr ⟨g, cap, cur, e, hb, (hk g (heap_lt hgg) (by rw [h.lo g (by rw [e]; rfl)]; exact Nat.le_refl _)).trans hgg, rest⟩
theorem LLat.outlt (h : LLat B L a w v vs xss) {b : Nat} (e : v.ownBlock = some b) : B ≤ b ∧ b < w.heap.size := h.outer.lt b e
theorem LLat.inlt (h : LLat B L a w v vs xss) {i b : Nat} {x : Value} (hi : vs[i]? = some x) (e : x.ownBlock = some b) : B ≤ b ∧ b < w.heap.size := by
  have hl : i < xss.length := by rw [← h.len]; exact (List.getElem?_eq_some_iff.1 hi).1
  exact (h.inner i x _ hi (List.getElem?_eq_getElem hl)).lt b e
theorem LLat.named (h : LLat B L a w v vs xss) (k : Nat) : LLat B (lab L w.heap.size k) a w v vs xss :=
  ⟨h.outer, h.inner, fun b e => (if_pos (h.outlt e).2).trans (h.lo b e), fun i x b hi e => (if_pos (h.inlt hi e).2).trans (h.li i x b hi e)⟩
theorem LLat.below (h : LLat B L a w v vs xss) (hb : Below w.heap.size w w') : LLat B L a w' v vs xss := h.kept (fun b hl _ => hb.block b hl)
/-- An inner list stored anew. -/
theorem LLat.put {g n c i : Nat} {x x' : Value} {ks : List Int} (h : LLat B L a w (.slice (some ⟨g, 0, none⟩) n c) vs xss) (hi : vs[i]? = some x) (ht : Turned (fun b => x.ownBlock = some b) w w') (hr : BRow B w' x' ks) (hn : ∀ b, x'.ownBlock = some b → x.ownBlock = some b ∨ w.heap.size ≤ b) :
    LLat B (lab L w.heap.size (a + 1 + i)) a (w'.setCell ⟨g, i, none⟩ x') (.slice (some ⟨g, 0, none⟩) n c) (vs.set i x') (xss.set i ks) := by
  have hil : i < vs.length := (List.getElem?_eq_some_iff.1 hi).1
  have hlen := h.len
  have h2 := h.named (a + 1 + i)
  have hg : lab L w.heap.size (a + 1 + i) g = a := h2.lo g rfl
  have hnew : ∀ b, x'.ownBlock = some b → lab L w.heap.size (a + 1 + i) b = a + 1 + i := fun b e => by
    rcases hn b e with q | q
    · exact h2.li i x b hi q
    · exact if_neg (by omega)
  have hgt : w'.heap[g]? = w.heap[g]? := ht.block g (h.outlt rfl).2 (fun e => by have := h2.li i x g hi e; omega)
  refine ⟨⟨by rw [List.length_set, List.length_set]; omega, ?_⟩, fun j y ls h3 h4 => ?_, h2.lo, fun j y b h3 e => ?_⟩
  · rcases h.outer.2 with ⟨e, -⟩ | ⟨g', cap, cur, e, hb, hgg, h5, h6, h7, h8⟩
    · cases e
    · obtain rfl : g = g' := by injection e with e1; injection e1 with e1; injection e1
      refine .inr ⟨g, cap, _, by rw [List.length_set]; exact e, hb, heap_setCell_same w' g i cur 25 x' (hgt.trans hgg), by rw [List.length_set]; exact h5, h6, by simpa using h7, ?_⟩
      rw [List.length_set, Array.toList_setIfInBounds, List.take_set, h8]
  · have hne : ∀ b, b ≠ g → (w'.setCell ⟨g, i, none⟩ x').heap[b]? = w'.heap[b]? := fun b q => heap_setCell_other _ _ _ _ q
    by_cases e : j = i
    · subst e
      rw [List.getElem?_set_self hil] at h3
      rw [List.getElem?_set_self (by omega)] at h4
      injection h3 with h3
      injection h4 with h4
      subst h3 h4
      exact brow_kept hr (fun b eb => hne b (fun q => by have := hnew b eb; rw [q, hg] at this; omega))
    · rw [List.getElem?_set_ne (fun q => e q.symm)] at h3 h4
      have h5 := h.inner j y ls h3 h4
      refine brow_kept h5 (fun b eb => ?_)
      have hLb := h2.li j y b h3 eb
      exact (hne b (fun q => by rw [q, hg] at hLb; omega)).trans (ht.block b (h5.lt b eb).2 (fun q => by have := h2.li i x b hi q; omega))
  · by_cases e2 : j = i
    · subst e2
      rw [List.getElem?_set_self hil] at h3
      injection h3 with h3
      subst h3
      exact hnew b e
    · rw [List.getElem?_set_ne (fun q => e2 q.symm)] at h3
      exact h2.li j y b h3 e
set_option maxHeartbeats 1000000 in
set_option maxRecDepth 100000 in
theorem infoIS : (Tryz.prog.info? 25).map (fun i => (i.zero, i.size, i.bytes)) = some (some (.slice none 0 0), 1, 24) := by kernel_rfl
/-- One empty list more. -/
theorem LLat.push (h : LLat B L a w v vs xss) (hB : B ≤ w.heap.size) (hl : xss.length ≤ 1000000) : ∃ x n c w', (∀ ty, (Builtin.append_ #[71, 71] ty #[v, .slice (some ⟨w.heap.size, 0, none⟩) 1 1]).run Tryz.prog (w.alloc (.cells #[.slice none 0 0] 25)) = .ok (.slice x n c) w') ∧ LLat B (lab L w.heap.size a) a w' (.slice x n c) (vs ++ [.slice none 0 0]) (xss ++ [[]]) ∧ Turned (fun b => v.ownBlock = some b) w w' := by
  have hb1 := below_new w (.cells #[.slice none 0 0] 25)
  have h1 := h.below hb1
  obtain ⟨ii, hi1, hz, hs, hb⟩ := info_parts infoIS
  have hc : ∀ j u, [Value.slice none 0 0][j]? = some u → (w.alloc (.cells #[.slice none 0 0] 25)).cell? ((⟨w.heap.size, 0, none⟩ : Addr).add j) = some u := cell_one_new w _ _
  obtain ⟨v', w', hr, g1, g2, -, g5⟩ := run_append_own_at (P := Tryz.prog) (w.alloc (.cells #[.slice none 0 0] 25)) B 71 0 25 ii _ 1 24 Tryz.underlying71 hi1 hz hs hb rfl (by omega) v xss.length vs h1.outer ⟨w.heap.size, 0, none⟩ 1 1 [.slice none 0 0] (by simp) hc (by intro u hu; rw [List.mem_singleton.1 hu]; rfl) (by unfold maxLen; omega) (by omega) (Nat.le_trans hB hb1.size)
  have h2 := h.named a
  have hold : ∀ b, b < w.heap.size → v.ownBlock ≠ some b → w'.heap[b]? = w.heap[b]? := fun b hb' hne => (g2.block b (Nat.lt_of_lt_of_le hb' hb1.size) (fun e => hne e.symm)).trans (hb1.block b hb')
  have g1' : w'.ownsRow B 25 1 v' (xss ++ [[]]).length (vs ++ [.slice none 0 0]) := by rw [List.length_append]; exact g1
  have hsh : ∃ x n c, v' = .slice x n c := by
    rcases g1'.2 with ⟨e, -⟩ | ⟨g', cap, cur, e, -⟩
    · exact ⟨_, _, _, e⟩
    · exact ⟨_, _, _, e⟩
  obtain ⟨x, n, c, rfl⟩ := hsh
  refine ⟨x, n, c, w', fun ty => hr, ⟨g1', fun i y ks e1 e2 => ?_, fun b eb => ?_, fun i y b e1 eb => ?_⟩, (turned_of_below hb1).trans ⟨g2.os, g2.tape, g2.output, g2.size, fun k hk hn => g2.block k hk (fun e => hn e.symm)⟩⟩
  · have hlen := h.len
    rcases Nat.lt_or_ge i vs.length with q | q
    · rw [List.getElem?_append_left q] at e1
      rw [List.getElem?_append_left (by omega)] at e2
      have h5 := h.inner i y ks e1 e2
      exact brow_kept h5 (fun b eb => hold b (h5.lt b eb).2 (fun e => by have := h.lo b e; have := h.li i y b e1 eb; omega))
    · have hi : i = vs.length := by have := (List.getElem?_eq_some_iff.1 e1).1; simp at this; omega
      subst hi
      rw [List.getElem?_append_right (Nat.le_refl _), Nat.sub_self] at e1
      rw [hlen, List.getElem?_append_right (Nat.le_refl _), Nat.sub_self] at e2
      injection e1 with e1
      injection e2 with e2
      subst e1 e2
      exact ⟨rfl, .inl ⟨rfl, rfl⟩⟩
  · rcases g5 with q | q
    · exact h2.lo b (by rw [← q]; exact eb)
    · have eb2 := Option.some.inj (q.symm.trans eb); exact if_neg (by have := hb1.size; omega)
  · rcases Nat.lt_or_ge i vs.length with q | q
    · rw [List.getElem?_append_left q] at e1
      exact h2.li i y b e1 eb
    · have hi : i = vs.length := by have := (List.getElem?_eq_some_iff.1 e1).1; simp at this; omega
      subst hi
      rw [List.getElem?_append_right (Nat.le_refl _), Nat.sub_self] at e1
      have e1 := Option.some.inj (show some (Value.slice none 0 0) = some y from e1)
      subst e1
      cases eb
theorem mkII {n : Nat} (hn : n ≤ 1000000) (w : World) : (Instr.makeSlice 71 (.int .i64 (n : Nat)) (.int .i64 (n : Nat))).run Tryz.prog w = .ok (.slice (some ⟨w.heap.size, 0, none⟩) n n) (w.alloc (.cells (madeCells #[.slice none 0 0] n) 25)) :=
  run_make_row' 71 25 (.slice none 0 0) 24 Tryz.underlying71 infoIS rfl .i64 .i64 n (by omega) (by omega) w
theorem ll_made {n : Nat} (hn : n ≤ 1000000) (w : World) (hB : B ≤ w.heap.size) : LLat B (lab L w.heap.size a) a (w.alloc (.cells (madeCells #[.slice none 0 0] n) 25)) (.slice (some ⟨w.heap.size, 0, none⟩) n n) (List.replicate n (.slice none 0 0)) (List.replicate n []) := by
  refine ⟨⟨by simp, .inr ⟨w.heap.size, n, madeCells #[.slice none 0 0] n, by simp, hB, heap_alloc_new _ _, by simp, by unfold maxLen; omega, ?_, ?_⟩⟩, fun i x ks h1 h2 => ?_, fun b e => ?_, fun i x b h1 e => ?_⟩
  · rw [← Array.length_toList, made_list]; simp
  · rw [made_list]; simp
  · rw [List.eq_of_mem_replicate (List.mem_of_getElem? h1), List.eq_of_mem_replicate (List.mem_of_getElem? h2)]
    exact ⟨rfl, .inl ⟨rfl, rfl⟩⟩
  · have := own_eq e; exact if_neg (by omega)
  · rw [List.eq_of_mem_replicate (List.mem_of_getElem? h1)] at e; cases e
/-- The lists of a graph. -/
def nxl (n : Nat) (nx : Nat → List Nat) : List (List Int) := (List.range n).map (fun p => pl (nx p))
theorem nxl_len (n : Nat) (nx : Nat → List Nat) : (nxl n nx).length = n := by simp [nxl]
theorem nxl_at {n p : Nat} (nx : Nat → List Nat) (h : p < n) : (nxl n nx)[p]? = some (pl (nx p)) := by simp [nxl, h]
theorem nxl_set {n p : Nat} {nx nx' : Nat → List Nat} (h1 : ∀ x, x ≠ p → nx' x = nx x) : (nxl n nx).set p (pl (nx' p)) = nxl n nx' := by
  apply List.ext_getElem?
  intro k
  by_cases hk : k < n
  · rw [nxl_at _ hk]
    by_cases e : p = k
    · subst e; rw [List.getElem?_set_self (by rw [nxl_len]; exact hk)]
    · rw [List.getElem?_set_ne e, nxl_at _ hk, h1 k (fun q => e q.symm)]
  · rw [List.getElem?_eq_none (by rw [List.length_set, nxl_len]; omega), List.getElem?_eq_none (by rw [nxl_len]; omega)]
theorem LLat.nx {n : Nat} {nx : Nat → List Nat} {g m c : Nat} (h : LLat B L a w (.slice (some ⟨g, 0, none⟩) m c) vs (nxl n nx)) : NxAt w (.slice (some ⟨g, 0, none⟩) m c) n nx := by
  obtain ⟨x, c', e, hc⟩ := h.shape
  rw [nxl_len] at e hc
  injection e with _ e2 e3
  subst e2 e3
  refine ⟨g, c, rfl, (h.outlt rfl).2, hc, fun p hp => ?_⟩
  obtain ⟨x, hx, hr⟩ := h.inrow (nxl_at nx hp)
  exact ⟨x, h.cell hx, brow_at0 hr⟩
end
/-- Arcs, as they lie. -/
def encA (l : List (Int × Int)) : List Value := l.flatMap (fun a => [.int .i64 a.1, .int .i64 a.2])
theorem encA_len (l : List (Int × Int)) : (encA l).length = l.length * 2 := by
  induction l with
  | nil => rfl
  | cons a l ih => show (_ :: _ :: encA l).length = _; simp only [List.length_cons, ih]; omega
theorem encA_at : ∀ {l : List (Int × Int)} {i : Nat} {a : Int × Int}, l[i]? = some a → (encA l)[i * 2]? = some (.int .i64 a.1) ∧ (encA l)[i * 2 + 1]? = some (.int .i64 a.2)
  | [], i, a, h => by cases h
  | x :: l, 0, a, h => by injection h with h; subst h; exact ⟨rfl, rfl⟩
  | x :: l, i + 1, a, h => by
    have := encA_at (l := l) (i := i) (a := a) h
    rw [show (i + 1) * 2 = i * 2 + 1 + 1 by omega]
    exact this
abbrev ARow (w : World) (v : Value) (l : List (Int × Int)) : Prop := w.ownsRow 0 54 2 v l.length (encA l)
theorem arow_shape {w : World} {v : Value} {l : List (Int × Int)} (h : ARow w v l) : ∃ x c, v = .slice x l.length c ∧ (0 < l.length → ∃ g, x = some ⟨g, 0, none⟩) := by
  rcases h.2 with ⟨e, h0⟩ | ⟨g', cap, cur, e, -⟩
  · exact ⟨none, 0, by rw [e, h0], fun q => by omega⟩
  · exact ⟨_, _, e, fun _ => ⟨g', rfl⟩⟩
theorem arow_kept {w w' : World} {v : Value} {l : List (Int × Int)} (h : ARow w v l) (hb : Below w.heap.size w w') : ARow w' v l := by
  refine ⟨h.1, ?_⟩
  rcases h.2 with hn | ⟨g, cap, cur, e, hb2, hgg, rest⟩
  · exact .inl hn
  · exact .inr ⟨g, cap, cur, e, hb2, (hb.block g (heap_lt hgg)).trans hgg, rest⟩
theorem arow_at {w : World} {g n c i : Nat} {l : List (Int × Int)} {a : Int × Int} (h : ARow w (.slice (some ⟨g, 0, none⟩) n c) l) (hi : l[i]? = some a) : w.cell? ⟨g, i * 2, none⟩ = some (.int .i64 a.1) ∧ w.cell? ⟨g, i * 2 + 1, none⟩ = some (.int .i64 a.2) := by
  obtain ⟨h1, h2⟩ := encA_at hi
  have e : ∀ j, (⟨g, 0, none⟩ : Addr).add j = ⟨g, j, none⟩ := fun j => by unfold Addr.add; split <;> simp_all
  have := h.cells (g := g) rfl _ _ h1
  have h3 := h.cells (g := g) rfl _ _ h2
  rw [e] at this h3
  exact ⟨this, h3⟩
theorem cloneI {v : Value} {ks : List Int} (w : World) (h : NRow w v ks) (hl : ks.length ≤ 1000000) :
    Calls Tryz.prog 55 #[v] w fun e w' => ∃ v', e = .returned v' ∧ Hid (BRow w.heap.size w' v' ks ∧ Below w.heap.size w w') := by
  rcases nrow_shape h with ⟨rfl, rfl⟩ | ⟨g, c, rfl⟩
  · refine (Tryz.slices_Clone_int_nil 0 0 w).mono ?_
    rintro e w' ⟨rfl, rfl⟩
    exact ⟨_, rfl, ⟨rfl, .inl ⟨rfl, rfl⟩⟩, Below.refl _ _⟩
  · refine (Tryz.slices_Clone_int g 0 ks.length c ks w (Nat.le_refl _) (by omega) (fun j hj => by rw [Nat.zero_add]; exact (nrow_some h).2.2.2.2 j hj)).mono ?_
    rintro e w' ⟨v', rfl, g1, -, g2⟩
    rw [List.take_length] at g1
    exact ⟨v', rfl, g1, g2⟩
/-- Where a number stands among rising ones. -/
theorem countP_idx : ∀ {V : List Int} {k : Int}, V.Pairwise (· < ·) → k ∈ V → V.countP (fun x => decide (x < k)) = V.idxOf k
  | [], k, _, h => by cases h
  | x :: V, k, hp, h => by
    obtain ⟨p1, p2⟩ := List.pairwise_cons.1 hp
    rw [List.countP_cons, List.idxOf_cons]
    by_cases e : x = k
    · subst e
      have h0 : V.countP (fun y => decide (y < x)) = 0 := List.countP_eq_zero.2 (fun y hy => by have := p1 y hy; simp; omega)
      rw [h0]; simp
    · have hk : k ∈ V := (List.mem_cons.1 h).resolve_left (fun q => e q.symm)
      rw [countP_idx p2 hk]
      have := p1 k hk
      have e2 : (x == k) = false := by simpa using e
      simp [this, e2]
theorem searchI {v : Value} {V : List Int} (k : Int) (w : World) (h : NRow w v V) (hl : V.length ≤ 1000000) (hs : V.Pairwise (· < ·)) :
    Calls Tryz.prog 70 #[v, .int .i64 k] w fun e w' => e = .returned (.tuple #[.int .i64 (V.countP (fun x => decide (x < k)) : Nat), .bool (decide (k ∈ V))]) ∧ ∃ q, w' = w.drewN q := by
  rcases nrow_shape h with ⟨rfl, rfl⟩ | ⟨g, c, rfl⟩
  · refine (Tryz.slices_BinarySearch_int_empty none 0 k w).mono ?_
    rintro e w' ⟨rfl, rfl⟩
    exact ⟨rfl, 0, rfl⟩
  · refine (Tryz.slices_BinarySearch_int g 0 V.length c V k w (Nat.le_refl _) (by omega) (fun j hj => by rw [Nat.zero_add]; exact (nrow_some h).2.2.2.2 j hj) (by rw [List.take_length]; exact hs.imp (fun hab => by omega))).mono ?_
    rintro e w' ⟨he, hq⟩
    rw [List.take_length] at he
    refine ⟨?_, hq⟩
    rw [he, List.contains_eq_mem]
theorem LLat.low {B B' a : Nat} {L : Nat → Nat} {w : World} {v : Value} {vs : List Value} {xss : List (List Int)} (h : LLat B' L a w v vs xss) (hb : B ≤ B') : LLat B L a w v vs xss :=
  ⟨⟨h.outer.1, h.outer.2.imp id (fun ⟨g, cap, cur, e, q, r⟩ => ⟨g, cap, cur, e, Nat.le_trans hb q, r⟩)⟩, fun i x ks h1 h2 => brow_low (h.inner i x ks h1 h2) hb, h.lo, h.li⟩
end

section
open Go.RowKit Go.Maps T9
def oG9 (vv nv : Value) : Obj := .cells #[vv, nv] 136 (0, 0)
theorem cellsG9 {w : World} {b : Nat} {vv nv : Value} (h : w.heap[b]? = some (oG9 vv nv)) : w.cell? ⟨b, 0, none⟩ = some vv ∧ w.cell? ⟨b, 1, none⟩ = some nv ∧ ∀ o, w.frozen? ⟨b, o, none⟩ = false :=
  ⟨(cell_of_row _ _ 0 _ _ (0, 0) h).trans rfl, (cell_of_row _ _ 1 _ _ (0, 0) h).trans rfl, fun o => frozen_of_row _ _ o _ _ h⟩
/-- A graph in memory, made behind w0. -/
structure RD (w0 : World) (gb gn n : Nat) (vv : Value) (V : List Int) (nx : Nat → List Nat) (L : Nat → Nat) (vs : List Value) (w : World) : Prop where
  box : w.heap[gb]? = some (oG9 vv (.slice (some ⟨gn, 0, none⟩) n n))
  vr : BRow w0.heap.size w vv V
  ll : LLat w0.heap.size L 10 w (.slice (some ⟨gn, 0, none⟩) n n) vs (nxl n nx)
  l1 : L gb = 1
  l2 : ∀ b, vv.ownBlock = some b → L b = 2
  own : w0.heap.size ≤ gb
  below : Below w0.heap.size w0 w
section
variable {w0 w w' : World} {gb gn n : Nat} {vv : Value} {V : List Int} {nx nx' : Nat → List Nat} {L : Nat → Nat} {vs : List Value}
theorem RD.grow (h : RD w0 gb gn n vv V nx L vs w) (hb : Below w.heap.size w w') : RD w0 gb gn n vv V nx L vs w' :=
  ⟨(hb.block gb (heap_lt h.box)).trans h.box, brow_kept h.vr (fun b e => hb.block b (h.vr.lt b e).2), h.ll.below hb, h.l1, h.l2, h.own, h.below.trans (hb.mono h.below.size)⟩
theorem RD.drew (h : RD w0 gb gn n vv V nx L vs w) (q : Nat) : RD w0 gb gn n vv V nx L vs (w.drewN q) := h.grow ⟨rfl, rfl, rfl, Nat.le_refl _, fun _ _ => rfl⟩
/-- The vertices written anew in their place. -/
theorem RD.sorted {V' : List Int} (h : RD w0 gb gn n vv V nx L vs w) (hr : BRow w0.heap.size w' vv V') (hg : w.grownBy w' vv.ownBlock) : RD w0 gb gn n vv V' nx L vs w' := by
  have hk : ∀ b, b < w.heap.size → L b ≠ 2 → w'.heap[b]? = w.heap[b]? := fun b hb hL => hg.block b hb (fun e => hL (h.l2 b e.symm))
  exact ⟨(hk gb (heap_lt h.box) (by rw [h.l1]; decide)).trans h.box, hr, h.ll.kept (fun b hb hL => hk b hb (by omega)), h.l1, h.l2, h.own, h.below.grown hg h.below.size (fun k e => (h.vr.lt k e).1)⟩
/-- One arc more. -/
theorem RD.arc (h : RD w0 gb gn n vv V nx L vs w) {p q : Nat} (hp : p < n) (hl : (nx p).length ≤ 1000000) (h1 : ∀ x, x ≠ p → nx' x = nx x) (h2 : nx' p = nx p ++ [q]) :
    ∃ x xn xc x' xn' xc' w', w.cell? ⟨gn, p, none⟩ = some (.slice x xn xc) ∧ (∀ ty, (Builtin.append_ #[25, 25] ty #[.slice x xn xc, .slice (some ⟨w.heap.size, 0, none⟩) 1 1]).run Tryz.prog (w.alloc (.cells #[.int .i64 (q : Nat)] 3)) = .ok (.slice x' xn' xc') w') ∧
      (w.alloc (.cells #[.int .i64 (q : Nat)] 3)).heap[gb]? = some (oG9 vv (.slice (some ⟨gn, 0, none⟩) n n)) ∧ (w.alloc (.cells #[.int .i64 (q : Nat)] 3)).cell? ⟨gn, p, none⟩ = some (.slice x xn xc) ∧
      w'.heap[gb]? = some (oG9 vv (.slice (some ⟨gn, 0, none⟩) n n)) ∧ w'.cell? ⟨gn, p, none⟩ = some (.slice x xn xc) ∧ (∀ o, w'.frozen? ⟨gn, o, none⟩ = false) ∧
      ∃ L' vs', RD w0 gb gn n vv V nx' L' vs' (w'.setCell ⟨gn, p, none⟩ (.slice x' xn' xc')) := by
  obtain ⟨xv, hx, hr⟩ := h.ll.inrow (nxl_at nx hp)
  obtain ⟨x, xc, rfl, -⟩ := brow_shape hr
  obtain ⟨x', xn', xc', w', r, hr', ht, hn⟩ := run_app8 (q : Int) hr h.below.size (by rw [pl_len]; omega)
  have hb1 := below_new w (.cells #[.int .i64 (q : Nat)] 3)
  have hnew := h.grow hb1
  have hLx : ∀ b, (Value.slice x (pl (nx p)).length xc).ownBlock = some b → L b = 10 + 1 + p := fun b e => h.ll.li p _ b hx e
  have hkb : w'.heap[gb]? = w.heap[gb]? := ht.block gb (heap_lt h.box) (fun e => by have := hLx gb e; rw [h.l1] at this; omega)
  have hkn : w'.heap[gn]? = w.heap[gn]? := ht.block gn (h.ll.outlt rfl).2 (fun e => by have := hLx gn e; have := h.ll.lo gn rfl; omega)
  have hcell := h.ll.cell hx
  have hpl : pl (nx p) ++ [(q : Int)] = pl (nx' p) := by rw [h2]; simp [pl]
  rw [hpl] at hr'
  have h3 := h.ll.put hx ht hr' hn
  rw [nxl_set h1] at h3
  have hB : Below w0.heap.size w0 w' := h.below.trans (ht.below h.below.size (fun k e => (h.ll.inlt hx e).1))
  have hgn : gn ≠ gb := fun e => by have h5 := h.ll.lo gn rfl; rw [e, h.l1] at h5; omega
  refine ⟨x, _, xc, x', xn', xc', w', hcell, r, hnew.box, hnew.ll.cell hx, hkb.trans h.box, (cell_of_heap (x := ⟨gn, p, none⟩) hkn).trans hcell, ?_, lab L w.heap.size (10 + 1 + p), vs.set p (.slice x' xn' xc'), ?_⟩
  · intro o
    rw [World.frozen?_of_block (w := w) hkn]
    exact h.ll.frozen o
  · refine ⟨(heap_setCell_other _ _ _ _ (fun e => hgn e.symm)).trans (hkb.trans h.box), ?_, h3, (if_pos (heap_lt h.box)).trans h.l1, fun b e => (if_pos (h.vr.lt b e).2).trans (h.l2 b e), h.own, hB.setCell (h.ll.outlt (b := gn) rfl).1 _⟩
    refine brow_kept h.vr (fun b e => ?_)
    have hLb := h.l2 b e
    exact (heap_setCell_other _ _ _ _ (fun q => by have := h.ll.lo gn rfl; rw [show b = gn from q] at hLb; omega)).trans (ht.block b (h.vr.lt b e).2 (fun q => by have := hLx b q; omega))
end
/-- What is made at first. -/
def Pic2 (w0 : World) (V : List Int) (b1 b4 : Bool) (x15 x18 : Value) (w : World) : Prop := ∃ L, Below w0.heap.size w0 w ∧ (b1 = true → BRow w0.heap.size w x15 V ∧ ∀ g, x15.ownBlock = some g → L g = 2) ∧ (b4 = true → ∃ gn, x18 = .slice (some ⟨gn, 0, none⟩) V.length V.length ∧ LLat w0.heap.size L 10 w x18 (List.replicate V.length (.slice none 0 0)) (List.replicate V.length []))
def ready2 (b1 b4 : Bool) : List Nat := (if b1 then [] else [1]) ++ (if b4 then [] else [4]) ++ (if b1 && b4 then [5] else [])
def Inv2 (a0 : Act) (w0 : World) (V : List Int) (k : Nat) (l : Array Bool) (a : Act) (w : World) : Prop :=
  ∃ (b1 b4 : Bool) (x15 x18 : Value), l = #[true, b1, true, true, b4, false, false, false] ∧ a = (a0.put (some 15) x15).put (some 18) x18 ∧ (!b1).toNat + (!b4).toNat = k ∧ Pic2 w0 V b1 b4 x15 x18 w
theorem nxl_nil (n : Nat) : List.replicate n ([] : List Int) = nxl n (fun _ => []) := by
  unfold nxl
  apply List.ext_getElem?
  intro k
  by_cases hk : k < n
  · simp [hk, pl]
  · simp [hk]
theorem rd_start {w0 w : World} {V : List Int} {x15 : Value} {gn : Nat} (h : Pic2 w0 V true true x15 (.slice (some ⟨gn, 0, none⟩) V.length V.length) w) : ∃ L vs, RD w0 w.heap.size gn V.length x15 V (fun _ => []) L vs (w.alloc (oG9 x15 (.slice (some ⟨gn, 0, none⟩) V.length V.length))) := by
  obtain ⟨L, hB, h1, h2⟩ := h
  obtain ⟨r1, l1⟩ := h1 rfl
  obtain ⟨_, e, r2⟩ := h2 rfl
  have hb := below_new w (oG9 x15 (.slice (some ⟨gn, 0, none⟩) V.length V.length))
  rw [nxl_nil] at r2
  exact ⟨lab L w.heap.size 1, _, ⟨heap_alloc_new _ _, brow_kept r1 (fun b e => hb.block b (r1.lt b e).2), (r2.named 1).below hb, if_neg (Nat.lt_irrefl _), fun b e => (if_pos (r1.lt b e).2).trans (l1 b e), hB.size, hB.alloc hB.size _⟩⟩
/-- A graph that was read. -/
def GM (w0 : World) (gb : Nat) (V : List Int) (nx : Nat → List Nat) (w : World) : Prop := ∃ gn vv L vs, RD w0 gb gn V.length vv V nx L vs w
def okArcs (vs : List Int) (arcs : List (Int × Int)) : Prop := ∀ a ∈ arcs, a.1 ∈ vs ∧ a.2 ∈ vs
def RdAns (w : World) (vs : List Int) (arcs : List (Int × Int)) (e : Ending) (w' : World) : Prop :=
  Below w.heap.size w w' ∧ ((¬ vs.Nodup ∧ e = .returned (.tuple #[.pointer none, .int .i64 2])) ∨ (vs.Nodup ∧ ¬ okArcs vs arcs ∧ e = .returned (.tuple #[.pointer none, .int .i64 5])) ∨
    (vs.Nodup ∧ okArcs vs arcs ∧ ∃ gb V, e = .returned (.tuple #[.pointer (some ⟨gb, 0, none⟩), .int .i64 0]) ∧ V.Perm vs ∧ V.Pairwise (· < ·) ∧ GM w gb V (nextOf V arcs) w'))
theorem sorted_lt {V : List Int} (hs : V.Pairwise (· ≤ ·)) (hd : V.Nodup) : V.Pairwise (· < ·) :=
  (hs.and hd).imp (fun h => by obtain ⟨h1, h2⟩ := h; omega)
/-- No two neighbours are one. -/
theorem nodup_near : ∀ {V : List Int}, V.Pairwise (· ≤ ·) → (∀ (i : Nat) (x y : Int), V[i]? = some x → V[i + 1]? = some y → x ≠ y) → V.Nodup
  | [], _, _ => List.nodup_nil
  | [x], _, _ => by simp
  | x :: y :: V, hs, hn => by
    obtain ⟨p1, p2⟩ := List.pairwise_cons.1 hs
    have ih := nodup_near p2 (fun i a b h1 h2 => hn (i + 1) a b h1 h2)
    refine List.nodup_cons.2 ⟨fun hm => ?_, ih⟩
    have h0 := hn 0 x y rfl rfl
    rcases List.mem_cons.1 hm with e | e
    · exact h0 e
    · have := (List.pairwise_cons.1 p2).1 x e
      have := p1 y (by simp)
      omega
theorem nextOf_len (V : List Int) (arcs : List (Int × Int)) (p : Nat) : (nextOf V arcs p).length ≤ arcs.length := by
  unfold nextOf; rw [List.length_map]; exact List.length_filter_le _ _
theorem idx_some {V : List Int} {k : Int} (h : k ∈ V) : V[V.idxOf k]? = some k := by
  have hl := List.idxOf_lt_length_of_mem h
  rw [List.getElem?_eq_getElem hl, List.getElem_idxOf hl]
theorem not_nodup_near {V : List Int} {i : Nat} {x : Int} (h1 : V[i]? = some x) (h2 : V[i + 1]? = some x) : ¬ V.Nodup := fun hd => by
  obtain ⟨l1, e1⟩ := List.getElem?_eq_some_iff.1 h1
  obtain ⟨l2, e2⟩ := List.getElem?_eq_some_iff.1 h2
  exact (List.pairwise_iff_getElem.1 hd) i (i + 1) l1 l2 (by omega) (e1.trans e2.symm)
/-- Among the first k no two neighbours are one. -/
def Near (V : List Int) (k : Nat) : Prop := ∀ (i : Nat) (x y : Int), i + 1 < k → V[i]? = some x → V[i + 1]? = some y → x ≠ y
theorem okArcs_snoc {vs : List Int} {l : List (Int × Int)} {a : Int × Int} (h : okArcs vs l) (h1 : a.1 ∈ vs) (h2 : a.2 ∈ vs) : okArcs vs (l ++ [a]) := fun b hb => by
  rcases List.mem_append.1 hb with q | q
  · exact h b q
  · rw [List.mem_singleton.1 q]; exact ⟨h1, h2⟩
def oArc (u x : Int) : Obj := .cells #[.int .i64 u, .int .i64 x] 54 (0, 0)
theorem cellsArc {w : World} {b : Nat} {u x : Int} (h : w.heap[b]? = some (oArc u x)) : w.cell? ⟨b, 0, none⟩ = some (.int .i64 u) ∧ w.cell? ⟨b, 1, none⟩ = some (.int .i64 x) ∧ ∀ o, w.frozen? ⟨b, o, none⟩ = false :=
  ⟨(cell_of_row _ _ 0 _ _ (0, 0) h).trans rfl, (cell_of_row _ _ 1 _ _ (0, 0) h).trans rfl, fun o => frozen_of_row _ _ o _ _ h⟩
theorem take_snoc {α : Type} {l : List α} {i : Nat} {a : α} (h : l[i]? = some a) : l.take (i + 1) = l.take i ++ [a] := by
  obtain ⟨hl, e⟩ := List.getElem?_eq_some_iff.1 h
  rw [← e]; exact (List.take_append_getElem hl).symm
/-- The lists with one arc more. -/
theorem nextOf_snoc {V : List Int} {arcs : List (Int × Int)} {i : Nat} {u x : Int} (hd : V.Pairwise (· < ·)) (h : arcs[i]? = some (u, x)) (hu : u ∈ V) :
    (∀ p, p ≠ V.idxOf u → nextOf V (arcs.take (i + 1)) p = nextOf V (arcs.take i) p) ∧ nextOf V (arcs.take (i + 1)) (V.idxOf u) = nextOf V (arcs.take i) (V.idxOf u) ++ [V.idxOf x] := by
  rw [take_snoc h]
  refine ⟨fun p hp => nextOf_else (fun e => hp ?_), nextOf_at (idx_some hu)⟩
  obtain ⟨l1, e1⟩ := List.getElem?_eq_some_iff.1 e
  obtain ⟨l2, e2⟩ := List.getElem?_eq_some_iff.1 (idx_some hu)
  have hne := List.pairwise_iff_getElem.1 hd
  rcases Nat.lt_trichotomy p (V.idxOf u) with q | q | q
  · have := hne p _ l1 l2 q; rw [e1, e2] at this; simp at this
  · exact q
  · have := hne _ p l2 l1 q; rw [e1, e2] at this; simp at this
end

section
open Go.RowKit Go.Maps T9
set_option maxHeartbeats 8000000 in
set_option maxRecDepth 100000 in
theorem readS {w : World} {v av : Value} {vs : List Int} {arcs : List (Int × Int)} (hv : NRow w v vs) (ha : ARow w av arcs) (hn : vs.length ≤ 100000) (hm : arcs.length ≤ 100000) :
    Calls Tryz.prog 78 #[v, av] w fun e w' => Hid (RdAns w vs arcs e w') := by
  obtain ⟨xv, cv, hve, -⟩ := brow_shape hv
  obtain ⟨xa, ca, hae, hxa⟩ := arow_shape ha
  have CCL : Hid (∀ W, Below w.heap.size w W → Calls Tryz.prog 55 #[v] W fun e w' => ∃ v', e = .returned v' ∧ Hid (BRow W.heap.size w' v' vs ∧ Below W.heap.size W w')) := fun W hW => cloneI W (nrow_below hv hW) (by omega)
  have hmk := @mkII vs.length (by omega)
  have HLM : Hid (∀ (W : World) B L, B ≤ W.heap.size → LLat B (lab L W.heap.size 10) 10 (W.alloc (.cells (madeCells #[.slice none 0 0] vs.length) 25)) (.slice (some ⟨W.heap.size, 0, none⟩) vs.length vs.length) (List.replicate vs.length (.slice none 0 0)) (List.replicate vs.length [])) := fun W B L hB => ll_made (by omega) W hB
  have HV := hide (And.intro hv (And.intro ha (And.intro hn (And.intro hm hxa))))
  subst hve
  subst hae
  obtain ⟨n, hne⟩ : ∃ n, n = vs.length := ⟨_, rfl⟩
  have HNE := hide hne
  obtain ⟨m, hme⟩ : ∃ m, m = arcs.length := ⟨_, rfl⟩
  have HME := hide hme
  rw [← hne] at CCL hmk HLM HV ⊢
  rw [← hme] at HV ⊢
  clear hv ha hn hm hxa hne hme
  go_enter Tryz.func78, Tryz.ntmps78
  go_upto_region 1 with fail
  refine wp_region_noPanic ?_
  refine regionL [] (fun y => True) (by kernel_rfl) trivial (fun hHeld => ?_)
  refine takeL (i := 0) (v := ?t2v0) (some 14) rfl rfl (by kernel_rfl) (by kernel_rfl) (by kernel_rfl) (by kernel_rfl) (by kernel_rfl) (fun _ _ _ h => h) (Or.inl ⟨by rfl, ?t2h0⟩) (by assumption) ?t2r0
  case t2h0 => (intro y hSu; (try dsimp only at hSu); go_simp; first | done | with_reducible rfl)
  (try simp only [Act.put, List.setIfInBounds_toArray, List.set_cons_zero, List.set_cons_succ])
  refine takeL (i := 2) (v := ?t2v2) (some 16) rfl rfl (by kernel_rfl) (by kernel_rfl) (by kernel_rfl) (by kernel_rfl) (by kernel_rfl) (fun _ _ _ h => h) (Or.inl ⟨by rfl, ?t2h2⟩) (by assumption) ?t2r2
  case t2h2 => (intro y hSu; (try dsimp only at hSu); go_simp; first | done | with_reducible rfl)
  (try simp only [Act.put, List.setIfInBounds_toArray, List.set_cons_zero, List.set_cons_succ])
  refine takeL (i := 3) (v := ?t2v3) (some 17) rfl rfl (by kernel_rfl) (by kernel_rfl) (by kernel_rfl) (by kernel_rfl) (by kernel_rfl) (fun _ _ _ h => h) (Or.inl ⟨by rfl, ?t2h3⟩) (by assumption) ?t2r3
  case t2h3 => (intro y hSu; (try dsimp only at hSu); go_simp; first | done | with_reducible rfl)
  (try simp only [Act.put, List.setIfInBounds_toArray, List.set_cons_zero, List.set_cons_succ])
  refine anyInvAt (fun a0 => Inv2 a0 w vs) 3 2 _ _ _ ?start ?h0 ?h1
  case start => exact ⟨false, false, undef, undef, rfl, rfl, rfl, fun _ => 0, (Below.refl _ _).drew, (fun e => by cases e), (fun e => by cases e)⟩
  case h1 =>
    rintro k l a W ⟨b1, b4, x15, x18, rfl, rfl, hc, L, hB, p1, p4⟩
    generalize hr : Region.ready _ _ _ = rs
    have hrs : rs = ready2 b1 b4 := by rw [← hr]; cases b1 <;> cases b4 <;> kernel_rfl
    subst hrs
    refine ⟨by cases b1 <;> cases b4 <;> decide, fun i hi => ?_⟩
    have hi2 : (i = 1 ∧ b1 = false) ∨ (i = 4 ∧ b4 = false) := by
      revert hc hi
      cases b1 <;> cases b4 <;> simp [ready2] <;> omega
    clear hr hi
    rcases hi2 with ⟨rfl, rfl⟩ | ⟨rfl, rfl⟩
    · refine ⟨_, rfl, fun K hK => ?_⟩
      go_simp
      refine (unhide CCL W hB).mono ?_
      rintro e w2 ⟨x, rfl, hh⟩
      (try dsimp only)
      obtain ⟨hnew, hb2⟩ := unhide hh
      refine hK.out _ _ trivial ⟨true, b4, x, x18, rfl, rfl, by simp at hc ⊢; omega, lab L W.heap.size 2, hB.trans (hb2.mono hB.size), fun _ => ⟨brow_low hnew hB.size, fun g eg => if_neg (by have := (hnew.lt g eg).1; omega)⟩, fun e => ?_⟩
      obtain ⟨gn, e1, e2⟩ := p4 e
      exact ⟨gn, e1, (e2.named 2).below hb2⟩
    · refine ⟨_, rfl, fun K hK => ?_⟩
      go_simp
      have hb2 := below_new W (.cells (madeCells #[.slice none 0 0] n) 25)
      refine hK.out _ _ trivial ⟨b1, true, x15, .slice (some ⟨W.heap.size, 0, none⟩) n n, rfl, rfl, by simp at hc ⊢; omega, lab L W.heap.size 10, hB.alloc hB.size _, fun e => ?_, fun _ => ⟨W.heap.size, by rw [unhide HNE], by rw [← unhide HNE]; exact unhide HLM W _ L hB.size⟩⟩
      obtain ⟨e1, e2⟩ := p1 e
      exact ⟨brow_kept e1 (fun g eg => hb2.block g (e1.lt g eg).2), fun g eg => (if_pos (e1.lt g eg).2).trans (e2 g eg)⟩
  case h0 =>
    rintro l a W ⟨b1, b4, x15, x18, rfl, rfl, hc, hP⟩
    obtain ⟨rfl, rfl⟩ : b1 = true ∧ b4 = true := by revert hc; cases b1 <;> cases b4 <;> simp
    obtain ⟨gn, rfl⟩ : ∃ gn, x18 = .slice (some ⟨gn, 0, none⟩) vs.length vs.length := by
      obtain ⟨L, -, -, h4⟩ := hP
      obtain ⟨gn, e, -⟩ := h4 rfl
      exact ⟨gn, e⟩
    have hS := rd_start hP
    have hxs : ∃ x c, x15 = .slice x vs.length c := by
      obtain ⟨L, -, h1, -⟩ := hP
      obtain ⟨x, c, e, -⟩ := brow_shape (h1 rfl).1
      exact ⟨x, c, e⟩
    obtain ⟨xx, xc, rfl⟩ := hxs
    rw [← unhide HNE] at hS ⊢
    have HS := hide hS
    clear hS hP hc CCL hmk HLM
    (try simp only [Act.put, List.setIfInBounds_toArray, List.set_cons_zero, List.set_cons_succ])
    refine readyL (i := 5) (by kernel_rfl) rfl (fun K hK => ?_)
    go_simp
    refine hK.out _ _ (fun _ => trivial) ?_
    clear hK K
    (try simp only [List.setIfInBounds_toArray, List.set_cons_zero, List.set_cons_succ])
    have hH4 := trivial
    refine readyL (i := 6) (by kernel_rfl) rfl (fun K hK => ?_)
    go_simp
    refine hK.out _ _ (fun _ => trivial) ?_
    clear hK K
    (try simp only [List.setIfInBounds_toArray, List.set_cons_zero, List.set_cons_succ])
    have hH6 := trivial
    refine readyL (i := 7) (by kernel_rfl) rfl (fun K hK => ?_)
    go_simp
    refine hK.out _ _ (fun _ => trivial) ?_
    clear hK K
    (try simp only [List.setIfInBounds_toArray, List.set_cons_zero, List.set_cons_succ])
    have hH8 := trivial
    refine doneL (by kernel_rfl) ?_ _
    refine NoPanic.normal ?_
    change Exit.then _ _ _ _ (W.alloc (oG9 (.slice xx n xc) (.slice (some ⟨gn, 0, none⟩) n n)))
    generalize W.alloc (oG9 (.slice xx n xc) (.slice (some ⟨gn, 0, none⟩) n n)) = w1 at *
    generalize W.heap.size = gb at *
    obtain ⟨L, lvs, hR⟩ := unhide HS
    obtain ⟨c0, -, -⟩ := cellsG9 hR.box
    have CSO : Hid (Calls Tryz.prog 66 #[.slice xx n xc] w1 fun e w' => e = .returned (.tuple #[]) ∧ Hid (∃ V, V.Perm vs ∧ V.Pairwise (· ≤ ·) ∧ RD w gb gn n (.slice xx n xc) V (fun _ => []) L lvs w')) := by
      refine (sortN w.heap.size _ vs w1 (by have := (unhide HV).2.2.1; have := unhide HNE; omega) hR.vr).mono ?_
      rintro e w' ⟨rfl, hh⟩
      obtain ⟨ys, y1, y2, y3, y4⟩ := unhide hh
      exact ⟨rfl, ys, y1, y2, hR.sorted y3 y4⟩
    clear hR HS
    go_wp2_with fail
    refine (unhide CSO).mono ?_
    rintro e w2 ⟨rfl, hh⟩
    obtain ⟨V, hVp, hVs, hR⟩ := unhide hh
    clear CSO c0 hh
    obtain ⟨c0, -, -⟩ := cellsG9 hR.box
    have HR := hide hR
    have HVV := hide (And.intro hVp hVs)
    clear hR hVp hVs
    go_upto_region 4 with fail
    have HNR : Hid (Near V 1) := fun i x y h1 => absurd h1 (by omega)
    go_loopw [7] (fun s7 wr => ∃ k q : Nat, s7 = .int .i64 (k : Nat) ∧ wr = w2.drewN q ∧ Hid (1 ≤ k ∧ (k ≤ n ∨ k = 1) ∧ Near V k)) (fun s7 _ => n - (intOf s7).toNat)
    case atStart => exact ⟨1, 0, rfl, rfl, Nat.le_refl _, .inr rfl, unhide HNR⟩
    case round =>
      obtain ⟨k, q, rfl, rfl, hk⟩ := hrel
      have hR := unhide HR
      obtain ⟨hVp, hVs⟩ := unhide HVV
      have hVl : V.length = n := by rw [hVp.length_eq, unhide HNE]
      by_cases hlt : k < n
      · obtain ⟨k1, hk1⟩ : ∃ k1, k = k1 + 1 := ⟨k - 1, by have := (unhide hk).1; omega⟩
        obtain ⟨x, hx⟩ : ∃ x, V[k1]? = some x := ⟨_, List.getElem?_eq_getElem (by omega)⟩
        obtain ⟨y, hy⟩ : ∃ y, V[k1 + 1]? = some y := ⟨_, List.getElem?_eq_getElem (by omega)⟩
        obtain ⟨gx, hgx⟩ := brow_some hR.vr (by omega)
        subst hgx
        have x1 := brow_at hR.vr hx
        have y1 := brow_at hR.vr hy
        rw [← hk1] at y1
        have z1 : (k : Int) < (n : Int) := by omega
        have z2 : (k1 : Int) < (n : Int) := by omega
        have hw : IntKind.i64.wrap ((k : Int) - 1) = (k1 : Int) := by rw [IntKind.wrap_i64]; have := (unhide HV).2.2.1; have := unhide HNE; omega
        have HB := hide (fun q2 => ((hR.drew q).drew q2).below)
        obtain ⟨kk, hkk⟩ : ∃ kk, kk = k + 1 := ⟨_, rfl⟩
        have zw : Hid (wrap64 ((k : Int) + 1) = (kk : Int)) := by have := (unhide HV).2.2.1; have := unhide HNE; show wrap64 ((k : Int) + 1) = (kk : Int); unfold wrap64; omega
        by_cases hxy : x = y
        · subst hxy
          have HG : Hid (¬ vs.Nodup) := fun hd => not_nodup_near hx hy (hVp.nodup_iff.2 hd)
          clear hx hy hR hVp hVs hVl hk hlt hk1 HR HNR hkk
          go_wp2_with fail
          go_quiet (fail)
          go_wp2_with fail
          go_ret2
          exact ⟨unhide HB _, .inl ⟨unhide HG, rfl⟩⟩
        · have hz : (y == x) = false := by simp; omega
          have HJ : Hid ((1 ≤ kk ∧ (kk ≤ n ∨ kk = 1) ∧ Near V kk) ∧ n - kk < n - k) := ⟨⟨by omega, .inl (by omega), fun i a b h1 h2 h3 => by
            by_cases e : i = k1
            · subst e
              rw [hx] at h2
              rw [hy] at h3
              injection h2 with h2
              injection h3 with h3
              rw [← h2, ← h3]; exact hxy
            · exact (unhide hk).2.2 i a b (by omega) h2 h3⟩, by omega⟩
          clear hx hy hR hVp hVs hVl hk hlt hk1 HNR hkk hxy HB
          go_wp2_with fail
          go_quiet (fail)
          go_wp2_with fail
          rw [unhide zw]
          refine ⟨⟨kk, _, rfl, rfl, (unhide HJ).1⟩, by have := (unhide HJ).2; simp [intOf]; omega⟩
      · have hVd : V.Nodup := nodup_near hVs (fun i a b h1 h2 => (unhide hk).2.2 i a b (by have := (List.getElem?_eq_some_iff.1 h2).1; omega) h1 h2)
        have hlt2 := sorted_lt hVs hVd
        have hR2 := hR.drew q
        have z1 : ¬ (k : Int) < (n : Int) := by omega
        have HR2 := hide (And.intro hR2 (And.intro hVp (And.intro hlt2 (And.intro (hVp.nodup_iff.1 hVd) hVl))))
        clear hR hVp hVs hVl hk hlt HR HNR hVd hlt2 hR2 HVV
        go_upto_region 9 with fail
        have HS2 : Hid (okArcs vs (arcs.take 0) ∧ ∃ L lvs, RD w gb gn n (.slice xx n xc) V (nextOf V (arcs.take 0)) L lvs (w2.drewN q)) := ⟨fun b hb => (by cases hb), L, lvs, (unhide HR2).1⟩
        have HV2 := hide (unhide HR2).2
        clear HR2 z1 c0
        generalize w2.drewN q = w3 at *
        go_loopw [53] (fun s53 wr => ∃ i : Nat, s53 = .int .i64 (i : Nat) ∧ i ≤ m ∧ Hid (okArcs vs (arcs.take i) ∧ ∃ L lvs, RD w gb gn n (.slice xx n xc) V (nextOf V (arcs.take i)) L lvs wr)) (fun s53 _ => m - (intOf s53).toNat)
        case atStart => exact ⟨0, rfl, Nat.zero_le _, HS2⟩
        case round =>
          obtain ⟨i, rfl, him, hI⟩ := hrel
          obtain ⟨hOk, L1, lv1, hR1⟩ := unhide hI
          by_cases hlt : i < m
          · have hml := unhide HME
            obtain ⟨⟨u, x⟩, hux⟩ : ∃ a, arcs[i]? = some a := ⟨_, List.getElem?_eq_getElem (by omega)⟩
            obtain ⟨ga, hga⟩ := (unhide HV).2.2.2.2 (by omega)
            subst hga
            obtain ⟨a1, a2⟩ := arow_at (arow_kept (unhide HV).2.1 hR1.below) hux
            have z1 : (i : Int) < (m : Int) := by omega
            have HR1 := hide hR1
            have HOK := hide hOk
            clear hR1 hI hOk him hlt hml HS2
            dsimp only at a1 a2
            go_upto_region 11 with fail
            change Code.wp _ _ _ _ (wr.alloc (oArc u x))
            have hb4 := below_new wr (oArc u x)
            have hR4 := (unhide HR1).grow hb4
            obtain ⟨x0, x1, -⟩ := cellsArc (heap_alloc_new wr (oArc u x))
            obtain ⟨c0, c1, -⟩ := cellsG9 hR4.box
            obtain ⟨hVp, hVlt, hVd, hVl⟩ := unhide HV2
            have hnb := (unhide HV).2.2.1
            have HCS : Hid (∀ W, RD w gb gn n (.slice xx n xc) V (nextOf V (arcs.take i)) L1 lv1 W → ∀ (k : Int) (q : Nat), Calls Tryz.prog 70 #[.slice xx n xc, .int .i64 k] (W.drewN q) fun e w' => e = .returned (.tuple #[.int .i64 (V.countP (fun x => decide (x < k)) : Nat), .bool (decide (k ∈ V))]) ∧ ∃ q2, w' = W.drewN q2) := fun W hW k q => Calls.quiet_of (searchI k _ (brow_at0 (hW.drew q).vr) (by omega) hVlt)
            have HR4 := hide hR4
            clear HR1 a1 a2 hb4 hR4 hnb
            generalize wr.alloc (oArc u x) = w4 at *
            generalize wr.heap.size = ab at *
            by_cases hu : u ∈ V
            · by_cases hx : x ∈ V
              · have HU := hide (And.intro hu (And.intro hx hux))
                have CS1 := hide (unhide HCS w4 (unhide HR4) u)
                rw [decide_eq_true hu, countP_idx hVlt hu] at CS1
                generalize V.countP (fun y => decide (y < u)) = pu at *
                clear hVp hVlt hVd hVl z1 hu
                go_quiet ((go_at_call 70; exact unhide CS1 _))
                have hR5 := (unhide HR4).drew nq
                have x1' : (w4.drewN nq).cell? ⟨ab, 1, none⟩ = some (.int .i64 x) := x1
                clear x0 x1 c0 c1 CS1 HR4
                generalize w4.drewN nq = w5 at *
                obtain ⟨c0, c1, -⟩ := cellsG9 hR5.box
                have HR5 := hide hR5
                have CS2 := hide (unhide HCS w5 hR5 x)
                clear hR5 HCS
                rw [decide_eq_true hx, countP_idx (unhide HV2).2.1 hx] at CS2
                clear hx hux
                go_wp2_with fail
                go_quiet ((go_at_call 70; exact unhide CS2 _))
                have hR6 := (unhide HR5).drew nq
                clear CS2 c0 c1 x1' HR5
                generalize w5.drewN nq = w6 at *
                have HR6 := hide hR6
                clear hR6
                go_upto_region 15 with fail
                obtain ⟨hu, hx, hux⟩ := unhide HU
                obtain ⟨hVp, hVlt, hVd, hVl⟩ := unhide HV2
                have hpn : V.idxOf u < n := by rw [← hVl]; exact List.idxOf_lt_length_of_mem hu
                obtain ⟨n1, n2⟩ := nextOf_snoc hVlt hux hu
                obtain ⟨z, zn, zc, z', zn', zc', w8, k6, r8, b7, k7, b8, k8, f8, hG⟩ := ((unhide HR6).drew 1).arc hpn (by have h1 := nextOf_len V (arcs.take i) (V.idxOf u); have h2 := (unhide HV).2.2.2.1; have h3 := unhide HME; rw [List.length_take] at h1; omega) n1 n2
                have c6 : w6.drew.cell? ⟨gb, 1, none⟩ = some (.slice (some ⟨gn, 0, none⟩) n n) := (cellsG9 ((unhide HR6).drew 1).box).2.1
                have k6' : w6.drew.cell? ⟨gn, V.idxOf u, none⟩ = some (.slice z zn zc) := k6
                have r8' : ∀ ty, (Builtin.append_ #[25, 25] ty #[.slice z zn zc, .slice (some ⟨w6.drew.heap.size, 0, none⟩) 1 1]).run Tryz.prog (w6.drew.alloc (.cells #[.int .i64 (V.idxOf x : Nat)] 3)) = .ok (.slice z' zn' zc') w8 := r8
                have c7 : (w6.drew.alloc (.cells #[.int .i64 (V.idxOf x : Nat)] 3)).cell? ⟨gb, 1, none⟩ = some (.slice (some ⟨gn, 0, none⟩) n n) := (cellsG9 b7).2.1
                have k7' : (w6.drew.alloc (.cells #[.int .i64 (V.idxOf x : Nat)] 3)).cell? ⟨gn, V.idxOf u, none⟩ = some (.slice z zn zc) := k7
                have c8 := (cellsG9 b8).2.1
                have HR8 := hide r8'
                have HJ : Hid ((okArcs vs (arcs.take (i + 1)) ∧ ∃ L lvs, RD w gb gn n (.slice xx n xc) V (nextOf V (arcs.take (i + 1))) L lvs (w8.setCell ⟨gn, V.idxOf u, none⟩ (.slice z' zn' zc'))) ∧ i + 1 ≤ m ∧ m - (i + 1) < m - i) := by
                  have hi : i < m := by have := unhide HME; have := (List.getElem?_eq_some_iff.1 hux).1; omega
                  refine ⟨⟨?_, hG⟩, by omega, by omega⟩
                  rw [take_snoc hux]
                  exact okArcs_snoc (unhide HOK) (hVp.mem_iff.1 hu) (hVp.mem_iff.1 hx)
                have zp : ((V.idxOf u : Nat) : Int) < (n : Int) := by omega
                obtain ⟨i1, hi1⟩ : ∃ i1, i1 = i + 1 := ⟨_, rfl⟩
                have zw : Hid (wrap64 ((i : Int) + 1) = (i1 : Int)) := by have := (unhide HJ).2.1; have := (unhide HV).2.2.2.1; show wrap64 ((i : Int) + 1) = (i1 : Int); unfold wrap64; omega
                rw [← hi1] at HJ
                generalize V.idxOf u = pu at *
                generalize V.idxOf x = px at *
                clear hu hx hux hVp hVlt hVd hVl hpn n1 n2 k6 r8 b7 k7 b8 hG HU HR6 HOK hi1 r8'
                refine wp_region_noPanic ?_
                refine regionL [16] (fun y => y.cell? ⟨gb, 1, none⟩ = some (.slice (some ⟨gn, 0, none⟩) n n) ∧ y.cell? ⟨gn, pu, none⟩ = some (.slice z zn zc)) (by kernel_rfl) ⟨c6, k6'⟩ (fun hHeld => ?_)
                refine takeL (i := 0) (v := ?t11v0) (some 83) rfl rfl (by kernel_rfl) (by kernel_rfl) (by kernel_rfl) (by kernel_rfl) (by kernel_rfl) (fun _ _ _ h => h) (Or.inl ⟨by rfl, ?t11h0⟩) (by assumption) ?t11r0
                case t11h0 => (intro y hSu; (try dsimp only at hSu); go_simp; first | done | with_reducible rfl)
                (try simp only [Act.put, List.setIfInBounds_toArray, List.set_cons_zero, List.set_cons_succ])
                refine takeL (i := 1) (v := ?t11v1) (some 84) rfl rfl (by kernel_rfl) (by kernel_rfl) (by kernel_rfl) (by kernel_rfl) (by kernel_rfl) (fun _ _ _ h => h) (Or.inl ⟨by rfl, ?t11h1⟩) (by assumption) ?t11r1
                case t11h1 => (intro y hSu; (try dsimp only at hSu); go_simp; first | done | with_reducible rfl)
                (try simp only [Act.put, List.setIfInBounds_toArray, List.set_cons_zero, List.set_cons_succ])
                refine takeL (i := 2) (v := ?t11v2) (some 85) rfl rfl (by kernel_rfl) (by kernel_rfl) (by kernel_rfl) (by kernel_rfl) (by kernel_rfl) (fun _ _ _ h => h) (Or.inl ⟨by rfl, ?t11h2⟩) (by assumption) ?t11r2
                case t11h2 => (intro y hSu; (try dsimp only at hSu); go_simp; first | done | with_reducible rfl)
                (try simp only [Act.put, List.setIfInBounds_toArray, List.set_cons_zero, List.set_cons_succ])
                refine takeL (i := 3) (v := ?t11v3) (some 86) rfl rfl (by kernel_rfl) (by kernel_rfl) (by kernel_rfl) (by kernel_rfl) (by kernel_rfl) (fun _ _ _ h => h) (Or.inl ⟨by rfl, ?t11h3⟩) (by assumption) ?t11r3
                case t11h3 => (intro y hSu; (try dsimp only at hSu); go_simp; first | done | with_reducible rfl)
                (try simp only [Act.put, List.setIfInBounds_toArray, List.set_cons_zero, List.set_cons_succ])
                refine takeL (i := 4) (v := ?t11v4) (some 87) rfl rfl (by kernel_rfl) (by kernel_rfl) (by kernel_rfl) (by kernel_rfl) (by kernel_rfl) (fun _ _ _ h => h) (Or.inl ⟨by rfl, ?t11h4⟩) (by assumption) ?t11r4
                case t11h4 => (intro y hSu; (try dsimp only at hSu); go_simp; first | done | with_reducible rfl)
                (try simp only [Act.put, List.setIfInBounds_toArray, List.set_cons_zero, List.set_cons_succ])
                refine takeL (i := 5) (v := ?t11v5) (some 88) rfl rfl (by kernel_rfl) (by kernel_rfl) (by kernel_rfl) (by kernel_rfl) (by kernel_rfl) (fun _ _ _ h => h) (Or.inl ⟨by rfl, ?t11h5⟩) (by assumption) ?t11r5
                case t11h5 => (intro y hSu; (try dsimp only at hSu); go_simp; first | done | with_reducible rfl)
                (try simp only [Act.put, List.setIfInBounds_toArray, List.set_cons_zero, List.set_cons_succ])
                refine takeL (i := 6) (v := ?t11v6) (some 89) rfl rfl (by kernel_rfl) (by kernel_rfl) (by kernel_rfl) (by kernel_rfl) (by kernel_rfl) (fun _ _ _ h => h) (Or.inl ⟨by rfl, ?t11h6⟩) (by assumption) ?t11r6
                case t11h6 => (intro y hSu; (try dsimp only at hSu); go_simp; first | done | with_reducible rfl)
                (try simp only [Act.put, List.setIfInBounds_toArray, List.set_cons_zero, List.set_cons_succ])
                refine takeL (i := 7) (v := ?t11v7) (some 90) rfl rfl (by kernel_rfl) (by kernel_rfl) (by kernel_rfl) (by kernel_rfl) (by kernel_rfl) (fun _ _ _ h => h) (Or.inl ⟨by rfl, ?t11h7⟩) (by assumption) ?t11r7
                case t11h7 => (intro y hSu; (try dsimp only at hSu); go_simp; first | done | with_reducible rfl)
                (try simp only [Act.put, List.setIfInBounds_toArray, List.set_cons_zero, List.set_cons_succ])
                refine takeL (i := 8) (v := ?t11v8) (some 91) rfl rfl (by kernel_rfl) (by kernel_rfl) (by kernel_rfl) (by kernel_rfl) (by kernel_rfl) (fun _ _ _ h => h) (Or.inl ⟨by rfl, ?t11h8⟩) (by assumption) ?t11r8
                case t11h8 => (intro y hSu; (try dsimp only at hSu); go_simp; first | done | with_reducible rfl)
                (try simp only [Act.put, List.setIfInBounds_toArray, List.set_cons_zero, List.set_cons_succ])
                refine takeL (i := 9) (v := ?t11v9) (some 92) rfl rfl (by kernel_rfl) (by kernel_rfl) (by kernel_rfl) (by kernel_rfl) (by kernel_rfl) (fun _ _ _ h => h) (Or.inl ⟨by rfl, ?t11h9⟩) (by assumption) ?t11r9
                case t11h9 => (intro y hSu; (try dsimp only at hSu); go_simp; first | done | with_reducible rfl)
                (try simp only [Act.put, List.setIfInBounds_toArray, List.set_cons_zero, List.set_cons_succ])
                refine takeL (i := 10) (v := ?t11v10) (some 93) rfl rfl (by kernel_rfl) (by kernel_rfl) (by kernel_rfl) (by kernel_rfl) (by kernel_rfl) (fun _ _ _ h => h) (Or.inl ⟨by rfl, ?t11h10⟩) (by assumption) ?t11r10
                case t11h10 => (intro y hSu; (try dsimp only at hSu); go_simp; first | done | with_reducible rfl)
                (try simp only [Act.put, List.setIfInBounds_toArray, List.set_cons_zero, List.set_cons_succ])
                refine takeL (i := 11) (v := ?t11v11) (some 94) rfl rfl (by kernel_rfl) (by kernel_rfl) (by kernel_rfl) (by kernel_rfl) (by kernel_rfl) (fun _ _ _ h => h) (Or.inl ⟨by rfl, ?t11h11⟩) (by assumption) ?t11r11
                case t11h11 => (intro y hSu; (try dsimp only at hSu); go_simp; first | done | with_reducible rfl)
                (try simp only [Act.put, List.setIfInBounds_toArray, List.set_cons_zero, List.set_cons_succ])
                refine takeL (i := 12) (v := ?t11v12) (some 95) rfl rfl (by kernel_rfl) (by kernel_rfl) (by kernel_rfl) (by kernel_rfl) (by kernel_rfl) (fun _ _ _ h => h) (Or.inl ⟨by rfl, ?t11h12⟩) (by assumption) ?t11r12
                case t11h12 => (intro y hSu; (try dsimp only at hSu); go_simp; first | done | with_reducible rfl)
                (try simp only [Act.put, List.setIfInBounds_toArray, List.set_cons_zero, List.set_cons_succ])
                refine readyL (i := 13) (by kernel_rfl) rfl (fun K hK => ?_)
                go_simp
                refine hK.out _ _ (fun _ => (And.intro c7 k7')) ?_
                clear hK K
                (try simp only [Act.put, List.setIfInBounds_toArray, List.set_cons_zero, List.set_cons_succ])
                have hH13 := (And.intro c7 k7')
                refine readyL (i := 14) (by kernel_rfl) rfl (fun K hK => ?_)
                refine step_append_run rfl (.tmp 94) (.tmp 96) 25 rfl _ _ (by simp [Act.eval]) (by simp [Act.eval]) _ _ (unhide HR8 _) ?_
                refine hK.out _ _ (fun _ => (And.intro c8 k8)) ?_
                clear hK K
                (try simp only [Act.put, List.setIfInBounds_toArray])
                have hH14 := (And.intro c8 k8)
                refine takeL (i := 15) (v := ?t15v15) (some 98) rfl rfl (by kernel_rfl) (by kernel_rfl) (by kernel_rfl) (by kernel_rfl) (by kernel_rfl) (fun _ _ _ h => h) (Or.inl ⟨by rfl, ?t15h15⟩) (by assumption) ?t15r15
                case t15h15 => (intro y hSu; (try dsimp only at hSu); go_simp; first | done | with_reducible rfl)
                (try simp only [Act.put])
                refine readyL (i := 16) (by kernel_rfl) rfl (fun K hK => ?_)
                go_simp
                refine hK.out _ _ (fun h => by cases h) ?_
                clear hK K
                (try simp only [Act.put, List.setIfInBounds_toArray, List.set_cons_zero, List.set_cons_succ])
                refine doneL (by kernel_rfl) ?_ _
                refine NoPanic.normal ?_
                go_wp2_with fail
                rw [unhide zw]
                exact ⟨⟨i1, rfl, (unhide HJ).2.1, (unhide HJ).1⟩, by have := (unhide HJ).2.2; simp [intOf]; omega⟩
              · have HNO : Hid (¬ okArcs vs arcs) := fun h => hx (hVp.mem_iff.2 (h (u, x) (List.mem_of_getElem? hux)).2)
                have CS1 := hide (unhide HCS w4 (unhide HR4) u)
                rw [decide_eq_true hu] at CS1
                generalize V.countP (fun y => decide (y < u)) = pu at *
                clear hVp hVlt hVd hVl z1 hu
                go_quiet ((go_at_call 70; exact unhide CS1 _))
                have hR5 := (unhide HR4).drew nq
                have x1' : (w4.drewN nq).cell? ⟨ab, 1, none⟩ = some (.int .i64 x) := x1
                clear x0 x1 c0 c1 CS1 HR4
                generalize w4.drewN nq = w5 at *
                obtain ⟨c0, c1, -⟩ := cellsG9 hR5.box
                have HR5 := hide hR5
                have CS2 := hide (unhide HCS w5 hR5 x)
                clear hR5 HCS
                rw [decide_eq_false hx] at CS2
                generalize V.countP (fun y => decide (y < x)) = px at *
                clear hx hux
                go_wp2_with fail
                go_quiet ((go_at_call 70; exact unhide CS2 _))
                go_wp2_with fail
                go_ret2
                exact ⟨((unhide HR5).drew _).below, .inr (.inl ⟨(unhide HV2).2.2.1, unhide HNO, rfl⟩)⟩
            · have HNO : Hid (¬ okArcs vs arcs) := fun h => hu (hVp.mem_iff.2 (h (u, x) (List.mem_of_getElem? hux)).1)
              have CS1 := hide (unhide HCS w4 (unhide HR4) u)
              rw [decide_eq_false hu] at CS1
              generalize V.countP (fun y => decide (y < u)) = pu at *
              clear hVp hVlt hVd hVl z1 hu
              go_quiet ((go_at_call 70; exact unhide CS1 _))
              have hR5 := (unhide HR4).drew nq
              have x1' : (w4.drewN nq).cell? ⟨ab, 1, none⟩ = some (.int .i64 x) := x1
              clear x0 x1 c0 c1 CS1 HR4
              generalize w4.drewN nq = w5 at *
              obtain ⟨c0, c1, -⟩ := cellsG9 hR5.box
              have HR5 := hide hR5
              have CS2 := hide (unhide HCS w5 hR5 x)
              clear hR5 HCS
              generalize decide (x ∈ V) = bx at *
              generalize V.countP (fun y => decide (y < x)) = px at *
              clear hux
              go_wp2_with fail
              go_quiet ((go_at_call 70; exact unhide CS2 _))
              go_wp2_with fail
              go_ret2
              exact ⟨((unhide HR5).drew _).below, .inr (.inl ⟨(unhide HV2).2.2.1, unhide HNO, rfl⟩)⟩
          · have z1 : ¬ (i : Int) < (m : Int) := by omega
            have HG : Hid (okArcs vs arcs ∧ ∃ L lvs, RD w gb gn n (.slice xx n xc) V (nextOf V arcs) L lvs wr) := by
              have h2 := unhide HME
              rw [List.take_of_length_le (by omega)] at hI
              exact hI
            clear hOk hR1 hI him hlt HS2
            go_wp2_with fail
            go_ret2
            obtain ⟨g1, g2, g3, g4⟩ := unhide HG
            obtain ⟨hVp, hVlt, hVd, hVl⟩ := unhide HV2
            exact ⟨g4.below, .inr (.inr ⟨hVd, g1, gb, V, rfl, hVp, hVlt, gn, _, _, _, by rw [hVl]; exact g4⟩)⟩
end

section
open Go.RowKit Go.Maps T9
/-- The vertices at some places. -/
def cv (V : List Int) (c : List Nat) : List Int := c.map (fun p => V.getD p 0)
def compsV (V : List Int) (h : Nat → Nat) (k : Nat) : List (List Int) := (compsTo h k).map (cv V)
theorem compsV_len (V : List Int) (h : Nat → Nat) (k : Nat) : (compsV V h k).length = (headsTo h k).length := by unfold compsV; rw [List.length_map, compsTo_length]
theorem headsTo_le (h : Nat → Nat) (k : Nat) : (headsTo h k).length ≤ k := by
  have := List.length_filter_le (fun p => decide (h p = p)) (List.range k)
  rw [List.length_range] at this; exact this
theorem partTo_le (h : Nat → Nat) (k m : Nat) : (partTo h k m).length ≤ k := by
  have := List.length_filter_le (fun p => decide (h p = m)) (List.range k)
  rw [List.length_range] at this; exact this
theorem compsV_new {V : List Int} {h : Nat → Nat} (hle : ∀ p, h p ≤ p) {k : Nat} (hk : h k = k) : (compsV V h k ++ [[]]).set (headsTo h k).length [V.getD k 0] = compsV V h (k + 1) := by
  rw [← compsV_len V h k, List.set_append_right _ _ (Nat.le_refl _), Nat.sub_self]
  unfold compsV
  rw [compsTo_new hle hk, List.map_append]; rfl
theorem compsV_old {V : List Int} {h : Nat → Nat} (hle : ∀ p, h p ≤ p) {k : Nat} (hk : h k ≠ k) (hh : h (h k) = h k) : (compsV V h k)[(headsTo h (h k)).length]? = some (cv V (partTo h k (h k))) ∧ (compsV V h k).set (headsTo h (h k)).length (cv V (partTo h k (h k)) ++ [V.getD k 0]) = compsV V h (k + 1) := by
  obtain ⟨l1, l2, e1, e2, e3⟩ := compsTo_old hle hk hh
  have e4 : (l1.map (cv V)).length = (headsTo h (h k)).length := by rw [List.length_map, e2]
  unfold compsV
  rw [e1, e3, List.map_append, List.map_append, List.map_cons, List.map_cons, ← e4]
  refine ⟨?_, ?_⟩
  · rw [List.getElem?_append_right (Nat.le_refl _), Nat.sub_self]; rfl
  · rw [List.set_append_right _ _ (Nat.le_refl _), Nat.sub_self]
    simp [cv]
/-- A graph, as it is read. -/
structure GAt (w : World) (gb : Nat) (vv nv : Value) (V : List Int) (nx : Nat → List Nat) : Prop where
  box : w.heap[gb]? = some (oG9 vv nv)
  vr : NRow w vv V
  nx : NxAt w nv V.length nx
theorem GM.at_ {w0 w : World} {gb : Nat} {V : List Int} {nx : Nat → List Nat} (h : GM w0 gb V nx w) : ∃ vv nv, GAt w gb vv nv V nx := by
  obtain ⟨gn, vv, L, vs, hR⟩ := h
  exact ⟨vv, _, hR.box, brow_at0 hR.vr, hR.ll.nx⟩
theorem NxAt.below {w w' : World} {nv : Value} {n : Nat} {nx : Nat → List Nat} (h : NxAt w nv n nx) (hb : Below w.heap.size w w') : NxAt w' nv n nx := by
  obtain ⟨gn, cn, e, h1, h2, h3⟩ := h
  refine ⟨gn, cn, e, Nat.lt_of_lt_of_le h1 hb.size, h2, fun p hp => ?_⟩
  obtain ⟨v, v1, v2⟩ := h3 p hp
  exact ⟨v, (hb.cell (p := ⟨gn, p, none⟩) h1).trans v1, nrow_below v2 hb⟩
theorem GAt.below {w w' : World} {gb : Nat} {vv nv : Value} {V : List Int} {nx : Nat → List Nat} (h : GAt w gb vv nv V nx) (hb : Below w.heap.size w w') : GAt w' gb vv nv V nx :=
  ⟨(hb.block gb (heap_lt h.box)).trans h.box, nrow_below h.vr hb, h.nx.below hb⟩
/-- What components has made so far. -/
structure CM (w0 : World) (n : Nat) (wh hvv : Value) (h : Nat → Nat) (f : Nat → Int) (L : Nat → Nat) (lv : Value) (lvs : List Value) (xss : List (List Int)) (w : World) : Prop where
  ll : LLat w0.heap.size L 10 w lv lvs xss
  wr : BRow w0.heap.size w wh (rowI n f)
  hr : BRow w0.heap.size w hvv (rowI n (fun p => ((h p : Nat) : Int)))
  l2 : ∀ b, wh.ownBlock = some b → L b = 2
  l3 : ∀ b, hvv.ownBlock = some b → L b = 3
  below : Below w0.heap.size w0 w
section
variable {w0 w w' : World} {n : Nat} {wh hvv lv : Value} {h : Nat → Nat} {f : Nat → Int} {L : Nat → Nat} {lvs : List Value} {xss : List (List Int)}
theorem CM.drew (hC : CM w0 n wh hvv h f L lv lvs xss w) (q : Nat) : CM w0 n wh hvv h f L lv lvs xss (w.drewN q) :=
  ⟨hC.ll.kept (fun _ _ _ => rfl), brow_kept hC.wr (fun _ _ => rfl), brow_kept hC.hr (fun _ _ => rfl), hC.l2, hC.l3, ⟨hC.below.os, hC.below.tape, hC.below.output, hC.below.size, hC.below.block⟩⟩
theorem CM.setW (hC : CM w0 n wh hvv h f L lv lvs xss w) {g m c p : Nat} (e : wh = .slice (some ⟨g, 0, none⟩) m c) (hp : p < m) (x : Int) : CM w0 n wh hvv h (fun y => if y = p then x else f y) L lv lvs xss (w.setCell ⟨g, p, none⟩ (.int .i64 x)) := by
  have hk : ∀ b, L b ≠ 2 → (w.setCell ⟨g, p, none⟩ (.int .i64 x)).heap[b]? = w.heap[b]? := fun b hL => heap_setCell_other _ _ _ _ (fun q => hL (hC.l2 b (by rw [e, q]; rfl)))
  have h1 := hC.wr
  rw [e] at h1
  have h2 := (brow_set h1 (k := p) x hp).2
  rw [rowI_set, ← e] at h2
  exact ⟨hC.ll.kept (fun b _ hL => hk b (by omega)), h2, brow_kept hC.hr (fun b eb => hk b (by rw [hC.l3 b eb]; decide)), hC.l2, hC.l3, hC.below.setCell (row_own hC.wr e).1 _⟩
/-- One empty list more. -/
theorem CM.push (hC : CM w0 n wh hvv h f L lv lvs xss w) (hl : xss.length ≤ 1000000) : ∃ x m c w', (∀ ty, (Builtin.append_ #[71, 71] ty #[lv, .slice (some ⟨w.heap.size, 0, none⟩) 1 1]).run Tryz.prog (w.alloc (.cells #[.slice none 0 0] 25)) = .ok (.slice x m c) w') ∧ CM w0 n wh hvv h f (lab L w.heap.size 10) (.slice x m c) (lvs ++ [.slice none 0 0]) (xss ++ [[]]) w' := by
  obtain ⟨x, m, c, w', r, h1, ht⟩ := hC.ll.push hC.below.size hl
  refine ⟨x, m, c, w', r, h1, brow_kept hC.wr (fun b e => ht.block b (hC.wr.lt b e).2 (fun q => by have := hC.ll.lo b q; have := hC.l2 b e; omega)), brow_kept hC.hr (fun b e => ht.block b (hC.hr.lt b e).2 (fun q => by have := hC.ll.lo b q; have := hC.l3 b e; omega)), fun b e => (if_pos (hC.wr.lt b e).2).trans (hC.l2 b e), fun b e => (if_pos (hC.hr.lt b e).2).trans (hC.l3 b e), hC.below.trans (ht.below hC.below.size (fun k e => (hC.ll.outlt e).1))⟩
/-- One number more at the end of a list. -/
theorem CM.put {gl m c i : Nat} {ks : List Int} (hC : CM w0 n wh hvv h f L (.slice (some ⟨gl, 0, none⟩) m c) lvs xss w) (hi : xss[i]? = some ks) (hl : ks.length ≤ 1000000) (y : Int) :
    ∃ x xn xc x' xn' xc' w', w.cell? ⟨gl, i, none⟩ = some (.slice x xn xc) ∧ (∀ ty, (Builtin.append_ #[25, 25] ty #[.slice x xn xc, .slice (some ⟨w.heap.size, 0, none⟩) 1 1]).run Tryz.prog (w.alloc (.cells #[.int .i64 y] 3)) = .ok (.slice x' xn' xc') w') ∧
      (w.alloc (.cells #[.int .i64 y] 3)).cell? ⟨gl, i, none⟩ = some (.slice x xn xc) ∧ w'.cell? ⟨gl, i, none⟩ = some (.slice x xn xc) ∧ (∀ o, w'.frozen? ⟨gl, o, none⟩ = false) ∧ Below w0.heap.size w0 w' ∧
      ∃ L' lvs', CM w0 n wh hvv h f L' (.slice (some ⟨gl, 0, none⟩) m c) lvs' (xss.set i (ks ++ [y])) (w'.setCell ⟨gl, i, none⟩ (.slice x' xn' xc')) := by
  obtain ⟨xv, hx, hr⟩ := hC.ll.inrow hi
  obtain ⟨x, xc, rfl, -⟩ := brow_shape hr
  obtain ⟨x', xn', xc', w', r, hr', ht, hn⟩ := run_app8 y hr hC.below.size (by omega)
  have hb1 := below_new w (.cells #[.int .i64 y] 3)
  have hLx : ∀ b, (Value.slice x ks.length xc).ownBlock = some b → L b = 10 + 1 + i := fun b e => hC.ll.li i _ b hx e
  have hkn : w'.heap[gl]? = w.heap[gl]? := ht.block gl (hC.ll.outlt rfl).2 (fun e => by have := hLx gl e; have := hC.ll.lo gl rfl; omega)
  have hcell := hC.ll.cell hx
  have h3 := hC.ll.put hx ht hr' hn
  have hB : Below w0.heap.size w0 w' := hC.below.trans (ht.below hC.below.size (fun k e => (hC.ll.inlt hx e).1))
  have hoth : ∀ b, L b ≠ 10 → L b ≠ 10 + 1 + i → b < w.heap.size → (w'.setCell ⟨gl, i, none⟩ (.slice x' xn' xc')).heap[b]? = w.heap[b]? := fun b q1 q2 q3 => (heap_setCell_other _ _ _ _ (fun q => q1 (by rw [show b = gl from q]; exact hC.ll.lo gl rfl))).trans (ht.block b q3 (fun q => q2 (hLx b q)))
  refine ⟨x, _, xc, x', xn', xc', w', hcell, r, (hC.ll.below hb1).cell hx, (cell_of_heap (x := ⟨gl, i, none⟩) hkn).trans hcell, ?_, hB, lab L w.heap.size (10 + 1 + i), lvs.set i (.slice x' xn' xc'), ⟨h3, ?_, ?_, ?_, ?_, ?_⟩⟩
  · intro o
    rw [World.frozen?_of_block (w := w) hkn]
    exact hC.ll.frozen o
  · exact brow_kept hC.wr (fun b e => hoth b (by rw [hC.l2 b e]; decide) (by rw [hC.l2 b e]; omega) (hC.wr.lt b e).2)
  · exact brow_kept hC.hr (fun b e => hoth b (by rw [hC.l3 b e]; decide) (by rw [hC.l3 b e]; omega) (hC.hr.lt b e).2)
  · exact fun b e => (if_pos (hC.wr.lt b e).2).trans (hC.l2 b e)
  · exact fun b e => (if_pos (hC.hr.lt b e).2).trans (hC.l3 b e)
  · exact hB.setCell (hC.ll.outlt (b := gl) rfl).1 _
end
/-- At the k-th place. -/
def CMk (w0 : World) (V : List Int) (wh hvv : Value) (h : Nat → Nat) (k : Nat) (lv : Value) (w : World) : Prop := ∃ f L lvs, CM w0 V.length wh hvv h f L lv lvs (compsV V h k) w ∧ ∀ m, m < k → h m = m → f m = ((headsTo h m).length : Nat)
/-- A list of lists of new memory. -/
def LLs (w0 : World) (v : Value) (xss : List (List Int)) (w : World) : Prop := ∃ L lvs, LLat w0.heap.size L 10 w v lvs xss
end

end Go.Proofs.YtkmhcgmmbkchaaaGreat
