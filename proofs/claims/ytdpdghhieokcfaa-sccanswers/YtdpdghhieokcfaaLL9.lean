/- Lists of lists in memory; arcs; what is cloned and searched. -/
import Derived.Test.YtdpdghhieokcfaaSea97
namespace Go.Proofs.Ytdpdghhieokcfaa
open Go.RowKit Go.Maps T9
/-- A list of lists, from B on: the outer block is a's, the i-th inner one a + 1 + i's. -/
structure LLat (B : Nat) (L : Nat → Nat) (a : Nat) (w : World) (v : Value) (vs : List Value) (xss : List (List Int)) : Prop where
  outer : w.ownsRow B 22 1 v xss.length vs
  inner : ∀ (i : Nat) (x : Value) (ks : List Int), vs[i]? = some x → xss[i]? = some ks → BRow B w x ks
  lo : ∀ b, v.ownBlock = some b → L b = a
  li : ∀ (i : Nat) (x : Value) (b : Nat), vs[i]? = some x → x.ownBlock = some b → L b = a + 1 + i
section
variable {B a : Nat} {L : Nat → Nat} {w w' : World} {v : Value} {vs : List Value} {xss : List (List Int)}
theorem LLat.len (h : LLat B L a w v vs xss) : vs.length = xss.length := by have := h.outer.1; omega
theorem LLat.shape (h : LLat B L a w v vs xss) : ∃ x c, v = .slice x xss.length c ∧ xss.length ≤ c := by
  rcases h.outer.2 with ⟨e, h0⟩ | ⟨g', cap, cur, e, -, -, hc, -⟩
  · exact ⟨none, 0, by rw [e, h0], by omega⟩
  · exact ⟨_, _, e, hc⟩
theorem LLat.some_ {x : Option Addr} {n c : Nat} (h : LLat B L a w (.slice x n c) vs xss) (h0 : 0 < xss.length) : ∃ g, x = some ⟨g, 0, none⟩ := by
  rcases h.outer.2 with ⟨e, h1⟩ | ⟨g', cap, cur, e, -⟩
  · omega
  · injection e with e1; exact ⟨g', e1⟩
theorem LLat.inrow (h : LLat B L a w v vs xss) {i : Nat} {ks : List Int} (hi : xss[i]? = some ks) : ∃ x, vs[i]? = some x ∧ BRow B w x ks := by
  have hl : i < vs.length := by rw [h.len]; exact (List.getElem?_eq_some_iff.1 hi).1
  exact ⟨vs[i], List.getElem?_eq_getElem hl, h.inner i _ ks (List.getElem?_eq_getElem hl) hi⟩
theorem LLat.cell {g n c : Nat} (h : LLat B L a w (.slice (some ⟨g, 0, none⟩) n c) vs xss) {i : Nat} {x : Value} (hi : vs[i]? = some x) : w.cell? ⟨g, i, none⟩ = some x := by
  have := h.outer.cells (g := g) rfl i x hi
  rwa [show (⟨g, 0, none⟩ : Addr).add i = ⟨g, i, none⟩ by unfold Addr.add; split <;> simp_all] at this
theorem LLat.frozen {g n c : Nat} (h : LLat B L a w (.slice (some ⟨g, 0, none⟩) n c) vs xss) : ∀ o, w.frozen? ⟨g, o, none⟩ = false := by
  rcases h.outer.2 with ⟨e, -⟩ | ⟨g', cap, cur, e, -, hg, -⟩
  · cases e
  · injection e with e1 _ _
    injection e1 with e1
    injection e1 with e1
    subst e1
    exact fun o => frozen_of_row _ _ o _ _ hg
theorem LLat.kept (h : LLat B L a w v vs xss) (hk : ∀ b, b < w.heap.size → a ≤ L b → w'.heap[b]? = w.heap[b]?) : LLat B L a w' v vs xss := by
  refine ⟨⟨h.outer.1, ?_⟩, fun i x ks h1 h2 => brow_kept (h.inner i x ks h1 h2) (fun b e => hk b ((h.inner i x ks h1 h2).lt b e).2 (by rw [h.li i x b h1 e]; omega)), h.lo, h.li⟩
  rcases h.outer.2 with hn | ⟨g, cap, cur, e, hb, hgg, rest⟩
  · exact .inl hn
  · exact .inr ⟨g, cap, cur, e, hb, (hk g (heap_lt hgg) (by rw [h.lo g (by rw [e]; rfl)]; exact Nat.le_refl _)).trans hgg, rest⟩
theorem LLat.outlt (h : LLat B L a w v vs xss) {b : Nat} (e : v.ownBlock = some b) : B ≤ b ∧ b < w.heap.size := h.outer.lt b e
theorem LLat.inlt (h : LLat B L a w v vs xss) {i b : Nat} {x : Value} (hi : vs[i]? = some x) (e : x.ownBlock = some b) : B ≤ b ∧ b < w.heap.size := by
  have hl : i < xss.length := by rw [← h.len]; exact (List.getElem?_eq_some_iff.1 hi).1
  exact (h.inner i x _ hi (List.getElem?_eq_getElem hl)).lt b e
theorem LLat.named (h : LLat B L a w v vs xss) (k : Nat) : LLat B (lab L w.heap.size k) a w v vs xss :=
  ⟨h.outer, h.inner, fun b e => (if_pos (h.outlt e).2).trans (h.lo b e), fun i x b hi e => (if_pos (h.inlt hi e).2).trans (h.li i x b hi e)⟩
theorem LLat.below (h : LLat B L a w v vs xss) (hb : Below w.heap.size w w') : LLat B L a w' v vs xss := h.kept (fun b hl _ => hb.block b hl)
/-- An inner list stored anew. -/
theorem LLat.put {g n c i : Nat} {x x' : Value} {ks : List Int} (h : LLat B L a w (.slice (some ⟨g, 0, none⟩) n c) vs xss) (hi : vs[i]? = some x) (ht : Turned (fun b => x.ownBlock = some b) w w') (hr : BRow B w' x' ks) (hn : ∀ b, x'.ownBlock = some b → x.ownBlock = some b ∨ w.heap.size ≤ b) :
    LLat B (lab L w.heap.size (a + 1 + i)) a (w'.setCell ⟨g, i, none⟩ x') (.slice (some ⟨g, 0, none⟩) n c) (vs.set i x') (xss.set i ks) := by
  have hil : i < vs.length := (List.getElem?_eq_some_iff.1 hi).1
  have hlen := h.len
  have h2 := h.named (a + 1 + i)
  have hg : lab L w.heap.size (a + 1 + i) g = a := h2.lo g rfl
  have hnew : ∀ b, x'.ownBlock = some b → lab L w.heap.size (a + 1 + i) b = a + 1 + i := fun b e => by
    rcases hn b e with q | q
    · exact h2.li i x b hi q
    · exact if_neg (by omega)
  have hgt : w'.heap[g]? = w.heap[g]? := ht.block g (h.outlt rfl).2 (fun e => by have := h2.li i x g hi e; omega)
  refine ⟨⟨by rw [List.length_set, List.length_set]; omega, ?_⟩, fun j y ls h3 h4 => ?_, h2.lo, fun j y b h3 e => ?_⟩
  · rcases h.outer.2 with ⟨e, -⟩ | ⟨g', cap, cur, e, hb, hgg, h5, h6, h7, h8⟩
    · cases e
    · obtain rfl : g = g' := by injection e with e1; injection e1 with e1; injection e1
      refine .inr ⟨g, cap, _, by rw [List.length_set]; exact e, hb, heap_setCell_same w' g i cur 22 x' (hgt.trans hgg), by rw [List.length_set]; exact h5, h6, by simpa using h7, ?_⟩
      rw [List.length_set, Array.toList_setIfInBounds, List.take_set, h8]
  · have hne : ∀ b, b ≠ g → (w'.setCell ⟨g, i, none⟩ x').heap[b]? = w'.heap[b]? := fun b q => heap_setCell_other _ _ _ _ q
    by_cases e : j = i
    · subst e
      rw [List.getElem?_set_self hil] at h3
      rw [List.getElem?_set_self (by omega)] at h4
      injection h3 with h3
      injection h4 with h4
      subst h3 h4
      exact brow_kept hr (fun b eb => hne b (fun q => by have := hnew b eb; rw [q, hg] at this; omega))
    · rw [List.getElem?_set_ne (fun q => e q.symm)] at h3 h4
      have h5 := h.inner j y ls h3 h4
      refine brow_kept h5 (fun b eb => ?_)
      have hLb := h2.li j y b h3 eb
      exact (hne b (fun q => by rw [q, hg] at hLb; omega)).trans (ht.block b (h5.lt b eb).2 (fun q => by have := h2.li i x b hi q; omega))
  · by_cases e2 : j = i
    · subst e2
      rw [List.getElem?_set_self hil] at h3
      injection h3 with h3
      subst h3
      exact hnew b e
    · rw [List.getElem?_set_ne (fun q => e2 q.symm)] at h3
      exact h2.li j y b h3 e
set_option maxHeartbeats 1000000 in
set_option maxRecDepth 100000 in
theorem infoIS : (Try.prog.info? 22).map (fun i => (i.zero, i.size, i.bytes)) = some (some (.slice none 0 0), 1, 24) := by kernel_rfl
/-- One empty list more. -/
theorem LLat.push (h : LLat B L a w v vs xss) (hB : B ≤ w.heap.size) (hl : xss.length ≤ 1000000) : ∃ x n c w', (∀ ty, (Builtin.append_ #[27, 27] ty #[v, .slice (some ⟨w.heap.size, 0, none⟩) 1 1]).run Try.prog (w.alloc (.cells #[.slice none 0 0] 22)) = .ok (.slice x n c) w') ∧ LLat B (lab L w.heap.size a) a w' (.slice x n c) (vs ++ [.slice none 0 0]) (xss ++ [[]]) ∧ Turned (fun b => v.ownBlock = some b) w w' := by
  have hb1 := below_new w (.cells #[.slice none 0 0] 22)
  have h1 := h.below hb1
  obtain ⟨ii, hi1, hz, hs, hb⟩ := info_parts infoIS
  have hc : ∀ j u, [Value.slice none 0 0][j]? = some u → (w.alloc (.cells #[.slice none 0 0] 22)).cell? ((⟨w.heap.size, 0, none⟩ : Addr).add j) = some u := cell_one_new w _ _
  obtain ⟨v', w', hr, g1, g2, -, g5⟩ := run_append_own_at (P := Try.prog) (w.alloc (.cells #[.slice none 0 0] 22)) B 27 0 22 ii _ 1 24 Try.underlying27 hi1 hz hs hb rfl (by omega) v xss.length vs h1.outer ⟨w.heap.size, 0, none⟩ 1 1 [.slice none 0 0] (by simp) hc (by intro u hu; rw [List.mem_singleton.1 hu]; rfl) (by unfold maxLen; omega) (by omega) (Nat.le_trans hB hb1.size)
  have h2 := h.named a
  have hold : ∀ b, b < w.heap.size → v.ownBlock ≠ some b → w'.heap[b]? = w.heap[b]? := fun b hb' hne => (g2.block b (Nat.lt_of_lt_of_le hb' hb1.size) (fun e => hne e.symm)).trans (hb1.block b hb')
  have g1' : w'.ownsRow B 22 1 v' (xss ++ [[]]).length (vs ++ [.slice none 0 0]) := by rw [List.length_append]; exact g1
  have hsh : ∃ x n c, v' = .slice x n c := by
    rcases g1'.2 with ⟨e, -⟩ | ⟨g', cap, cur, e, -⟩
    · exact ⟨_, _, _, e⟩
    · exact ⟨_, _, _, e⟩
  obtain ⟨x, n, c, rfl⟩ := hsh
  refine ⟨x, n, c, w', fun ty => hr, ⟨g1', fun i y ks e1 e2 => ?_, fun b eb => ?_, fun i y b e1 eb => ?_⟩, (turned_of_below hb1).trans ⟨g2.os, g2.tape, g2.output, g2.size, fun k hk hn => g2.block k hk (fun e => hn e.symm)⟩⟩
  · have hlen := h.len
    rcases Nat.lt_or_ge i vs.length with q | q
    · rw [List.getElem?_append_left q] at e1
      rw [List.getElem?_append_left (by omega)] at e2
      have h5 := h.inner i y ks e1 e2
      exact brow_kept h5 (fun b eb => hold b (h5.lt b eb).2 (fun e => by have := h.lo b e; have := h.li i y b e1 eb; omega))
    · have hi : i = vs.length := by have := (List.getElem?_eq_some_iff.1 e1).1; simp at this; omega
      subst hi
      rw [List.getElem?_append_right (Nat.le_refl _), Nat.sub_self] at e1
      rw [hlen, List.getElem?_append_right (Nat.le_refl _), Nat.sub_self] at e2
      injection e1 with e1
      injection e2 with e2
      subst e1 e2
      exact ⟨rfl, .inl ⟨rfl, rfl⟩⟩
  · rcases g5 with q | q
    · exact h2.lo b (by rw [← q]; exact eb)
    · have eb2 := Option.some.inj (q.symm.trans eb); exact if_neg (by have := hb1.size; omega)
  · rcases Nat.lt_or_ge i vs.length with q | q
    · rw [List.getElem?_append_left q] at e1
      exact h2.li i y b e1 eb
    · have hi : i = vs.length := by have := (List.getElem?_eq_some_iff.1 e1).1; simp at this; omega
      subst hi
      rw [List.getElem?_append_right (Nat.le_refl _), Nat.sub_self] at e1
      have e1 := Option.some.inj (show some (Value.slice none 0 0) = some y from e1)
      subst e1
      cases eb
theorem mkII {n : Nat} (hn : n ≤ 1000000) (w : World) : (Instr.makeSlice 27 (.int .i64 (n : Nat)) (.int .i64 (n : Nat))).run Try.prog w = .ok (.slice (some ⟨w.heap.size, 0, none⟩) n n) (w.alloc (.cells (madeCells #[.slice none 0 0] n) 22)) :=
  run_make_row' 27 22 (.slice none 0 0) 24 Try.underlying27 infoIS rfl .i64 .i64 n (by omega) (by omega) w
theorem ll_made {n : Nat} (hn : n ≤ 1000000) (w : World) (hB : B ≤ w.heap.size) : LLat B (lab L w.heap.size a) a (w.alloc (.cells (madeCells #[.slice none 0 0] n) 22)) (.slice (some ⟨w.heap.size, 0, none⟩) n n) (List.replicate n (.slice none 0 0)) (List.replicate n []) := by
  refine ⟨⟨by simp, .inr ⟨w.heap.size, n, madeCells #[.slice none 0 0] n, by simp, hB, heap_alloc_new _ _, by simp, by unfold maxLen; omega, ?_, ?_⟩⟩, fun i x ks h1 h2 => ?_, fun b e => ?_, fun i x b h1 e => ?_⟩
  · rw [← Array.length_toList, made_list]; simp
  · rw [made_list]; simp
  · rw [List.eq_of_mem_replicate (List.mem_of_getElem? h1), List.eq_of_mem_replicate (List.mem_of_getElem? h2)]
    exact ⟨rfl, .inl ⟨rfl, rfl⟩⟩
  · have := own_eq e; exact if_neg (by omega)
  · rw [List.eq_of_mem_replicate (List.mem_of_getElem? h1)] at e; cases e
/-- The lists of a graph. -/
def nxl (n : Nat) (nx : Nat → List Nat) : List (List Int) := (List.range n).map (fun p => pl (nx p))
theorem nxl_len (n : Nat) (nx : Nat → List Nat) : (nxl n nx).length = n := by simp [nxl]
theorem nxl_at {n p : Nat} (nx : Nat → List Nat) (h : p < n) : (nxl n nx)[p]? = some (pl (nx p)) := by simp [nxl, h]
theorem nxl_set {n p : Nat} {nx nx' : Nat → List Nat} (h1 : ∀ x, x ≠ p → nx' x = nx x) : (nxl n nx).set p (pl (nx' p)) = nxl n nx' := by
  apply List.ext_getElem?
  intro k
  by_cases hk : k < n
  · rw [nxl_at _ hk]
    by_cases e : p = k
    · subst e; rw [List.getElem?_set_self (by rw [nxl_len]; exact hk)]
    · rw [List.getElem?_set_ne e, nxl_at _ hk, h1 k (fun q => e q.symm)]
  · rw [List.getElem?_eq_none (by rw [List.length_set, nxl_len]; omega), List.getElem?_eq_none (by rw [nxl_len]; omega)]
theorem LLat.nx {n : Nat} {nx : Nat → List Nat} {g m c : Nat} (h : LLat B L a w (.slice (some ⟨g, 0, none⟩) m c) vs (nxl n nx)) : NxAt w (.slice (some ⟨g, 0, none⟩) m c) n nx := by
  obtain ⟨x, c', e, hc⟩ := h.shape
  rw [nxl_len] at e hc
  injection e with _ e2 e3
  subst e2 e3
  refine ⟨g, c, rfl, (h.outlt rfl).2, hc, fun p hp => ?_⟩
  obtain ⟨x, hx, hr⟩ := h.inrow (nxl_at nx hp)
  exact ⟨x, h.cell hx, brow_at0 hr⟩
end
/-- Arcs, as they lie. -/
def encA (l : List (Int × Int)) : List Value := l.flatMap (fun a => [.int .i64 a.1, .int .i64 a.2])
theorem encA_len (l : List (Int × Int)) : (encA l).length = l.length * 2 := by
  induction l with
  | nil => rfl
  | cons a l ih => show (_ :: _ :: encA l).length = _; simp only [List.length_cons, ih]; omega
theorem encA_at : ∀ {l : List (Int × Int)} {i : Nat} {a : Int × Int}, l[i]? = some a → (encA l)[i * 2]? = some (.int .i64 a.1) ∧ (encA l)[i * 2 + 1]? = some (.int .i64 a.2)
  | [], i, a, h => by cases h
  | x :: l, 0, a, h => by injection h with h; subst h; exact ⟨rfl, rfl⟩
  | x :: l, i + 1, a, h => by
    have := encA_at (l := l) (i := i) (a := a) h
    rw [show (i + 1) * 2 = i * 2 + 1 + 1 by omega]
    exact this
abbrev ARow (w : World) (v : Value) (l : List (Int × Int)) : Prop := w.ownsRow 0 47 2 v l.length (encA l)
theorem arow_shape {w : World} {v : Value} {l : List (Int × Int)} (h : ARow w v l) : ∃ x c, v = .slice x l.length c ∧ (0 < l.length → ∃ g, x = some ⟨g, 0, none⟩) := by
  rcases h.2 with ⟨e, h0⟩ | ⟨g', cap, cur, e, -⟩
  · exact ⟨none, 0, by rw [e, h0], fun q => by omega⟩
  · exact ⟨_, _, e, fun _ => ⟨g', rfl⟩⟩
theorem arow_kept {w w' : World} {v : Value} {l : List (Int × Int)} (h : ARow w v l) (hb : Below w.heap.size w w') : ARow w' v l := by
  refine ⟨h.1, ?_⟩
  rcases h.2 with hn | ⟨g, cap, cur, e, hb2, hgg, rest⟩
  · exact .inl hn
  · exact .inr ⟨g, cap, cur, e, hb2, (hb.block g (heap_lt hgg)).trans hgg, rest⟩
theorem arow_at {w : World} {g n c i : Nat} {l : List (Int × Int)} {a : Int × Int} (h : ARow w (.slice (some ⟨g, 0, none⟩) n c) l) (hi : l[i]? = some a) : w.cell? ⟨g, i * 2, none⟩ = some (.int .i64 a.1) ∧ w.cell? ⟨g, i * 2 + 1, none⟩ = some (.int .i64 a.2) := by
  obtain ⟨h1, h2⟩ := encA_at hi
  have e : ∀ j, (⟨g, 0, none⟩ : Addr).add j = ⟨g, j, none⟩ := fun j => by unfold Addr.add; split <;> simp_all
  have := h.cells (g := g) rfl _ _ h1
  have h3 := h.cells (g := g) rfl _ _ h2
  rw [e] at this h3
  exact ⟨this, h3⟩
theorem cloneI {v : Value} {ks : List Int} (w : World) (h : NRow w v ks) (hl : ks.length ≤ 1000000) :
    Calls Try.prog 29 #[v] w fun e w' => ∃ v', e = .returned v' ∧ Hid (BRow w.heap.size w' v' ks ∧ Below w.heap.size w w') := by
  rcases nrow_shape h with ⟨rfl, rfl⟩ | ⟨g, c, rfl⟩
  · refine (Try.slices_Clone_int_nil 0 0 w).mono ?_
    rintro e w' ⟨rfl, rfl⟩
    exact ⟨_, rfl, ⟨rfl, .inl ⟨rfl, rfl⟩⟩, Below.refl _ _⟩
  · refine (Try.slices_Clone_int g 0 ks.length c ks w (Nat.le_refl _) (by omega) (fun j hj => by rw [Nat.zero_add]; exact (nrow_some h).2.2.2.2 j hj)).mono ?_
    rintro e w' ⟨v', rfl, g1, -, g2⟩
    rw [List.take_length] at g1
    exact ⟨v', rfl, g1, g2⟩
/-- Where a number stands among rising ones. -/
theorem countP_idx : ∀ {V : List Int} {k : Int}, V.Pairwise (· < ·) → k ∈ V → V.countP (fun x => decide (x < k)) = V.idxOf k
  | [], k, _, h => by cases h
  | x :: V, k, hp, h => by
    obtain ⟨p1, p2⟩ := List.pairwise_cons.1 hp
    rw [List.countP_cons, List.idxOf_cons]
    by_cases e : x = k
    · subst e
      have h0 : V.countP (fun y => decide (y < x)) = 0 := List.countP_eq_zero.2 (fun y hy => by have := p1 y hy; simp; omega)
      rw [h0]; simp
    · have hk : k ∈ V := (List.mem_cons.1 h).resolve_left (fun q => e q.symm)
      rw [countP_idx p2 hk]
      have := p1 k hk
      have e2 : (x == k) = false := by simpa using e
      simp [this, e2]
theorem searchI {v : Value} {V : List Int} (k : Int) (w : World) (h : NRow w v V) (hl : V.length ≤ 1000000) (hs : V.Pairwise (· < ·)) :
    Calls Try.prog 31 #[v, .int .i64 k] w fun e w' => e = .returned (.tuple #[.int .i64 (V.countP (fun x => decide (x < k)) : Nat), .bool (decide (k ∈ V))]) ∧ ∃ q, w' = w.drewN q := by
  rcases nrow_shape h with ⟨rfl, rfl⟩ | ⟨g, c, rfl⟩
  · refine (Try.slices_BinarySearch_int_empty none 0 k w).mono ?_
    rintro e w' ⟨rfl, rfl⟩
    exact ⟨rfl, 0, rfl⟩
  · refine (Try.slices_BinarySearch_int g 0 V.length c V k w (Nat.le_refl _) (by omega) (fun j hj => by rw [Nat.zero_add]; exact (nrow_some h).2.2.2.2 j hj) (by rw [List.take_length]; exact hs.imp (fun hab => by omega))).mono ?_
    rintro e w' ⟨he, hq⟩
    rw [List.take_length] at he
    refine ⟨?_, hq⟩
    rw [he, List.contains_eq_mem]
end Go.Proofs.Ytdpdghhieokcfaa
