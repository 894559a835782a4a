/- The reference's list of items; Find. -/
import Derived.Test.YtfhidghjmookhaaBeside
import Derived.Lib.AppendZeros
import Derived.Laws.ResultCell
import Derived.Deep.MidRow
import Derived.Deep.CutRange
namespace Go.Proofs.Ytfhidghjmookhaa
open Go.RowKit Go.Maps

/-- The cells of a list of items. -/
def enc (k : IntKind) (rs : List (Int × Int)) : List Value := rs.flatMap fun r => [.int k r.1, .int k r.2]
def lo (rs : List (Int × Int)) (i : Nat) : Int := (rs.getD i (0, 0)).1
def hi (rs : List (Int × Int)) (i : Nat) : Int := (rs.getD i (0, 0)).2

theorem enc_length (k : IntKind) (rs : List (Int × Int)) : (enc k rs).length = rs.length * 2 := by
  induction rs with
  | nil => rfl
  | cons r rs ih => simp [enc] at ih ⊢; omega
theorem enc_append (k : IntKind) (a b : List (Int × Int)) : enc k (a ++ b) = enc k a ++ enc k b := by simp [enc]
theorem enc_cons (k : IntKind) (r : Int × Int) (b : List (Int × Int)) : enc k (r :: b) = .int k r.1 :: .int k r.2 :: enc k b := by simp [enc]
theorem enc_take (k : IntKind) : ∀ (rs : List (Int × Int)) (i : Nat), (enc k rs).take (i * 2) = enc k (rs.take i)
  | [], i => by simp [enc]
  | r :: rs, 0 => by simp [enc]
  | r :: rs, i + 1 => by
    rw [show (i + 1) * 2 = i * 2 + 1 + 1 by omega, enc_cons, List.take_succ_cons, List.take_succ_cons, enc_take k rs i, List.take_succ_cons, enc_cons]
theorem enc_drop (k : IntKind) : ∀ (rs : List (Int × Int)) (i : Nat), (enc k rs).drop (i * 2) = enc k (rs.drop i)
  | [], i => by simp [enc]
  | r :: rs, 0 => by simp [enc]
  | r :: rs, i + 1 => by
    rw [show (i + 1) * 2 = i * 2 + 1 + 1 by omega, enc_cons, List.drop_succ_cons, List.drop_succ_cons, enc_drop k rs i, List.drop_succ_cons]
theorem enc_lo (k : IntKind) : ∀ (rs : List (Int × Int)) (i : Nat), i < rs.length → (enc k rs)[i * 2]? = some (.int k (lo rs i))
  | [], i, h => by simp at h
  | r :: rs, 0, _ => by simp [enc, lo]
  | r :: rs, i + 1, h => by
    rw [show (i + 1) * 2 = i * 2 + 1 + 1 by omega, enc_cons, List.getElem?_cons_succ, List.getElem?_cons_succ, enc_lo k rs i (by simpa using h)]
    simp [lo]
theorem enc_hi (k : IntKind) : ∀ (rs : List (Int × Int)) (i : Nat), i < rs.length → (enc k rs)[i * 2 + 1]? = some (.int k (hi rs i))
  | [], i, h => by simp at h
  | r :: rs, 0, _ => by simp [enc, hi]
  | r :: rs, i + 1, h => by
    rw [show (i + 1) * 2 + 1 = i * 2 + 1 + 1 + 1 by omega, enc_cons, List.getElem?_cons_succ, List.getElem?_cons_succ, enc_hi k rs i (by simpa using h)]
    simp [hi]
theorem enc_one (k : IntKind) (rs : List (Int × Int)) : ∀ u ∈ enc k rs, u.oneCell' = true := by
  intro u hu
  simp only [enc, List.mem_flatMap, List.mem_cons, List.not_mem_nil, or_false] at hu
  obtain ⟨r, -, rfl | rfl⟩ := hu <;> rfl

/-- What an owned row of items gives to who reads it. -/
theorem owns_cells {w : World} {B : Nat} {e : TypeId} {k : IntKind} {g n c : Nat} {rs : List (Int × Int)} (h : w.ownsRow B e 2 (.slice (some ⟨g, 0, none⟩) n c) n (enc k rs)) :
    ∀ i, i < n → w.cell? ⟨g, i * 2, none⟩ = some (.int k (lo rs i)) ∧ w.cell? ⟨g, i * 2 + 1, none⟩ = some (.int k (hi rs i)) := by
  intro i hi
  have hl : rs.length = n := by have := h.1; rw [enc_length] at this; omega
  have hc := h.cells (g := g) rfl
  have add : ∀ j, (⟨g, 0, none⟩ : Addr).add j = ⟨g, j, none⟩ := fun j => by unfold Addr.add; split <;> simp_all
  have h1 := hc (i * 2) _ (enc_lo k rs i (by omega))
  have h2 := hc (i * 2 + 1) _ (enc_hi k rs i (by omega))
  rw [add] at h1 h2
  exact ⟨h1, h2⟩


theorem item_shape {w : World} {v : Value} {e : TypeId} {s n : Nat} {xs : List Value} (h : w.ownsRow 0 e s v n xs) : ∃ a c, v = .slice a n c := by
  rcases h.2 with ⟨rfl, h3⟩ | ⟨g, cap, cur, rfl, -⟩
  · exact ⟨none, 0, by rw [h3]⟩
  · exact ⟨_, _, rfl⟩
theorem item_block {w : World} {v : Value} {e : TypeId} {s n : Nat} {xs : List Value} (h : w.ownsRow 0 e s v n xs) (h0 : 0 < n) : ∃ g c, v = .slice (some ⟨g, 0, none⟩) n c := by
  rcases h.2 with ⟨-, h3⟩ | ⟨g, cap, cur, rfl, -⟩
  · omega
  · exact ⟨_, _, rfl⟩

/-- Where a key stands. -/
def AtIs (its : List (Int × Int)) (k r : Int) : Prop := (r = -1 ∧ ∀ i, i < its.length → lo its i ≠ k) ∨ ∃ i : Nat, i < its.length ∧ r = (i : Int) ∧ lo its i = k ∧ ∀ j, j < i → lo its j ≠ k

theorem items_kept {w w' : World} {v : Value} {B L : Nat} {xs : List Value} (h : w.ownsRow B 35 2 v L xs) (hk : ∀ k, v.ownBlock = some k → w'.heap[k]? = w.heap[k]?) : w'.ownsRow 0 35 2 v L xs := by
  refine ⟨h.1, ?_⟩
  rcases h.2 with hn | ⟨g, cap, cur, rfl, -, hgg, rest⟩
  · exact .inl hn
  · exact .inr ⟨g, cap, cur, rfl, Nat.zero_le _, (hk g rfl).trans hgg, rest⟩
theorem items_below {w w' : World} {v : Value} {L : Nat} {xs : List Value} (h : w.ownsRow 0 35 2 v L xs) (hb : Below w.heap.size w w') : w'.ownsRow 0 35 2 v L xs := items_kept h (fun k hk => hb.block k (h.lt k hk).2)

/-- The box of a table that came by value. -/
theorem box2 (w : World) (x y : Value) (t : TypeId) : (w.alloc (.cells #[x, y] t)).cell? ⟨w.heap.size, 0, none⟩ = some x ∧ (w.alloc (.cells #[x, y] t)).cell? ⟨w.heap.size, 1, none⟩ = some y ∧ ∀ o, (w.alloc (.cells #[x, y] t)).frozen? ⟨w.heap.size, o, none⟩ = false := by
  refine ⟨?_, ?_, fun o => frozen_of_row _ _ o _ _ (heap_alloc_new _ _)⟩ <;> rw [World.cell?_alloc_at _ _ _ _ (by simp)] <;> rfl

set_option maxHeartbeats 1000000 in
set_option maxRecDepth 100000 in
theorem refFind {v : Value} {its : List (Int × Int)} (nx k : Int) (w : World) (h : w.ownsRow 0 35 2 v its.length (enc .i64 its)) (hn : its.length ≤ 1000000) :
    Calls Try.prog 36 #[.agg #[v, .int .i64 nx], .int .i64 k] w fun e w' => ∃ r : Int, e = .returned (.int .i64 r) ∧ Hid (AtIs its k r ∧ Below w.heap.size w w') := by
  have hb : Below w.heap.size w (w.alloc (.cells #[v, .int .i64 nx] 28)) := (Below.refl _ _).alloc (Nat.le_refl _) _
  have HB := hide hb
  obtain ⟨b1, -, -⟩ := box2 w v (.int .i64 nx) 28
  have h2 := items_below h hb
  rcases Nat.eq_zero_or_pos its.length with h0 | h0
  · obtain ⟨a, c, rfl⟩ := item_shape h
    have HE : Hid (AtIs its k (-1)) := .inl ⟨rfl, fun i hi1 => by omega⟩
    rw [h0] at b1 HB ⊢
    clear h hn h0 hb h2
    go_enter Try.func36, Try.ntmps36
    go_wp2_with fail
    refine wp_loop_rounds 1 ?_
    rw [rounds_succ]
    go_wp2_with fail
    go_ret
    exact ⟨-1, rfl, unhide HE, unhide HB⟩
  · obtain ⟨g, c, rfl⟩ := item_block h h0
    have HC := hide (owns_cells h2)
    generalize hL : its.length = L at *
    have HL := hide hL
    clear h hL hb h2
    go_enter Try.func36, Try.ntmps36
    go_wp2_with fail
    generalize (w.alloc (.cells #[.slice (some ⟨g, 0, none⟩) L c, .int .i64 nx] 28)) = w1 at *
    go_loopw [5] (fun s5 wr => ∃ i : Nat, i ≤ L ∧ s5 = .int .i64 i ∧ wr = w1 ∧ Hid (∀ j, j < i → lo its j ≠ k)) (fun s5 _ => L - (intOf s5).toNat)
    case atStart => exact ⟨0, Nat.zero_le _, rfl, rfl, fun j hj => absurd hj (Nat.not_lt_zero _)⟩
    case round =>
      obtain ⟨i, hi1, rfl, rfl, HE⟩ := hrel
      by_cases hlt : i < L
      · have hltz : (i : Int) < (L : Int) := by omega
        have c1 := (unhide HC i hlt).1
        obtain ⟨a1, e1⟩ : ∃ x, lo its i = x := ⟨_, rfl⟩
        rw [e1] at c1
        have HE1 := hide e1
        clear e1
        by_cases h1 : a1 = k
        · subst h1
          go_wp2_with fail
          go_ret
          exact ⟨i, rfl, .inr ⟨i, by rw [unhide HL]; exact hlt, rfl, unhide HE1, unhide HE⟩, unhide HB⟩
        · have h2 : (a1 == k) = false := by simpa using h1
          have HN := hide h1
          clear h1
          go_wp2_with fail
          go_roundw
          case rel => exact ⟨i + 1, by omega, by go_num, trivial, fun j hj => by
            rcases Nat.lt_or_ge j i with h | h
            · exact unhide HE j h
            · have : j = i := by omega
              subst this; rw [unhide HE1]; exact unhide HN⟩
          case measure => simp [intOf]; omega
      · have hltz : ¬ (i : Int) < (L : Int) := by omega
        obtain rfl : i = L := by omega
        go_wp2_with fail
        go_ret
        exact ⟨-1, rfl, .inl ⟨rfl, fun j hj => unhide HE j (by rw [unhide HL] at hj; exact hj)⟩, unhide HB⟩
/-- A table's two cells, as a value. -/
theorem load28 (w : World) (g : Nat) (x y : Value) (c0 : w.cell? ⟨g, 0, none⟩ = some x) (c1 : w.cell? ⟨g, 1, none⟩ = some y) : (loadVar 28 ⟨g, 0, none⟩).run Try.prog w = .ok (.agg #[x, y]) w :=
  run_loadVar_mid (P := Try.prog) w g 0 28 [x, y] _ (fun j v hj => by
    match j with
    | 0 => simp at hj; subst hj; exact c0
    | 1 => simp at hj; subst hj; exact c1
    | j + 2 => simp at hj) Try.underlying28 rfl (by kernel_rfl)
theorem res2 {fn : Func} {p u : Tmp} (h : fn.results = #[.cell p 28, .tmp u]) (tmps : Array Value) (w : World) (g : Nat) (x y : Value) (hp : tmps.getD p undef = .pointer (some ⟨g, 0, none⟩)) (c0 : w.cell? ⟨g, 0, none⟩ = some x) (c1 : w.cell? ⟨g, 1, none⟩ = some y) :
    (results fn tmps).run Try.prog w = .ok (.tuple #[.agg #[x, y], tmps.getD u undef]) w := by
  rw [results_cell_tmp h, hp]
  simp only [asAddr, Sem.run_pure, Result.andThen_ok, load28 w g x y c0 c1]

/-- A box and a result's block. -/
theorem boxes (w : World) (x y x' y' : Value) : (((w.alloc (.cells #[x, y] 28)).alloc (.cells #[x', y'] 28)).cell? ⟨w.heap.size, 0, none⟩ = some x ∧ ((w.alloc (.cells #[x, y] 28)).alloc (.cells #[x', y'] 28)).cell? ⟨w.heap.size, 1, none⟩ = some y) ∧
    (((w.alloc (.cells #[x, y] 28)).alloc (.cells #[x', y'] 28)).cell? ⟨w.heap.size + 1, 0, none⟩ = some x' ∧ ((w.alloc (.cells #[x, y] 28)).alloc (.cells #[x', y'] 28)).cell? ⟨w.heap.size + 1, 1, none⟩ = some y') ∧
    (∀ o, ((w.alloc (.cells #[x, y] 28)).alloc (.cells #[x', y'] 28)).frozen? ⟨w.heap.size, o, none⟩ = false) ∧ (∀ o, ((w.alloc (.cells #[x, y] 28)).alloc (.cells #[x', y'] 28)).frozen? ⟨w.heap.size + 1, o, none⟩ = false) ∧
    ((w.alloc (.cells #[x, y] 28)).alloc (.cells #[x', y'] 28)).heap.size = w.heap.size + 2 ∧ Below w.heap.size w ((w.alloc (.cells #[x, y] 28)).alloc (.cells #[x', y'] 28)) := by
  have h1 := heap_alloc2_old w (.cells #[x, y] 28) (.cells #[x', y'] 28)
  have h2 := heap_alloc2_new w (.cells #[x, y] 28) (.cells #[x', y'] 28)
  refine ⟨⟨?_, ?_⟩, ⟨?_, ?_⟩, fun o => frozen_of_row _ _ o _ _ h1, fun o => frozen_of_row _ _ o _ _ h2, by simp, ((Below.refl _ _).alloc (Nat.le_refl _) _).alloc (by simp) _⟩
  · rw [cell_of_row _ _ _ _ _ _ h1]; rfl
  · rw [cell_of_row _ _ _ _ _ _ h1]; rfl
  · rw [cell_of_row _ _ _ _ _ _ h2]; rfl
  · rw [cell_of_row _ _ _ _ _ _ h2]; rfl

/-- Two cells are stored. -/
theorem stored2 {w : World} {g : Nat} {x0 y0 : Value} (c0 : w.cell? ⟨g, 0, none⟩ = some x0) (c1 : w.cell? ⟨g, 1, none⟩ = some y0) (x y : Value) :
    ((w.setCell ⟨g, 0, none⟩ x).setCell ⟨g, 1, none⟩ y).cell? ⟨g, 0, none⟩ = some x ∧ ((w.setCell ⟨g, 0, none⟩ x).setCell ⟨g, 1, none⟩ y).cell? ⟨g, 1, none⟩ = some y := by
  constructor
  · rw [World.cell?_setCell_other _ _ _ _ (by simp)]
    exact World.cell?_setCell_same _ _ _ c0
  · exact World.cell?_setCell_same _ _ _ ((World.cell?_setCell_other _ _ _ _ (by simp)).trans c1)
theorem below2 {B : Nat} {w w3 : World} {g : Nat} (h : Below B w w3) (hg : B ≤ g) (x y : Value) : Below B w ((w3.setCell ⟨g, 0, none⟩ x).setCell ⟨g, 1, none⟩ y) := (h.setCell (p := ⟨g, 0, none⟩) hg _).setCell (p := ⟨g, 1, none⟩) hg _

/-- What a call leaves of the two. -/
theorem boxes_kept {w W w3 : World} {x y x' y' : Value} (hs : W.heap.size = w.heap.size + 2) (hb : Below W.heap.size W w3) (a0 : W.cell? ⟨w.heap.size, 0, none⟩ = some x) (a1 : W.cell? ⟨w.heap.size, 1, none⟩ = some y) (r0 : W.cell? ⟨w.heap.size + 1, 0, none⟩ = some x') (r1 : W.cell? ⟨w.heap.size + 1, 1, none⟩ = some y')
    (fa : ∀ o, W.frozen? ⟨w.heap.size, o, none⟩ = false) (fr : ∀ o, W.frozen? ⟨w.heap.size + 1, o, none⟩ = false) :
    (w3.cell? ⟨w.heap.size, 0, none⟩ = some x ∧ w3.cell? ⟨w.heap.size, 1, none⟩ = some y) ∧ (w3.cell? ⟨w.heap.size + 1, 0, none⟩ = some x' ∧ w3.cell? ⟨w.heap.size + 1, 1, none⟩ = some y') ∧ (∀ o, w3.frozen? ⟨w.heap.size, o, none⟩ = false) ∧ ∀ o, w3.frozen? ⟨w.heap.size + 1, o, none⟩ = false := by
  have l1 : w.heap.size < W.heap.size := by omega
  have l2 : w.heap.size + 1 < W.heap.size := by omega
  exact ⟨⟨(hb.cell (p := ⟨w.heap.size, 0, none⟩) l1).trans a0, (hb.cell (p := ⟨w.heap.size, 1, none⟩) l1).trans a1⟩, ⟨(hb.cell (p := ⟨w.heap.size + 1, 0, none⟩) l2).trans r0, (hb.cell (p := ⟨w.heap.size + 1, 1, none⟩) l2).trans r1⟩,
    fun o => (hb.frozen (p := ⟨w.heap.size, o, none⟩) l1).trans (fa o), fun o => (hb.frozen (p := ⟨w.heap.size + 1, o, none⟩) l2).trans (fr o)⟩

theorem info35 : (Try.prog.info? 35).map (fun i => (i.zero, i.size, i.bytes)) = some (some (.agg #[.int .i64 0, .int .i64 0]), 2, 16) := by kernel_rfl

/-- A copy of the list (which is there). -/
theorem copyRow {W : World} {g cap : Nat} {its : List (Int × Int)} (h : W.ownsRow 0 35 2 (.slice (some ⟨g, 0, none⟩) its.length cap) its.length (enc .i64 its)) (hn : its.length ≤ 1000000) :
    ∃ a1 c1 w2, (Builtin.append_ #[26, 26] 26 #[.slice (some ⟨W.heap.size, 0, none⟩) 0 0, .slice (some ⟨g, 0, none⟩) its.length cap]).run Try.prog (W.alloc (.cells #[] 35)) = .ok (.slice a1 its.length c1) w2 ∧
      w2.ownsRow W.heap.size 35 2 (.slice a1 its.length c1) its.length (enc .i64 its) ∧ Below W.heap.size W w2 ∧ W.heap.size + 1 ≤ w2.heap.size := by
  obtain ⟨i0, hi0, hz0, hzs, hzb⟩ := info_parts info35
  have hmade : (W.alloc (.cells #[] 35)).ownsRow W.heap.size 35 2 (.slice (some ⟨W.heap.size, 0, none⟩) 0 0) 0 [] := World.ownsRow_made W #[] 0 (Nat.le_refl _) (by unfold maxLen; omega) rfl
  have hc := @World.ownsRow.cells _ _ _ _ _ _ _ h
  obtain ⟨v1, w2, hr1, hown1, hgr1, -⟩ := run_append_own (P := Try.prog) (W.alloc (.cells #[] 35)) W.heap.size 26 26 35 i0 _ 2 16 Try.underlying26 hi0 hz0 hzs hzb rfl (by omega) _ 0 [] hmade ⟨g, 0, none⟩ its.length cap (enc .i64 its) (enc_length _ _)
    (fun j u hj => by
      have := hc rfl j u hj
      exact (((Below.refl W.heap.size W).alloc (Nat.le_refl _) (.cells #[] 35)).cell (World.block_lt_of_cell? _ _ this)).trans this) (enc_one _ _) (by unfold maxLen; omega) (by omega) (by simp)
  rw [Nat.zero_add, List.nil_append] at hown1
  have hs2 : W.heap.size + 1 ≤ w2.heap.size := by have := hgr1.size; simp at this; omega
  obtain ⟨a1, c1, rfl⟩ : ∃ a1 c1, v1 = .slice a1 its.length c1 := by
    rcases hown1.2 with ⟨rfl, h3⟩ | ⟨g', cap', cur', rfl, -⟩
    · exact ⟨none, 0, by rw [h3]⟩
    · exact ⟨_, _, rfl⟩
  exact ⟨a1, c1, w2, hr1, hown1, ((Below.refl W.heap.size W).alloc (Nat.le_refl _) (.cells #[] 35)).grown hgr1 (by simp) (fun j hj => by simp [Value.ownBlock] at hj; omega), hs2⟩

/-- An item behind a list that lies from B on. -/
theorem snocRow {w2 : World} {B : Nat} {v1 : Value} {its : List (Int × Int)} (h : w2.ownsRow B 35 2 v1 its.length (enc .i64 its)) (hn : its.length ≤ 1000000) (hB : B ≤ w2.heap.size) (k x : Int) :
    ∃ v2 w4, (Builtin.append_ #[26, 26] 26 #[v1, .slice (some ⟨w2.heap.size, 0, none⟩) 1 1]).run Try.prog (w2.alloc (.cells #[.int .i64 k, .int .i64 x] 35)) = .ok v2 w4 ∧
      w4.ownsRow B 35 2 v2 (its.length + 1) (enc .i64 (its ++ [(k, x)])) ∧ Below B w2 w4 := by
  obtain ⟨i0, hi0, hz0, hzs, hzb⟩ := info_parts info35
  have hown1' : (w2.alloc (.cells #[.int .i64 k, .int .i64 x] 35)).ownsRow B 35 2 v1 its.length (enc .i64 its) := by
    refine ⟨h.1, ?_⟩
    rcases h.2 with hq | ⟨g', cap', cur', e1, hb1, hgg, rest⟩
    · exact .inl hq
    · exact .inr ⟨g', cap', cur', e1, hb1, (((Below.refl w2.heap.size w2).alloc (Nat.le_refl _) _).block g' (Array.getElem?_eq_some_iff.1 hgg).1).trans hgg, rest⟩
  obtain ⟨v2, w4, hr2, hown2, hgr2, -⟩ := run_append_own (P := Try.prog) (w2.alloc (.cells #[.int .i64 k, .int .i64 x] 35)) B 26 26 35 i0 _ 2 16 Try.underlying26 hi0 hz0 hzs hzb rfl (by omega) v1 its.length (enc .i64 its) hown1' ⟨w2.heap.size, 0, none⟩ 1 1 [.int .i64 k, .int .i64 x] rfl
    (fun j u hj => by
      have add : (⟨w2.heap.size, 0, none⟩ : Addr).add j = ⟨w2.heap.size, j, none⟩ := by unfold Addr.add; split <;> simp_all
      have h1 : j < 2 := by
        have := (List.getElem?_eq_some_iff.1 hj).1
        simpa using this
      rw [add, World.cell?_alloc_at _ _ _ _ (by simp)]
      match j, h1 with
      | 0, _ => simpa using hj
      | 1, _ => simpa using hj) (by intro u hu; simp at hu; rcases hu with rfl | rfl <;> rfl) (by unfold maxLen; omega) (by omega) (by simp; omega)
  exact ⟨v2, w4, hr2, by rw [enc_append]; exact hown2, ((Below.refl B w2).alloc hB _).grown hgr2 (by simp; omega) (fun j hj => (h.lt j hj).1)⟩
end Go.Proofs.Ytfhidghjmookhaa
