/- Rows of items: their beginnings and ends copied. -/
import Derived.Test.YtfhidghjmookhaaRefItems
import Derived.Deep.RegionLaw
namespace Go.Proofs.Ytfhidghjmookhaa
open Go.RowKit Go.Maps

theorem step_append_run {P : Program} {ops : Array Oper} {o : Oper} {a : Act} {w : World} {K : Act → World → Prop} {Q : Exit → Act → World → Prop} {E : Prop}
    (hg : o.guard = none) (s x : Operand) (t : TypeId) (hop : o.op = Op.call { callee := Callee.builtin Builtin.append, args := #[s, x], argTypes := #[t, t] }) (v1 v2 : Value) (hs : a.eval s = v1) (hx : a.eval x = v2) (v' : Value) (w' : World)
    (hrun : (Builtin.append_ #[t, t] o.type #[v1, v2]).run P w = .ok v' w') (hK : K (a.put o.dst v') w') :
    if Region.wanted o (yielded ops a.tmps) = true then Oper.wp P o a w K Q else E := by
  have hw : Region.wanted o (yielded ops a.tmps) = true := by simp [Region.wanted, hg]
  rw [if_pos hw]
  unfold Oper.wp
  simp only [execOp, hop, resolve, invoke, builtin, Sem.run_bind, Sem.run_pure, Result.andThen_ok, List.map_toArray, List.map_cons, List.map_nil, hs, hx, hrun]
  exact hK

theorem row_low {w w' : World} {v : Value} {B B' L : Nat} {xs : List Value} (h : w.ownsRow B 35 2 v L xs) (hB : B' ≤ B) (hk : ∀ k, v.ownBlock = some k → w'.heap[k]? = w.heap[k]?) : w'.ownsRow B' 35 2 v L xs := by
  refine ⟨h.1, ?_⟩
  rcases h.2 with hn | ⟨g, cap, cur, rfl, hb, hgg, rest⟩
  · exact .inl hn
  · exact .inr ⟨g, cap, cur, rfl, Nat.le_trans hB hb, (hk g rfl).trans hgg, rest⟩
theorem cell_made {w : World} {p : Addr} {v : Value} (o : Obj) (h : w.cell? p = some v) : (w.alloc o).cell? p = some v :=
  (((Below.refl w.heap.size w).alloc (Nat.le_refl _) o).cell (World.block_lt_of_cell? _ _ h)).trans h

/-- Nothing stands at k. -/
def Out (its : List (Int × Int)) (k : Int) : Prop := ∀ j, j < its.length → lo its j ≠ k
theorem out_of {its : List (Int × Int)} {k r : Int} (h : AtIs its k r) (hr : r < 0) : Out its k := by
  rcases h with ⟨-, h⟩ | ⟨i, -, h, -⟩
  · exact h
  · omega
theorem in_of {its : List (Int × Int)} {k r : Int} (h : AtIs its k r) (hr : ¬ r < 0) : ¬ Out its k := by
  rcases h with ⟨h, -⟩ | ⟨i, h1, -, h2, -⟩
  · omega
  · exact fun ho => ho i h1 h2
theorem at_one {its : List (Int × Int)} {k r : Int} {j : Nat} (h : AtIs its k r) (hj : j < its.length) (e : lo its j = k) (hu : ∀ m, m < its.length → lo its m = k → m = j) : r = (j : Int) := by
  rcases h with ⟨-, h⟩ | ⟨i, h1, h2, h3, -⟩
  · exact absurd e (h j hj)
  · rw [h2, hu i h1 h3]

/-- The first i items, laid into a new list. -/
theorem headRow {W : World} {g cap : Nat} {its : List (Int × Int)} (h : W.ownsRow 0 35 2 (.slice (some ⟨g, 0, none⟩) its.length cap) its.length (enc .i64 its)) (hn : its.length ≤ 1000000) {i : Nat} (hi1 : i ≤ its.length) :
    ∃ a1 c1 w2, (Builtin.append_ #[26, 26] 26 #[.slice (some ⟨W.heap.size, 0, none⟩) 0 0, .slice (some ⟨g, 0, none⟩) i cap]).run Try.prog (W.alloc (.cells #[] 35)) = .ok (.slice a1 i c1) w2 ∧
      w2.ownsRow W.heap.size 35 2 (.slice a1 i c1) i (enc .i64 (its.take i)) ∧ Below W.heap.size W w2 := by
  obtain ⟨i0, hi0, hz0, hzs, hzb⟩ := info_parts info35
  have hmade : (W.alloc (.cells #[] 35)).ownsRow W.heap.size 35 2 (.slice (some ⟨W.heap.size, 0, none⟩) 0 0) 0 [] := World.ownsRow_made W #[] 0 (Nat.le_refl _) (by unfold maxLen; omega) rfl
  obtain ⟨cur, hg⟩ : ∃ cur, W.heap[g]? = some (.cells cur 35 (0, 0)) := by
    rcases h.2 with ⟨e, -⟩ | ⟨g', cap', cur', e, -, hgg, -⟩
    · cases e
    · cases e; exact ⟨cur', hgg⟩
  have hc := @World.ownsRow.cells _ _ _ _ _ _ _ h
  have add : ∀ o j, (⟨g, o, none⟩ : Addr).add j = ⟨g, o + j, none⟩ := fun o j => by unfold Addr.add; split <;> simp_all
  have hcell : ∀ j u, (enc .i64 its)[j]? = some u → W.cell? ⟨g, j, none⟩ = some u := fun j u hj => by have := hc rfl j u hj; rw [add] at this; simpa using this
  have hgl : g < W.heap.size := (Array.getElem?_eq_some_iff.1 hg).1
  have hlt : (its.take i).length = i := by simp; omega
  obtain ⟨v1, w2, hr1, hown1, hgr1, -⟩ := run_append_own (P := Try.prog) (W.alloc (.cells #[] 35)) W.heap.size 26 26 35 i0 _ 2 16 Try.underlying26 hi0 hz0 hzs hzb rfl (by omega) _ 0 [] hmade ⟨g, 0, none⟩ i cap (enc .i64 (its.take i)) (by rw [enc_length, hlt])
    (fun j u hj => by
      rw [← enc_take, List.getElem?_take] at hj
      split at hj
      · rw [add, Nat.zero_add]
        exact (((Below.refl W.heap.size W).alloc (Nat.le_refl _) (.cells #[] 35)).cell (by exact hgl)).trans (hcell j u hj)
      · cases hj) (enc_one _ _) (by unfold maxLen; omega) (by omega) (by simp)
  rw [Nat.zero_add, List.nil_append] at hown1
  have b1 := ((Below.refl W.heap.size W).alloc (Nat.le_refl _) (.cells #[] 35)).grown hgr1 (by simp) (fun j hj => by simp [Value.ownBlock] at hj; omega)
  obtain ⟨a1, c1, rfl⟩ : ∃ a1 c1, v1 = .slice a1 i c1 := by
    rcases hown1.2 with ⟨rfl, h3⟩ | ⟨g', cap', cur', rfl, -⟩
    · exact ⟨none, 0, by rw [h3]⟩
    · exact ⟨_, _, rfl⟩
  exact ⟨a1, c1, w2, hr1, hown1, b1⟩

/-- The items from t on, laid behind a list that lies from B on. -/
theorem tailRow {w2 : World} {B n g cap : Nat} {v1 : Value} {xs its : List (Int × Int)} (h1 : w2.ownsRow B 35 2 v1 n (enc .i64 xs)) (h : w2.ownsRow 0 35 2 (.slice (some ⟨g, 0, none⟩) its.length cap) its.length (enc .i64 its)) (hn : its.length ≤ 1000000) (hx : n ≤ 1000001) (hB : B ≤ w2.heap.size) {t : Nat} (ht : t ≤ its.length) :
    ∃ src a2 c2 w4, (if cap = t then (⟨g, 0, none⟩ : Addr) else ⟨g, t * 2, none⟩) = src ∧
      (Builtin.append_ #[26, 26] 26 #[v1, .slice (some src) (its.length - t) (cap - t)]).run Try.prog w2 = .ok (.slice a2 (n + (its.length - t)) c2) w4 ∧
      w4.ownsRow B 35 2 (.slice a2 (n + (its.length - t)) c2) (n + (its.length - t)) (enc .i64 (xs ++ its.drop t)) ∧ Below B w2 w4 := by
  obtain ⟨i0, hi0, hz0, hzs, hzb⟩ := info_parts info35
  have hLc : its.length ≤ cap := by
    rcases h.2 with ⟨e, -⟩ | ⟨g', cap', cur', e, -, hgg, h1, h2, -⟩
    · cases e
    · cases e; exact h1
  have hc := @World.ownsRow.cells _ _ _ _ _ _ _ h
  have add : ∀ o j, (⟨g, o, none⟩ : Addr).add j = ⟨g, o + j, none⟩ := fun o j => by unfold Addr.add; split <;> simp_all
  have hcell : ∀ j u, (enc .i64 its)[j]? = some u → w2.cell? ⟨g, j, none⟩ = some u := fun j u hj => by have := hc rfl j u hj; rw [add] at this; simpa using this
  have hld : (its.drop t).length = its.length - t := by simp
  obtain ⟨src, hsrc, hsc⟩ : ∃ src : Addr, (if cap = t then (⟨g, 0, none⟩ : Addr) else ⟨g, t * 2, none⟩) = src ∧ ∀ j u, (enc .i64 (its.drop t))[j]? = some u → w2.cell? (src.add j) = some u := by
    refine ⟨_, rfl, fun j u hj => ?_⟩
    split
    · have e : its.drop t = [] := by rw [List.drop_eq_nil_iff]; omega
      rw [e] at hj
      simp [enc] at hj
    · rw [add]
      refine hcell _ u ?_
      rw [← enc_drop, List.getElem?_drop] at hj
      exact hj
  obtain ⟨v2, w4, hr2, hown2, hgr2, -⟩ := run_append_own (P := Try.prog) w2 B 26 26 35 i0 _ 2 16 Try.underlying26 hi0 hz0 hzs hzb rfl (by omega) v1 n (enc .i64 xs) h1 src (its.length - t) (cap - t) (enc .i64 (its.drop t)) (by rw [enc_length, hld]) hsc (enc_one _ _) (by unfold maxLen; omega) (by omega) hB
  obtain ⟨a2, c2, rfl⟩ : ∃ a2 c2, v2 = .slice a2 (n + (its.length - t)) c2 := by
    rcases hown2.2 with ⟨rfl, h3⟩ | ⟨g', cap', cur', rfl, -⟩
    · exact ⟨none, 0, by rw [h3]⟩
    · exact ⟨_, _, rfl⟩
  exact ⟨src, a2, c2, w4, hsrc, hr2, by rw [enc_append]; exact hown2, (Below.refl B w2).grown hgr2 hB (fun j hj => (h1.lt j hj).1)⟩
end Go.Proofs.Ytfhidghjmookhaa
