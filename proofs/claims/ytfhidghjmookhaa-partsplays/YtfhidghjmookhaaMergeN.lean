/- merge. -/
import Derived.Test.YtfhidghjmookhaaHeadsWalkN
import Derived.Test.YtfhidghjmookhaaMath
import Derived.Laws.CopyRow
import Derived.Deep.RegionHeld3
import Derived.Deep.CutRange
namespace Go.Proofs.Ytfhidghjmookhaa
open Go.RowKit Go.Maps

theorem size1N : (Try.prog.info? 3).map (·.size) = some 1 := by kernel_rfl
theorem oneN (l : List Int) : ∀ u ∈ l.map (Value.int .i64), u.oneCell' = true := by
  intro u hu
  obtain ⟨x, -, rfl⟩ := List.mem_map.1 hu
  rfl

/-- A row's things are moved within it. -/
theorem row_copyN {w : World} {g L c o s len dLen dCap sCap : Nat} {cs : List Int} (h : w.ownsRow 0 3 1 (.slice (some ⟨g, 0, none⟩) L c) L (cs.map (Value.int .i64))) (ho : o + len ≤ L) (hs : s + len ≤ L) (hd : len ≤ dLen) (ty : TypeId) :
    ∃ w', (Builtin.copy_ #[37, 37] ty #[.slice (some ⟨g, o, none⟩) dLen dCap, .slice (some ⟨g, s, none⟩) len sCap]).run Try.prog w = .ok (goInt len) w' ∧
      w'.ownsRow 0 3 1 (.slice (some ⟨g, 0, none⟩) L c) L ((cs.take o ++ (cs.drop s).take len ++ cs.drop (o + len)).map (Value.int .i64)) ∧ Turned (fun b => b = g) w w' := by
  have hl : cs.length = L := by simpa using h.1
  have hcell := h.cellAt
  rcases h.2 with ⟨e0, -⟩ | ⟨g', c', cur, e0, hb, hg, hn, hm, hsz, ht⟩
  · cases e0
  simp only [Value.slice.injEq, Option.some.injEq, Addr.mk.injEq] at e0
  obtain ⟨⟨rfl, -⟩, -, rfl⟩ := e0
  have hml : ((cs.drop s).take len).length = len := by rw [List.length_take, List.length_drop]; omega
  have hr := run_copy_row (P := Try.prog) w 37 37 ty 3 g o dLen dCap ⟨g, s, none⟩ len sCap cur 3 (((cs.drop s).take len).map (Value.int .i64)) Try.underlying37 size1N hg (by rw [List.length_map, hml]; exact (Nat.min_eq_left hd).symm)
    (fun j v hj => by
      have hjl : j < len := by
        have := (List.getElem?_eq_some_iff.1 hj).1
        rw [List.length_map, hml] at this
        exact this
      rw [show (⟨g, s, none⟩ : Addr).add j = ⟨g, s + j, none⟩ by unfold Addr.add; split <;> simp_all, hcell (s + j) (by omega), ← hj, List.getElem?_map, List.getElem?_map, List.getElem?_take, if_pos hjl, List.getElem?_drop])
    (by rw [List.length_map, hml]; omega) (oneN _)
  rw [List.length_map, hml] at hr
  refine ⟨_, hr, ⟨?_, .inr ⟨g, c, _, rfl, hb, setRow_heap w g cur _ 3 _ hg, hn, hm, ?_, ?_⟩⟩, ⟨rfl, rfl, rfl, by simp [World.setRow], fun k _ hk => ?_⟩⟩
  · simp only [List.length_map, List.length_append, List.length_take, List.length_drop]; omega
  · have : cur.toList.length = c * 1 := by simpa using hsz
    simp only [List.size_toArray, List.length_append, List.length_take, List.length_drop, List.length_map]
    omega
  · have hR : cur.toList = cs.map (Value.int .i64) ++ cur.toList.drop L := by
      have := ht
      rw [Nat.mul_one] at this
      rw [← this, List.take_append_drop]
    have hX : cur.toList.take o ++ ((cs.drop s).take len).map (Value.int .i64) ++ cur.toList.drop (o + len) = ((cs.take o ++ (cs.drop s).take len ++ cs.drop (o + len)).map (Value.int .i64)) ++ cur.toList.drop L := by
      conv => lhs; rw [hR]
      rw [List.take_append_of_le_length (by rw [List.length_map]; omega), List.drop_append_of_le_length (by rw [List.length_map]; omega)]
      simp only [List.map_append, List.map_take, List.map_drop, List.append_assoc]
    show List.take (L * 1) (cur.toList.take o ++ ((cs.drop s).take len).map (Value.int .i64) ++ cur.toList.drop (o + len)) = _
    rw [hX, Nat.mul_one, List.take_append_of_le_length (by simp only [List.length_map, List.length_append, List.length_take, List.length_drop]; omega)]
    exact List.take_of_length_le (by simp only [List.length_map, List.length_append, List.length_take, List.length_drop]; omega)
  · simp [World.setRow, Array.getElem?_modify, show g ≠ k from fun e => hk e.symm]

/-- The two rows in the midst of it. -/
structure MMidN (w : World) (g1 g2 c2 g c : Nat) (a b : List Int) (n j : Nat) (wr : World) (cs : List Int) : Prop where
  tail : Tail ltN a b n j cs
  row : wr.ownsRow 0 3 1 (.slice (some ⟨g, 0, none⟩) (a.length + b.length) c) (a.length + b.length) (cs.map (Value.int .i64))
  from_ : wr.ownsRow 0 3 1 (.slice (some ⟨g2, 0, none⟩) b.length c2) b.length (b.map (Value.int .i64))
  turned : Turned (fun k => k = g1) w wr
  ne : g ≠ g2
  place : g = g1 ∨ w.heap.size ≤ g

theorem MMidN.drewN {w : World} {g1 g2 c2 g c : Nat} {a b : List Int} {n j : Nat} {wr : World} {cs : List Int} (h : MMidN w g1 g2 c2 g c a b n j wr cs) (q : Nat) : MMidN w g1 g2 c2 g c a b n j (wr.drewN q) cs :=
  ⟨h.tail, h.row, h.from_, h.turned.drewN q, h.ne, h.place⟩

theorem rowCellN {w : World} {g L c : Nat} {cs : List Int} (h : w.ownsRow 0 3 1 (.slice (some ⟨g, 0, none⟩) L c) L (cs.map (Value.int .i64))) {i : Nat} (hi : i < L) : w.cell? ⟨g, i, none⟩ = some ((Value.int .i64) (cs.getD i (0 : Int))) := by
  have hl : cs.length = L := by simpa using h.1
  rw [h.cellAt i (by omega), List.getElem?_map]
  simp [List.getD, show i < cs.length by omega]

/-- The moved things and the next thing of 'b'. -/
theorem MMidN.next {w : World} {g1 g2 c2 g c : Nat} {a b : List Int} {n j : Nat} {wr w2 : World} {cs : List Int} (ha : Rising ltN a) (hb : Rising ltN b) (hd : ∀ k ∈ a, k ∉ b) (h : MMidN w g1 g2 c2 g c a b n (j + 1) wr cs)
    (hr : w2.ownsRow 0 3 1 (.slice (some ⟨g, 0, none⟩) (a.length + b.length) c) (a.length + b.length) ((cs.take (cnt ltN (a.take n) (b.getD j (0 : Int)) + j + 1) ++ (cs.drop (cnt ltN (a.take n) (b.getD j (0 : Int)))).take (n - cnt ltN (a.take n) (b.getD j (0 : Int))) ++ cs.drop (n + j + 1)).map (Value.int .i64)))
    (ht : Turned (fun k => k = g) wr w2) : MMidN w g1 g2 c2 g c a b (cnt ltN (a.take n) (b.getD j (0 : Int))) j (w2.setCell ⟨g, cnt ltN (a.take n) (b.getD j (0 : Int)) + j, none⟩ ((Value.int .i64) (b.getD j (0 : Int)))) (laid cs (cnt ltN (a.take n) (b.getD j (0 : Int))) j n (b.getD j (0 : Int))) := by
  have hj := h.tail.hj
  have hx : b.drop j = b.getD j (0 : Int) :: b.drop (j + 1) := by
    rw [List.drop_eq_getElem_cons (by omega)]
    simp [List.getD, show j < b.length by omega]
  have hT := h.tail.step linN ha hb hd hx
  have hg2 : g2 < wr.heap.size := (h.from_.lt g2 rfl).2
  have hset := hr.stored (cnt ltN (a.take n) (b.getD j (0 : Int)) + j) ((Value.int .i64) (b.getD j (0 : Int)))
  have t2 : Turned (fun k => k = g) wr (w2.setCell ⟨g, cnt ltN (a.take n) (b.getD j (0 : Int)) + j, none⟩ ((Value.int .i64) (b.getD j (0 : Int)))) := ht.trans (turned_setCell w2 ⟨g, _, none⟩ _ rfl)
  refine ⟨hT, ?_, ?_, ?_, h.ne, h.place⟩
  · unfold laid
    rw [List.map_set]
    exact hset.1
  · refine ⟨h.from_.1, ?_⟩
    rcases h.from_.2 with hn | ⟨g', cap, cur, e, hb', hgg, rest⟩
    · exact .inl hn
    · refine .inr ⟨g', cap, cur, e, hb', ?_, rest⟩
      simp only [Value.slice.injEq, Option.some.injEq, Addr.mk.injEq] at e
      obtain ⟨⟨e1, -⟩, -⟩ := e
      rw [← e1] at hgg ⊢
      exact (t2.block g2 hg2 (fun e => h.ne e.symm)).trans hgg
  · have t1 := h.turned
    refine ⟨t2.os.trans t1.os, t2.tape.trans t1.tape, t2.output.trans t1.output, Nat.le_trans t1.size t2.size, fun k hk hne => ?_⟩
    refine (t2.block k (Nat.lt_of_lt_of_le hk t1.size) (fun e => ?_)).trans (t1.block k hk hne)
    rcases h.place with e2 | e2
    · exact hne (by rw [← e2]; exact e)
    · omega
end Go.Proofs.Ytfhidghjmookhaa
