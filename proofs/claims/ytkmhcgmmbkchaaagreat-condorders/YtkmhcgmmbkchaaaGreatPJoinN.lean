/- Join: what it leaves. -/
import Derived.Test.YtkmhcgmmbkchaaaGreatPMath
import Derived.Laws.CopyRow
import Derived.Deep.RegionHeld3
import Derived.Deep.CutRange
namespace Go.Proofs.YtkmhcgmmbkchaaaGreat

section
open Go.RowKit Go.Maps
theorem size1N : (Tryz.prog.info? 3).map (·.size) = some 1 := by kernel_rfl
theorem oneN (l : List Int) : ∀ u ∈ l.map (Value.int .i64), u.oneCell' = true := by
  intro u hu
  obtain ⟨x, -, rfl⟩ := List.mem_map.1 hu
  rfl

/-- A row's things are moved within it. -/
theorem row_copyN {w : World} {g L c o s len dLen dCap sCap : Nat} {cs : List Int} (h : w.ownsRow 0 3 1 (.slice (some ⟨g, 0, none⟩) L c) L (cs.map (Value.int .i64))) (ho : o + len ≤ L) (hs : s + len ≤ L) (hd : len ≤ dLen) (ty : TypeId) :
    ∃ w', (Builtin.copy_ #[25, 25] ty #[.slice (some ⟨g, o, none⟩) dLen dCap, .slice (some ⟨g, s, none⟩) len sCap]).run Tryz.prog w = .ok (goInt len) w' ∧
      w'.ownsRow 0 3 1 (.slice (some ⟨g, 0, none⟩) L c) L ((cs.take o ++ (cs.drop s).take len ++ cs.drop (o + len)).map (Value.int .i64)) ∧ Turned (fun b => b = g) w w' := by
  have hl : cs.length = L := by simpa using h.1
  have hcell := h.cellAt
  rcases h.2 with ⟨e0, -⟩ | ⟨g', c', cur, e0, hb, hg, hn, hm, hsz, ht⟩
  · cases e0
  simp only [Value.slice.injEq, Option.some.injEq, Addr.mk.injEq] at e0
  obtain ⟨⟨rfl, -⟩, -, rfl⟩ := e0
  have hml : ((cs.drop s).take len).length = len := by rw [List.length_take, List.length_drop]; omega
  have hr := run_copy_row (P := Tryz.prog) w 25 25 ty 3 g o dLen dCap ⟨g, s, none⟩ len sCap cur 3 (((cs.drop s).take len).map (Value.int .i64)) Tryz.underlying25 size1N hg (by rw [List.length_map, hml]; exact (Nat.min_eq_left hd).symm)
    (fun j v hj => by
      have hjl : j < len := by
        have := (List.getElem?_eq_some_iff.1 hj).1
        rw [List.length_map, hml] at this
        exact this
      rw [show (⟨g, s, none⟩ : Addr).add j = ⟨g, s + j, none⟩ by unfold Addr.add; split <;> simp_all, hcell (s + j) (by omega), ← hj, List.getElem?_map, List.getElem?_map, List.getElem?_take, if_pos hjl, List.getElem?_drop])
    (by rw [List.length_map, hml]; omega) (oneN _)
  rw [List.length_map, hml] at hr
  refine ⟨_, hr, ⟨?_, .inr ⟨g, c, _, rfl, hb, setRow_heap w g cur _ 3 _ hg, hn, hm, ?_, ?_⟩⟩, ⟨rfl, rfl, rfl, by simp [World.setRow], fun k _ hk => ?_⟩⟩
  · simp only [List.length_map, List.length_append, List.length_take, List.length_drop]; omega
  · have : cur.toList.length = c * 1 := by simpa using hsz
    simp only [List.size_toArray, List.length_append, List.length_take, List.length_drop, List.length_map]
    omega
  · have hR : cur.toList = cs.map (Value.int .i64) ++ cur.toList.drop L := by
      have := ht
      rw [Nat.mul_one] at this
      rw [← this, List.take_append_drop]
    have hX : cur.toList.take o ++ ((cs.drop s).take len).map (Value.int .i64) ++ cur.toList.drop (o + len) = ((cs.take o ++ (cs.drop s).take len ++ cs.drop (o + len)).map (Value.int .i64)) ++ cur.toList.drop L := by
      conv => lhs; rw [hR]
      rw [List.take_append_of_le_length (by rw [List.length_map]; omega), List.drop_append_of_le_length (by rw [List.length_map]; omega)]
      simp only [List.map_append, List.map_take, List.map_drop, List.append_assoc]
    show List.take (L * 1) (cur.toList.take o ++ ((cs.drop s).take len).map (Value.int .i64) ++ cur.toList.drop (o + len)) = _
    rw [hX, Nat.mul_one, List.take_append_of_le_length (by simp only [List.length_map, List.length_append, List.length_take, List.length_drop]; omega)]
    exact List.take_of_length_le (by simp only [List.length_map, List.length_append, List.length_take, List.length_drop]; omega)
  · simp [World.setRow, Array.getElem?_modify, show g ≠ k from fun e => hk e.symm]

/-- The two rows in the midst of it. -/
structure MMidN (w : World) (g1 g2 c2 g c : Nat) (a b : List Int) (n j : Nat) (wr : World) (cs : List Int) : Prop where
  tail : Tail ltN a b n j cs
  row : wr.ownsRow 0 3 1 (.slice (some ⟨g, 0, none⟩) (a.length + b.length) c) (a.length + b.length) (cs.map (Value.int .i64))
  from_ : wr.ownsRow 0 3 1 (.slice (some ⟨g2, 0, none⟩) b.length c2) b.length (b.map (Value.int .i64))
  turned : Turned (fun k => k = g1) w wr
  ne : g ≠ g2
  place : g = g1 ∨ w.heap.size ≤ g

theorem MMidN.drewN {w : World} {g1 g2 c2 g c : Nat} {a b : List Int} {n j : Nat} {wr : World} {cs : List Int} (h : MMidN w g1 g2 c2 g c a b n j wr cs) (q : Nat) : MMidN w g1 g2 c2 g c a b n j (wr.drewN q) cs :=
  ⟨h.tail, h.row, h.from_, h.turned.drewN q, h.ne, h.place⟩

theorem rowCellN {w : World} {g L c : Nat} {cs : List Int} (h : w.ownsRow 0 3 1 (.slice (some ⟨g, 0, none⟩) L c) L (cs.map (Value.int .i64))) {i : Nat} (hi : i < L) : w.cell? ⟨g, i, none⟩ = some ((Value.int .i64) (cs.getD i (0 : Int))) := by
  have hl : cs.length = L := by simpa using h.1
  rw [h.cellAt i (by omega), List.getElem?_map]
  simp [List.getD, show i < cs.length by omega]

/-- The moved things and the next thing of 'b'. -/
theorem MMidN.next {w : World} {g1 g2 c2 g c : Nat} {a b : List Int} {n j : Nat} {wr w2 : World} {cs : List Int} (ha : Rising ltN a) (hb : Rising ltN b) (hd : ∀ k ∈ a, k ∉ b) (h : MMidN w g1 g2 c2 g c a b n (j + 1) wr cs)
    (hr : w2.ownsRow 0 3 1 (.slice (some ⟨g, 0, none⟩) (a.length + b.length) c) (a.length + b.length) ((cs.take (cnt ltN (a.take n) (b.getD j (0 : Int)) + j + 1) ++ (cs.drop (cnt ltN (a.take n) (b.getD j (0 : Int)))).take (n - cnt ltN (a.take n) (b.getD j (0 : Int))) ++ cs.drop (n + j + 1)).map (Value.int .i64)))
    (ht : Turned (fun k => k = g) wr w2) : MMidN w g1 g2 c2 g c a b (cnt ltN (a.take n) (b.getD j (0 : Int))) j (w2.setCell ⟨g, cnt ltN (a.take n) (b.getD j (0 : Int)) + j, none⟩ ((Value.int .i64) (b.getD j (0 : Int)))) (laid cs (cnt ltN (a.take n) (b.getD j (0 : Int))) j n (b.getD j (0 : Int))) := by
  have hj := h.tail.hj
  have hx : b.drop j = b.getD j (0 : Int) :: b.drop (j + 1) := by
    rw [List.drop_eq_getElem_cons (by omega)]
    simp [List.getD, show j < b.length by omega]
  have hT := h.tail.step linN ha hb hd hx
  have hg2 : g2 < wr.heap.size := (h.from_.lt g2 rfl).2
  have hset := hr.stored (cnt ltN (a.take n) (b.getD j (0 : Int)) + j) ((Value.int .i64) (b.getD j (0 : Int)))
  have t2 : Turned (fun k => k = g) wr (w2.setCell ⟨g, cnt ltN (a.take n) (b.getD j (0 : Int)) + j, none⟩ ((Value.int .i64) (b.getD j (0 : Int)))) := ht.trans (turned_setCell w2 ⟨g, _, none⟩ _ rfl)
  refine ⟨hT, ?_, ?_, ?_, h.ne, h.place⟩
  · unfold laid
    rw [List.map_set]
    exact hset.1
  · refine ⟨h.from_.1, ?_⟩
    rcases h.from_.2 with hn | ⟨g', cap, cur, e, hb', hgg, rest⟩
    · exact .inl hn
    · refine .inr ⟨g', cap, cur, e, hb', ?_, rest⟩
      simp only [Value.slice.injEq, Option.some.injEq, Addr.mk.injEq] at e
      obtain ⟨⟨e1, -⟩, -⟩ := e
      rw [← e1] at hgg ⊢
      exact (t2.block g2 hg2 (fun e => h.ne e.symm)).trans hgg
  · have t1 := h.turned
    refine ⟨t2.os.trans t1.os, t2.tape.trans t1.tape, t2.output.trans t1.output, Nat.le_trans t1.size t2.size, fun k hk hne => ?_⟩
    refine (t2.block k (Nat.lt_of_lt_of_le hk t1.size) (fun e => ?_)).trans (t1.block k hk hne)
    rcases h.place with e2 | e2
    · exact hne (by rw [← e2]; exact e)
    · omega
end

section
open Go.RowKit Go.Maps
/-- Two rows are laid one behind the other. -/
theorem joinedN {w : World} {g1 g2 c1 c2 : Nat} {a b : List Int} (ha : w.ownsRow 0 3 1 (.slice (some ⟨g1, 0, none⟩) a.length c1) a.length (a.map (Value.int .i64))) (hb : w.ownsRow 0 3 1 (.slice (some ⟨g2, 0, none⟩) b.length c2) b.length (b.map (Value.int .i64))) (hne : g1 ≠ g2) (ha0 : a ≠ []) (hn : a.length + b.length < 1099511627776) :
    ∃ g c w', (Builtin.append_ #[25, 25] 25 #[.slice (some ⟨g1, 0, none⟩) a.length c1, .slice (some ⟨g2, 0, none⟩) b.length c2]).run Tryz.prog w = .ok (.slice (some ⟨g, 0, none⟩) (a.length + b.length) c) w' ∧ a.length + b.length ≤ c ∧ MMidN w g1 g2 c2 g c a b a.length b.length w' (a ++ b) := by
  obtain ⟨i0, hi0, hz0, hzs, hzb⟩ := info_parts info3N
  obtain ⟨v', w', hr, hown', hgr, -, hloc⟩ := run_append_own_at (P := Tryz.prog) w 0 25 25 3 i0 _ 1 8 Tryz.underlying25 hi0 hz0 hzs hzb rfl (by omega) _ a.length _ ha ⟨g2, 0, none⟩ b.length c2 (b.map (Value.int .i64)) (by simp)
    (fun j u hj => hb.cells (g := g2) rfl j u hj) (oneN b) (by unfold maxLen; omega) (by omega) (Nat.zero_le _)
  have hpos : 0 < a.length := List.length_pos_iff.2 ha0
  rcases hown'.2 with ⟨-, h3⟩ | ⟨g, c, cur, rfl, -, hgg, hc, -⟩
  · omega
  have hg2 : g2 < w.heap.size := (hb.lt g2 rfl).2
  have hpl : g = g1 ∨ w.heap.size ≤ g := by
    rcases hloc with e | e
    · simp [Value.ownBlock] at e; exact .inl e
    · simp [Value.ownBlock] at e; exact .inr (by omega)
  refine ⟨g, c, w', hr, hc, tail_start a b, by rw [List.map_append]; exact hown', ?_, turned_grown hgr rfl, ?_, hpl⟩
  · exact hb.kept hgr (.inr (by simp [Value.ownBlock]; exact fun e => hne e.symm))
  · rcases hpl with e | e
    · rw [e]; exact hne
    · omega

/-- What merge leaves. -/
def MergedN (w : World) (g1 g c : Nat) (a b : List Int) (w' : World) : Prop :=
  ∃ cs : List Int, Rising ltN cs ∧ (∀ k, k ∈ cs ↔ k ∈ a ∨ k ∈ b) ∧ cs.length = a.length + b.length ∧ w'.ownsRow 0 3 1 (.slice (some ⟨g, 0, none⟩) (a.length + b.length) c) (a.length + b.length) (cs.map (Value.int .i64)) ∧ Turned (fun k => k = g1) w w' ∧ (g = g1 ∨ w.heap.size ≤ g)

set_option maxHeartbeats 4000000 in
set_option maxRecDepth 100000 in
theorem mergeN {g1 g2 c1 c2 : Nat} (a b : List Int) (w : World) (ha : w.ownsRow 0 3 1 (.slice (some ⟨g1, 0, none⟩) a.length c1) a.length (a.map (Value.int .i64))) (hb : w.ownsRow 0 3 1 (.slice (some ⟨g2, 0, none⟩) b.length c2) b.length (b.map (Value.int .i64))) (hne : g1 ≠ g2) (ha0 : a ≠ [])
    (ra : Rising ltN a) (rb : Rising ltN b) (hd : ∀ k ∈ a, k ∉ b) (hn : a.length + b.length < 1099511627776) :
    Calls Tryz.prog 93 #[.slice (some ⟨g1, 0, none⟩) a.length c1, .slice (some ⟨g2, 0, none⟩) b.length c2] w fun e w' => ∃ g c, e = .returned (.slice (some ⟨g, 0, none⟩) (a.length + b.length) c) ∧ Hid (MergedN w g1 g c a b w') := by
  obtain ⟨g, c, w1, hr1, hcap, hM1⟩ := joinedN ha hb hne ha0 hn
  have HM1 : Hid (∃ cs, MMidN w g1 g2 c2 g c a b a.length b.length w1 cs) := ⟨_, hM1⟩
  have HD : Hid (∀ n wr cs, MMidN w g1 g2 c2 g c a b n 0 wr cs → MergedN w g1 g c a b wr) := fun n wr cs h => by
    obtain ⟨d1, d2⟩ := h.tail.done ra
    exact ⟨cs, d1, d2, h.tail.len, h.row, h.turned, h.place⟩
  have HB : Hid (∀ n j wr cs, MMidN w g1 g2 c2 g c a b n (j + 1) wr cs → ∀ q, Calls Tryz.prog 70 #[.slice (some ⟨g, 0, none⟩) n c, (Value.int .i64) (b.getD j (0 : Int))] (wr.drewN q) fun e w' => ∃ (f : Bool) (q' : Nat), e = .returned (.tuple #[.int .i64 (cnt ltN (a.take n) (b.getD j (0 : Int)) : Nat), .bool f]) ∧ w' = (wr.drewN q).drewN q') := fun n j wr cs h q => by
    have hlen := h.tail.len
    have hnn := h.tail.hn
    have := bsN g c n cs (b.getD j (0 : Int)) (wr.drewN q) (by omega) (by omega) (fun i hi => rowCellN h.row (by omega)) (by rw [h.tail.head]; exact ra.sublist (List.take_sublist _ _))
    rwa [h.tail.head] at this
  have HC : Hid (∀ n j wr cs, MMidN w g1 g2 c2 g c a b n (j + 1) wr cs → cnt ltN (a.take n) (b.getD j (0 : Int)) ≤ n ∧ n ≤ a.length ∧ j < b.length ∧ wr.ownsRow 0 3 1 (.slice (some ⟨g, 0, none⟩) (a.length + b.length) c) (a.length + b.length) (cs.map (Value.int .i64)) ∧ wr.cell? ⟨g2, j, none⟩ = some ((Value.int .i64) (b.getD j (0 : Int)))) := fun n j wr cs h => by
    have h1 := cnt_le (lt := ltN) (a.take n) (b.getD j (0 : Int))
    have h2 := h.tail.hn
    have h3 := h.tail.hj
    refine ⟨by rw [List.length_take] at h1; omega, h2, by omega, h.row, rowCellN h.from_ (by omega)⟩
  have HN : Hid (∀ n j wr cs, MMidN w g1 g2 c2 g c a b n (j + 1) wr cs → ∀ w2, w2.ownsRow 0 3 1 (.slice (some ⟨g, 0, none⟩) (a.length + b.length) c) (a.length + b.length) ((cs.take (cnt ltN (a.take n) (b.getD j (0 : Int)) + j + 1) ++ (cs.drop (cnt ltN (a.take n) (b.getD j (0 : Int)))).take (n - cnt ltN (a.take n) (b.getD j (0 : Int))) ++ cs.drop (n + j + 1)).map (Value.int .i64)) → Turned (fun k => k = g) wr w2 →
      w2.cell? ⟨g2, j, none⟩ = some ((Value.int .i64) (b.getD j (0 : Int))) ∧ (∀ o, w2.frozen? ⟨g, o, none⟩ = false) ∧ (∃ u, w2.cell? ⟨g, cnt ltN (a.take n) (b.getD j (0 : Int)) + j, none⟩ = some u) ∧ MMidN w g1 g2 c2 g c a b (cnt ltN (a.take n) (b.getD j (0 : Int))) j (w2.setCell ⟨g, cnt ltN (a.take n) (b.getD j (0 : Int)) + j, none⟩ ((Value.int .i64) (b.getD j (0 : Int)))) (laid cs (cnt ltN (a.take n) (b.getD j (0 : Int))) j n (b.getD j (0 : Int)))) := fun n j wr cs h w2 hr ht => by
    have h1 := cnt_le (lt := ltN) (a.take n) (b.getD j (0 : Int))
    rw [List.length_take] at h1
    have h2 := h.tail.hn
    have h3 := h.tail.hj
    refine ⟨?_, fun o => hr.frozenAt o, ⟨_, rowCellN hr (by omega)⟩, h.next ra rb hd hr ht⟩
    have hc := rowCellN h.from_ (i := j) (by omega)
    exact (cell_of_heap (ht.block g2 (h.from_.lt g2 rfl).2 (fun e => h.ne e.symm))).trans hc
  have HL : Hid (a.length + b.length < 1099511627776) := hn
  generalize hLa : a.length = La at *
  generalize hLb : b.length = Lb at *
  have hwb : IntKind.i64.wrap ((Lb : Int) - 1) = (Lb : Int) - 1 := by rw [IntKind.wrap_i64]; omega
  have HCAP := hide hcap
  clear ha hb hne ha0 hd hn hM1 hLa hLb hcap
  go_enter Tryz.func93, Tryz.ntmps93
  go_wp2_with (at_builtin; refine Lib.wpList_append_run _ rfl _ _ 25 25 rfl (.slice (some ⟨g1, 0, none⟩) La c1) (.slice (some ⟨g2, 0, none⟩) Lb c2) rfl rfl _ _ hr1 ?_)
  go_loopw [5, 7] (fun s5 s7 wr => ∃ n j : Nat, s5 = .int .i64 n ∧ s7 = .int .i64 ((j : Int) - 1) ∧ Hid (∃ cs, MMidN w g1 g2 c2 g c a b n j wr cs)) (fun _ s7 _ => (intOf s7 + 1).toNat)
  case atStart => exact ⟨La, Lb, rfl, rfl, unhide HM1⟩
  case round =>
    obtain ⟨n, j, rfl, rfl, HM⟩ := hrel
    rcases j with _ | j
    · obtain ⟨cs, hM⟩ := unhide HM
      have HR := hide (unhide HD n wr cs hM)
      clear HM hM HB HC HN HD HM1
      go_wp2_with fail
      go_ret
      exact ⟨g, c, rfl, unhide HR⟩
    · have e1 : (((j + 1 : Nat) : Int) - 1) = (j : Int) := by omega
      rw [e1]
      clear e1
      obtain ⟨cs, hM⟩ := unhide HM
      obtain ⟨hp, hna, hjb, hrow, d1⟩ := unhide HC n j wr cs hM
      have CB := hide (unhide HB n j wr cs hM)
      have HX := hide (unhide HN n j wr cs hM)
      have HROW := hide hrow
      clear hrow
      have hj0 : (0 : Int) ≤ (j : Int) := by omega
      have hjz : (j : Int) < (Lb : Int) := by omega
      have hnc : (n : Int) ≤ (c : Int) := by have := unhide HCAP; omega
      have hn0 : (0 : Int) ≤ (n : Int) := by omega
      generalize cnt ltN (a.take n) (b.getD j (0 : Int)) = p at *
      generalize b.getD j (0 : Int) = x at *
      clear HM hM HB HC HN HD HM1 hwb
      go_upto_region 6 with fail
      go_cut [8] from 22 to 32 (fun s8 wq => s8 = .int .i64 p ∧ ∃ q, wq = wr.drewN q)
      case first =>
        go_region_held3 (fun w' => w'.cell? ⟨g2, j, none⟩ = some ((Value.int .i64) x)) (first | exact d1 | (go_keep; done)) ((go_at_call 70; refine (unhide CB _).mono ?_; rintro e w' ⟨fb, q', rfl, rfl⟩))
        all_goals
          go_wp2_with fail
          go_meet
          case rel => exact ⟨rfl, _, rfl⟩
      case rest =>
        obtain ⟨rfl, q, rfl⟩ := hcut
        obtain ⟨t, ht⟩ : ∃ t, t = p + j := ⟨_, rfl⟩
        obtain ⟨o, ho⟩ : ∃ o, o = p + j + 1 := ⟨_, rfl⟩
        have hw1 : IntKind.i64.wrap ((p : Int) + (j : Int)) = (t : Int) := by rw [IntKind.wrap_i64]; have := unhide HL; omega
        have hw2 : IntKind.i64.wrap ((t : Int) + 1) = (o : Int) := by rw [IntKind.wrap_i64]; have := unhide HL; omega
        have hb1 : (o : Int) ≤ (La : Int) + (Lb : Int) := by omega
        have hb2 : (p : Int) ≤ (n : Int) := by omega
        clear CB
        have htl : (t : Int) < (La : Int) + (Lb : Int) := by omega
        have hwj : IntKind.i64.wrap ((j : Int) - 1) = (j : Int) - 1 := by rw [IntKind.wrap_i64]; have := unhide HL; omega
        by_cases hpn : p = n
        · subst hpn
          obtain ⟨w2, hw⟩ : ∃ w2, w2 = (wr.drewN q).drew := ⟨_, rfl⟩
          have hown2 : w2.ownsRow 0 3 1 (.slice (some ⟨g, 0, none⟩) (La + Lb) c) (La + Lb) ((cs.take (p + j + 1) ++ (cs.drop p).take (p - p) ++ cs.drop (p + j + 1)).map (Value.int .i64)) := by
            rw [hw, Nat.sub_self, List.take_zero, List.append_nil, List.take_append_drop]
            exact unhide HROW
          obtain ⟨f1, f2, ⟨u, f3⟩, hM2⟩ := unhide HX w2 hown2 (by rw [hw]; exact ⟨rfl, rfl, rfl, Nat.le_refl _, fun _ _ _ => rfl⟩)
          rw [← ht] at f3 hM2
          have HM2 := hide hM2
          have f4 := f2 t
          have hr0 : ∀ (d s : Option Addr) (dl dc sc : Nat), (Builtin.copy_ #[25, 25] 3 #[.slice d dl dc, .slice s 0 sc]).run Tryz.prog (wr.drewN (q + 1)) = .ok (goInt 0) w2 := fun d s dl dc sc => by
            rw [hw]
            exact run_copy_none _ 25 25 3 3 d s dl dc 0 sc Tryz.underlying25 size1N (Nat.zero_min _)
          have hcp : ¬ c = p := by have := unhide HCAP; omega
          have hoc : o ≤ c := by have := unhide HCAP; omega
          clear ho ht hown2 hM2 HX f2 hw
          rcases Nat.lt_or_ge o c with hlt | hge
          · have hco : ¬ c = o := by omega
            clear hoc hlt
            go_upto_region 7 with fail
            go_region
            all_goals
              go_wp2_with fail
              go_roundw
              case rel => exact ⟨p, j, rfl, rfl, ⟨_, unhide HM2⟩⟩
              case measure => simp [intOf]
          · obtain rfl : c = o := by omega
            clear hoc hge
            go_upto_region 7 with fail
            go_region
            all_goals
              go_wp2_with fail
              go_roundw
              case rel => exact ⟨p, j, rfl, rfl, ⟨_, unhide HM2⟩⟩
              case measure => simp [intOf]
        · have hplt : p < n := by omega
          have hco : ¬ c = o := by have := unhide HCAP; omega
          have hcp : ¬ c = p := by have := unhide HCAP; omega
          obtain ⟨w2, hr2, hown2, ht2⟩ := row_copyN (o := o) (s := p) (len := n - p) (dLen := La + Lb - o) (dCap := c - o) (sCap := c - p) (w := (wr.drewN q).drew) (unhide HROW) (by omega) (by omega) (by omega) 3
          have hr3 : (Builtin.copy_ #[25, 25] 3 #[.slice (some ⟨g, o, none⟩) (La + Lb - o) (c - o), .slice (some ⟨g, p, none⟩) (n - p) (c - p)]).run Tryz.prog (wr.drewN (q + 1)) = .ok (goInt ((n - p : Nat) : Int)) w2 := hr2
          rw [show o + (n - p) = n + j + 1 by omega, ho] at hown2
          obtain ⟨f1, f2, ⟨u, f3⟩, hM2⟩ := unhide HX w2 hown2 ⟨ht2.os, ht2.tape, ht2.output, ht2.size, ht2.block⟩
          rw [← ht] at f3 hM2
          have HM2 := hide hM2
          have f4 := f2 t
          clear ho ht hown2 ht2 hM2 HX f2 hr2
          go_upto_region 7 with fail
          go_region
          all_goals
            go_wp2_with fail
            go_roundw
            case rel => exact ⟨p, j, rfl, rfl, ⟨_, unhide HM2⟩⟩
            case measure => simp [intOf]
end

section
open Go.RowKit Go.Maps
theorem PAtN.drewN {w : World} {p m : Nat} {S : List (Part Int)} (h : PAtN w p m S) (q : Nat) : PAtN (w.drewN q) p m S := h.kept (fun _ _ => rfl)

theorem PAtN.drew {w : World} {p m : Nat} {S : List (Part Int)} (h : PAtN w p m S) : PAtN w.drew p m S := h.kept (fun _ _ => rfl)

/-- In the midst of it: the two lists are one, the first j things of the lesser part are led to it. -/
structure JMidN (w0 : World) (p m : Nat) (S : List (Part Int)) (la sm z : Part Int) (j : Nat) (w : World) : Prop where
  box : w.heap[p]? = some (.cells #[.map (some m)] 85 (0, 0))
  rows : ∀ t ∈ pout sm (pout la S), RowN w t
  rowZ : RowN w z
  rowS : RowN w sm
  map : MapFn 3 klN okN w m (fun k => if k ∈ sm.ks.take j then some la.q else fOf S k) (tot S)
  turned : Turned (FootN p m S) w0 w
  q : z.q = la.q
  place : ∀ b, z.v.ownBlock = some b → la.v.ownBlock = some b ∨ w0.heap.size ≤ b
  rise : Rising ltN z.ks
  mem : ∀ k, k ∈ z.ks ↔ k ∈ la.ks ∨ k ∈ sm.ks
  len : z.ks.length = la.ks.length + sm.ks.length

theorem JMidN.start {w w5 : World} {p m g1 g c q0 : Nat} {S : List (Part Int)} {la sm : Part Int} (h : PAtN w p m S) (hla : la ∈ S) (hsm : sm ∈ S) (hne : la.q ≠ sm.q) (hv : la.v.ownBlock = some g1) (hM : MergedN (w.drewN q0) g1 g c la.ks sm.ks w5) :
    w5.cell? ⟨la.q, 0, none⟩ = some la.v ∧ w5.frozen? ⟨la.q, 0, none⟩ = false ∧ ∃ z, z.v = .slice (some ⟨g, 0, none⟩) (la.ks.length + sm.ks.length) c ∧ JMidN w p m S la sm z 0 (w5.setCell ⟨la.q, 0, none⟩ (.slice (some ⟨g, 0, none⟩) (la.ks.length + sm.ks.length) c)) := by
  obtain ⟨cs, m1, m2, m3, m4, m5, m6⟩ := hM
  obtain ⟨k1, k2⟩ := h.kinds
  obtain ⟨kl1, kl2, kl3⟩ := k2 la hla
  obtain ⟨kg1, kg2, kg3⟩ := kl3 g1 hv
  have hg1 : g1 < w.heap.size := (h.rows la hla).lt.2 g1 hv
  have hb5 : ∀ b, b < w.heap.size → b ≠ g1 → w5.heap[b]? = w.heap[b]? := fun b h1 h2 => m5.block b h1 h2
  have e1 : w5.heap[la.q]? = some (.cells #[la.v] 97 (0, 0)) := (hb5 _ (h.rows la hla).lt.1 (fun e => kg3 la hla e.symm)).trans (h.rows la hla).box
  have hb6 : ∀ b v, b < w.heap.size → b ≠ g1 → b ≠ la.q → (w5.setCell ⟨la.q, 0, none⟩ v).heap[b]? = w.heap[b]? := fun b v h1 h2 h3 => (heap_setCell_other w5 ⟨la.q, 0, none⟩ b v h3).trans (hb5 b h1 h2)
  have hrow : ∀ t ∈ S, t.q ≠ la.q → RowN (w5.setCell ⟨la.q, 0, none⟩ (.slice (some ⟨g, 0, none⟩) (la.ks.length + sm.ks.length) c)) t := fun t ht hq => by
    obtain ⟨kt1, kt2, kt3⟩ := k2 t ht
    have hta : Apart la t := (h.fam.of hla ht).resolve_left (fun e => hq (e ▸ rfl))
    refine (h.rows t ht).kept (hb6 _ _ (h.rows t ht).lt.1 (fun e => kg3 t ht e.symm) hq) (fun b hb => hb6 b _ ((h.rows t ht).lt.2 b hb) (fun e => hta.2.1 g1 hv (e ▸ hb)) ((kt3 b hb).2.2 la hla))
  have hgla : g ≠ la.q := by
    rcases m6 with e | e
    · rw [e]; exact kg3 la hla
    · have := (h.rows la hla).lt.1
      have e2 : w.heap.size ≤ g := e
      omega
  refine ⟨by rw [cell_of_row _ _ _ _ _ _ e1]; rfl, frozen_of_row _ _ _ _ _ e1, ⟨la.q, .slice (some ⟨g, 0, none⟩) (la.ks.length + sm.ks.length) c, cs⟩, rfl, ?_, fun t ht => ?_, ⟨heap_setCell_same w5 la.q 0 _ _ _ e1, ?_⟩, hrow sm hsm (fun e => hne e.symm), ?_, ?_, rfl, fun b hb => ?_, m1, m2, m3⟩
  · exact (hb6 p _ (h.lt (.inl rfl)) (fun e => kg1 e.symm) (fun e => kl1 e.symm)).trans h.box
  · obtain ⟨t1, -⟩ := mem_pout.1 ht
    obtain ⟨t2, t3⟩ := mem_pout.1 t1
    exact hrow t t2 t3
  · show (w5.setCell ⟨la.q, 0, none⟩ (.slice (some ⟨g, 0, none⟩) (la.ks.length + sm.ks.length) c)).ownsRow 0 3 1 (.slice (some ⟨g, 0, none⟩) (la.ks.length + sm.ks.length) c) cs.length (cs.map (Value.int .i64))
    rw [m3]
    refine ⟨m4.1, ?_⟩
    rcases m4.2 with hn | ⟨g', cap, cur, e, hb', hgg, rest⟩
    · exact .inl hn
    · refine .inr ⟨g', cap, cur, e, hb', ?_, rest⟩
      simp only [Value.slice.injEq, Option.some.injEq, Addr.mk.injEq] at e
      obtain ⟨⟨e5, -⟩, -⟩ := e
      rw [← e5] at hgg ⊢
      exact (heap_setCell_other w5 ⟨la.q, 0, none⟩ g _ hgla).trans hgg
  · exact (h.map.kept (hb6 m _ h.map.lt (fun e => kg2 e.symm) (fun e => kl2 e.symm))).congr (fun k _ => by simp)
  · have t1 : Turned (FootN p m S) w w5 := ⟨m5.os, m5.tape, m5.output, m5.size, fun b hb hn => hb5 b hb (fun e => hn (.inr (.inr ⟨la, hla, .inr (e ▸ hv)⟩)))⟩
    exact t1.trans (turned_setCell w5 ⟨la.q, 0, none⟩ _ (.inr (.inr ⟨la, hla, .inl rfl⟩)))
  · have hb' : some g = some b := hb
    injection hb' with hb'
    subst hb'
    rcases m6 with e | e
    · exact .inl (e ▸ hv)
    · exact .inr e

/-- One thing more is led to the greater part. -/
theorem JMidN.next {w0 w : World} {p m j : Nat} {S : List (Part Int)} {la sm z : Part Int} (h0 : PAtN w0 p m S) (hsm : sm ∈ S) (h : JMidN w0 p m S la sm z j w) (hj : j < sm.ks.length) (hn : tot S < 1099511627776) :
    w.cell? ⟨p, 0, none⟩ = some (.map (some m)) ∧ ∃ w', (Instr.mapUpdate 83 (.map (some m)) ((Value.int .i64) (sm.ks.getD j (0 : Int))) (.pointer (some ⟨la.q, 0, none⟩))).run Tryz.prog w = .ok () w' ∧ JMidN w0 p m S la sm z (j + 1) w' := by
  obtain ⟨D, ⟨es, clock, hmb, -⟩, -⟩ := h.map
  have e1 : sm.ks.getD j (0 : Int) = sm.ks[j] := by simp [List.getD, hj]
  have e2 : sm.ks.take (j + 1) = sm.ks.take j ++ [sm.ks[j]] := List.take_succ_eq_append_getElem hj
  have hin : sm.ks[j] ∈ sm.ks := List.getElem_mem hj
  rw [e1]
  obtain ⟨w', hr, g1, g2⟩ := h.map.put_ kitN (t := 83) (e := 95) Tryz.underlying83 (by unfold maxLen; omega) sm.ks[j] (h0.fam.keys sm hsm _ hin) la.q
  have hs : (if sm.ks[j] ∈ sm.ks.take j then some la.q else fOf S sm.ks[j]).isSome = true := by
    split
    · rfl
    · rw [fOf_some h0.fam hsm hin]; rfl
  rw [if_pos hs] at g1
  have ht := turned_map (S := fun b => b = m) g2 rfl
  have hkeep : ∀ (b : Nat) (cs : Array Value) (ty : TypeId), w.heap[b]? = some (Obj.cells cs ty (0, 0)) → w'.heap[b]? = w.heap[b]? := fun b cs ty hb => ht.block b (Array.getElem?_eq_some_iff.1 hb).1 (fun e => by rw [e, hmb] at hb; cases hb)
  have hrk : ∀ t, RowN w t → RowN w' t := fun t hr => by
    refine hr.kept (hkeep _ _ _ hr.box) (fun b hb => ?_)
    rcases hr.row.2 with ⟨e, -⟩ | ⟨g, cap, cur, e, -, hgg, -⟩
    · rw [e] at hb; simp [Value.ownBlock] at hb
    · rw [e] at hb
      simp [Value.ownBlock] at hb
      subst hb
      exact hkeep _ _ _ hgg
  refine ⟨by rw [cell_of_row _ _ _ _ _ _ h.box]; rfl, w', hr, (hkeep _ _ _ h.box).trans h.box, fun t ht' => hrk t (h.rows t ht'), hrk z h.rowZ, hrk sm h.rowS, g1.congr (fun k _ => ?_), h.turned.trans (ht.mono (fun b _ e => .inr (.inl e))), h.q, h.place, h.rise, h.mem, h.len⟩
  unfold put
  rw [e2]
  by_cases e : k = sm.ks[j]
  · rw [if_pos e, if_pos (List.mem_append.2 (.inr (List.mem_singleton.2 e)))]
  · rw [if_neg e]
    show _ = if k ∈ sm.ks.take j then some la.q else fOf S k
    by_cases ek : k ∈ sm.ks.take j
    · rw [if_pos ek, if_pos (List.mem_append.2 (.inl ek))]
    · rw [if_neg ek, if_neg (fun hm => (List.mem_append.1 hm).elim ek (fun h => e (List.mem_singleton.1 h)))]

/-- What Join leaves. -/
def JoinedN (w : World) (p m : Nat) (S : List (Part Int)) (x y : Part Int) (w' : World) : Prop :=
  ∃ z : Part Int, (∀ k, k ∈ z.ks ↔ k ∈ x.ks ∨ k ∈ y.ks) ∧ z.ks.length = x.ks.length + y.ks.length ∧ PAtN w' p m (pout y (pout x S) ++ [z]) ∧ Turned (FootN p m S) w w' ∧ ∀ j, FootN p m (pout y (pout x S) ++ [z]) j → FootN p m S j ∨ w.heap.size ≤ j

theorem JMidN.done {w w' : World} {p m : Nat} {S : List (Part Int)} {la sm z : Part Int} (h0 : PAtN w p m S) (hla : la ∈ S) (hsm : sm ∈ S) (hne : la.q ≠ sm.q) (h : JMidN w p m S la sm z sm.ks.length w') : JoinedN w p m S la sm w' := by
  have hf1 := h0.fam.pout la
  have hsm1 : sm ∈ pout la S := mem_pout.2 ⟨hsm, fun e => hne e.symm⟩
  have hf2 := hf1.pout sm
  have hmap := h.map
  rw [List.take_length] at hmap
  have hsub : ∀ t ∈ pout sm (pout la S), t ∈ S ∧ t.q ≠ la.q ∧ t.q ≠ sm.q := fun t ht => by
    obtain ⟨t1, t2⟩ := mem_pout.1 ht
    obtain ⟨t3, t4⟩ := mem_pout.1 t1
    exact ⟨t3, t4, t2⟩
  refine ⟨z, h.mem, h.len, ⟨h.box, fun t ht => ?_, hf2.append (fam_one h.rise ?_ (fun k hk => ?_)) (fun t ht y hy => ?_), ?_⟩, h.turned, fun j hj => ?_⟩
  · rcases List.mem_append.1 ht with ht | ht
    · exact h.rows t ht
    · rw [List.mem_singleton.1 ht]; exact h.rowZ
  · intro e
    have hl := h.len
    rw [e] at hl
    have := h0.fam.some_ la hla
    exact this (List.eq_nil_of_length_eq_zero (by simp at hl; omega))
  · rcases (h.mem k).1 hk with e | e
    · exact h0.fam.keys la hla k e
    · exact h0.fam.keys sm hsm k e
  · rw [List.mem_singleton.1 hy]
    obtain ⟨t1, t2, t3⟩ := hsub t ht
    have a1 : Apart t la := (h0.fam.of t1 hla).resolve_left (fun e => t2 (e ▸ rfl))
    have a2 : Apart t sm := (h0.fam.of t1 hsm).resolve_left (fun e => t3 (e ▸ rfl))
    refine ⟨by rw [h.q]; exact t2, fun b hb e => ?_, fun k hk e => ?_⟩
    · rcases h.place b e with g | g
      · exact a1.2.1 b hb g
      · have := (h0.rows t t1).lt.2 b hb; omega
    · rcases (h.mem k).1 e with g | g
      · exact a1.2.2 k hk g
      · exact a2.2.2 k hk g
  · have t1 := tot_without h0.fam hla
    have t2 := tot_without hf1 hsm1
    rw [tot_append, tot_one, h.len, show tot (pout sm (pout la S)) + (la.ks.length + sm.ks.length) = tot S by omega]
    refine hmap.congr (fun k _ => ?_)
    rw [fOf_append, fOf_without hf1 hsm1, fOf_without h0.fam hla, fOf_one, h.q]
    by_cases es : k ∈ sm.ks
    · rw [if_pos es, if_pos es, if_pos ((h.mem k).2 (.inr es))]; rfl
    · rw [if_neg es, if_neg es]
      by_cases el : k ∈ la.ks
      · rw [if_pos el, if_pos ((h.mem k).2 (.inl el)), fOf_some h0.fam hla el]; rfl
      · rw [if_neg el, if_neg (fun e => ((h.mem k).1 e).elim el es)]; simp
  · rcases hj with e | e | ⟨t, ht, e⟩
    · exact .inl (.inl e)
    · exact .inl (.inr (.inl e))
    · rcases List.mem_append.1 ht with ht | ht
      · exact .inl (.inr (.inr ⟨t, (hsub t ht).1, e⟩))
      · rw [List.mem_singleton.1 ht] at e
        rcases e with e | e
        · exact .inl (.inr (.inr ⟨la, hla, .inl (e.trans h.q)⟩))
        · rcases h.place j e with g | g
          · exact .inl (.inr (.inr ⟨la, hla, .inr g⟩))
          · exact .inr g
end

end Go.Proofs.YtkmhcgmmbkchaaaGreat
