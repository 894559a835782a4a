/- merge: the walk. -/
import Derived.Test.YtfhidghjmookhaaMergeN
namespace Go.Proofs.Ytfhidghjmookhaa
open Go.RowKit Go.Maps

/-- Two rows are laid one behind the other. -/
theorem joinedN {w : World} {g1 g2 c1 c2 : Nat} {a b : List Int} (ha : w.ownsRow 0 3 1 (.slice (some ⟨g1, 0, none⟩) a.length c1) a.length (a.map (Value.int .i64))) (hb : w.ownsRow 0 3 1 (.slice (some ⟨g2, 0, none⟩) b.length c2) b.length (b.map (Value.int .i64))) (hne : g1 ≠ g2) (ha0 : a ≠ []) (hn : a.length + b.length < 1099511627776) :
    ∃ g c w', (Builtin.append_ #[37, 37] 37 #[.slice (some ⟨g1, 0, none⟩) a.length c1, .slice (some ⟨g2, 0, none⟩) b.length c2]).run Try.prog w = .ok (.slice (some ⟨g, 0, none⟩) (a.length + b.length) c) w' ∧ a.length + b.length ≤ c ∧ MMidN w g1 g2 c2 g c a b a.length b.length w' (a ++ b) := by
  obtain ⟨i0, hi0, hz0, hzs, hzb⟩ := info_parts info3N
  obtain ⟨v', w', hr, hown', hgr, -, hloc⟩ := run_append_own_at (P := Try.prog) w 0 37 37 3 i0 _ 1 8 Try.underlying37 hi0 hz0 hzs hzb rfl (by omega) _ a.length _ ha ⟨g2, 0, none⟩ b.length c2 (b.map (Value.int .i64)) (by simp)
    (fun j u hj => hb.cells (g := g2) rfl j u hj) (oneN b) (by unfold maxLen; omega) (by omega) (Nat.zero_le _)
  have hpos : 0 < a.length := List.length_pos_iff.2 ha0
  rcases hown'.2 with ⟨-, h3⟩ | ⟨g, c, cur, rfl, -, hgg, hc, -⟩
  · omega
  have hg2 : g2 < w.heap.size := (hb.lt g2 rfl).2
  have hpl : g = g1 ∨ w.heap.size ≤ g := by
    rcases hloc with e | e
    · simp [Value.ownBlock] at e; exact .inl e
    · simp [Value.ownBlock] at e; exact .inr (by omega)
  refine ⟨g, c, w', hr, hc, tail_start a b, by rw [List.map_append]; exact hown', ?_, turned_grown hgr rfl, ?_, hpl⟩
  · exact hb.kept hgr (.inr (by simp [Value.ownBlock]; exact fun e => hne e.symm))
  · rcases hpl with e | e
    · rw [e]; exact hne
    · omega

/-- What merge leaves. -/
def MergedN (w : World) (g1 g c : Nat) (a b : List Int) (w' : World) : Prop :=
  ∃ cs : List Int, Rising ltN cs ∧ (∀ k, k ∈ cs ↔ k ∈ a ∨ k ∈ b) ∧ cs.length = a.length + b.length ∧ w'.ownsRow 0 3 1 (.slice (some ⟨g, 0, none⟩) (a.length + b.length) c) (a.length + b.length) (cs.map (Value.int .i64)) ∧ Turned (fun k => k = g1) w w' ∧ (g = g1 ∨ w.heap.size ≤ g)

set_option maxHeartbeats 4000000 in
set_option maxRecDepth 100000 in
theorem mergeN {g1 g2 c1 c2 : Nat} (a b : List Int) (w : World) (ha : w.ownsRow 0 3 1 (.slice (some ⟨g1, 0, none⟩) a.length c1) a.length (a.map (Value.int .i64))) (hb : w.ownsRow 0 3 1 (.slice (some ⟨g2, 0, none⟩) b.length c2) b.length (b.map (Value.int .i64))) (hne : g1 ≠ g2) (ha0 : a ≠ [])
    (ra : Rising ltN a) (rb : Rising ltN b) (hd : ∀ k ∈ a, k ∉ b) (hn : a.length + b.length < 1099511627776) :
    Calls Try.prog 46 #[.slice (some ⟨g1, 0, none⟩) a.length c1, .slice (some ⟨g2, 0, none⟩) b.length c2] w fun e w' => ∃ g c, e = .returned (.slice (some ⟨g, 0, none⟩) (a.length + b.length) c) ∧ Hid (MergedN w g1 g c a b w') := by
  obtain ⟨g, c, w1, hr1, hcap, hM1⟩ := joinedN ha hb hne ha0 hn
  have HM1 : Hid (∃ cs, MMidN w g1 g2 c2 g c a b a.length b.length w1 cs) := ⟨_, hM1⟩
  have HD : Hid (∀ n wr cs, MMidN w g1 g2 c2 g c a b n 0 wr cs → MergedN w g1 g c a b wr) := fun n wr cs h => by
    obtain ⟨d1, d2⟩ := h.tail.done ra
    exact ⟨cs, d1, d2, h.tail.len, h.row, h.turned, h.place⟩
  have HB : Hid (∀ n j wr cs, MMidN w g1 g2 c2 g c a b n (j + 1) wr cs → ∀ q, Calls Try.prog 47 #[.slice (some ⟨g, 0, none⟩) n c, (Value.int .i64) (b.getD j (0 : Int))] (wr.drewN q) fun e w' => ∃ (f : Bool) (q' : Nat), e = .returned (.tuple #[.int .i64 (cnt ltN (a.take n) (b.getD j (0 : Int)) : Nat), .bool f]) ∧ w' = (wr.drewN q).drewN q') := fun n j wr cs h q => by
    have hlen := h.tail.len
    have hnn := h.tail.hn
    have := bsN g c n cs (b.getD j (0 : Int)) (wr.drewN q) (by omega) (by omega) (fun i hi => rowCellN h.row (by omega)) (by rw [h.tail.head]; exact ra.sublist (List.take_sublist _ _))
    rwa [h.tail.head] at this
  have HC : Hid (∀ n j wr cs, MMidN w g1 g2 c2 g c a b n (j + 1) wr cs → cnt ltN (a.take n) (b.getD j (0 : Int)) ≤ n ∧ n ≤ a.length ∧ j < b.length ∧ wr.ownsRow 0 3 1 (.slice (some ⟨g, 0, none⟩) (a.length + b.length) c) (a.length + b.length) (cs.map (Value.int .i64)) ∧ wr.cell? ⟨g2, j, none⟩ = some ((Value.int .i64) (b.getD j (0 : Int)))) := fun n j wr cs h => by
    have h1 := cnt_le (lt := ltN) (a.take n) (b.getD j (0 : Int))
    have h2 := h.tail.hn
    have h3 := h.tail.hj
    refine ⟨by rw [List.length_take] at h1; omega, h2, by omega, h.row, rowCellN h.from_ (by omega)⟩
  have HN : Hid (∀ n j wr cs, MMidN w g1 g2 c2 g c a b n (j + 1) wr cs → ∀ w2, w2.ownsRow 0 3 1 (.slice (some ⟨g, 0, none⟩) (a.length + b.length) c) (a.length + b.length) ((cs.take (cnt ltN (a.take n) (b.getD j (0 : Int)) + j + 1) ++ (cs.drop (cnt ltN (a.take n) (b.getD j (0 : Int)))).take (n - cnt ltN (a.take n) (b.getD j (0 : Int))) ++ cs.drop (n + j + 1)).map (Value.int .i64)) → Turned (fun k => k = g) wr w2 →
      w2.cell? ⟨g2, j, none⟩ = some ((Value.int .i64) (b.getD j (0 : Int))) ∧ (∀ o, w2.frozen? ⟨g, o, none⟩ = false) ∧ (∃ u, w2.cell? ⟨g, cnt ltN (a.take n) (b.getD j (0 : Int)) + j, none⟩ = some u) ∧ MMidN w g1 g2 c2 g c a b (cnt ltN (a.take n) (b.getD j (0 : Int))) j (w2.setCell ⟨g, cnt ltN (a.take n) (b.getD j (0 : Int)) + j, none⟩ ((Value.int .i64) (b.getD j (0 : Int)))) (laid cs (cnt ltN (a.take n) (b.getD j (0 : Int))) j n (b.getD j (0 : Int)))) := fun n j wr cs h w2 hr ht => by
    have h1 := cnt_le (lt := ltN) (a.take n) (b.getD j (0 : Int))
    rw [List.length_take] at h1
    have h2 := h.tail.hn
    have h3 := h.tail.hj
    refine ⟨?_, fun o => hr.frozenAt o, ⟨_, rowCellN hr (by omega)⟩, h.next ra rb hd hr ht⟩
    have hc := rowCellN h.from_ (i := j) (by omega)
    exact (cell_of_heap (ht.block g2 (h.from_.lt g2 rfl).2 (fun e => h.ne e.symm))).trans hc
  have HL : Hid (a.length + b.length < 1099511627776) := hn
  generalize hLa : a.length = La at *
  generalize hLb : b.length = Lb at *
  have hwb : IntKind.i64.wrap ((Lb : Int) - 1) = (Lb : Int) - 1 := by rw [IntKind.wrap_i64]; omega
  have HCAP := hide hcap
  clear ha hb hne ha0 hd hn hM1 hLa hLb hcap
  go_enter Try.func46, Try.ntmps46
  go_wp2_with (at_builtin; refine Lib.wpList_append_run _ rfl _ _ 37 37 rfl (.slice (some ⟨g1, 0, none⟩) La c1) (.slice (some ⟨g2, 0, none⟩) Lb c2) rfl rfl _ _ hr1 ?_)
  go_loopw [5, 7] (fun s5 s7 wr => ∃ n j : Nat, s5 = .int .i64 n ∧ s7 = .int .i64 ((j : Int) - 1) ∧ Hid (∃ cs, MMidN w g1 g2 c2 g c a b n j wr cs)) (fun _ s7 _ => (intOf s7 + 1).toNat)
  case atStart => exact ⟨La, Lb, rfl, rfl, unhide HM1⟩
  case round =>
    obtain ⟨n, j, rfl, rfl, HM⟩ := hrel
    rcases j with _ | j
    · obtain ⟨cs, hM⟩ := unhide HM
      have HR := hide (unhide HD n wr cs hM)
      clear HM hM HB HC HN HD HM1
      go_wp2_with fail
      go_ret
      exact ⟨g, c, rfl, unhide HR⟩
    · have e1 : (((j + 1 : Nat) : Int) - 1) = (j : Int) := by omega
      rw [e1]
      clear e1
      obtain ⟨cs, hM⟩ := unhide HM
      obtain ⟨hp, hna, hjb, hrow, d1⟩ := unhide HC n j wr cs hM
      have CB := hide (unhide HB n j wr cs hM)
      have HX := hide (unhide HN n j wr cs hM)
      have HROW := hide hrow
      clear hrow
      have hj0 : (0 : Int) ≤ (j : Int) := by omega
      have hjz : (j : Int) < (Lb : Int) := by omega
      have hnc : (n : Int) ≤ (c : Int) := by have := unhide HCAP; omega
      have hn0 : (0 : Int) ≤ (n : Int) := by omega
      generalize cnt ltN (a.take n) (b.getD j (0 : Int)) = p at *
      generalize b.getD j (0 : Int) = x at *
      clear HM hM HB HC HN HD HM1 hwb
      go_upto_region 6 with fail
      go_cut [8] from 22 to 32 (fun s8 wq => s8 = .int .i64 p ∧ ∃ q, wq = wr.drewN q)
      case first =>
        go_region_held3 (fun w' => w'.cell? ⟨g2, j, none⟩ = some ((Value.int .i64) x)) (first | exact d1 | (go_keep; done)) ((go_at_call 47; refine (unhide CB _).mono ?_; rintro e w' ⟨fb, q', rfl, rfl⟩))
        all_goals
          go_wp2_with fail
          go_meet
          case rel => exact ⟨rfl, _, rfl⟩
      case rest =>
        obtain ⟨rfl, q, rfl⟩ := hcut
        obtain ⟨t, ht⟩ : ∃ t, t = p + j := ⟨_, rfl⟩
        obtain ⟨o, ho⟩ : ∃ o, o = p + j + 1 := ⟨_, rfl⟩
        have hw1 : IntKind.i64.wrap ((p : Int) + (j : Int)) = (t : Int) := by rw [IntKind.wrap_i64]; have := unhide HL; omega
        have hw2 : IntKind.i64.wrap ((t : Int) + 1) = (o : Int) := by rw [IntKind.wrap_i64]; have := unhide HL; omega
        have hb1 : (o : Int) ≤ (La : Int) + (Lb : Int) := by omega
        have hb2 : (p : Int) ≤ (n : Int) := by omega
        clear CB
        have htl : (t : Int) < (La : Int) + (Lb : Int) := by omega
        have hwj : IntKind.i64.wrap ((j : Int) - 1) = (j : Int) - 1 := by rw [IntKind.wrap_i64]; have := unhide HL; omega
        by_cases hpn : p = n
        · subst hpn
          obtain ⟨w2, hw⟩ : ∃ w2, w2 = (wr.drewN q).drew := ⟨_, rfl⟩
          have hown2 : w2.ownsRow 0 3 1 (.slice (some ⟨g, 0, none⟩) (La + Lb) c) (La + Lb) ((cs.take (p + j + 1) ++ (cs.drop p).take (p - p) ++ cs.drop (p + j + 1)).map (Value.int .i64)) := by
            rw [hw, Nat.sub_self, List.take_zero, List.append_nil, List.take_append_drop]
            exact unhide HROW
          obtain ⟨f1, f2, ⟨u, f3⟩, hM2⟩ := unhide HX w2 hown2 (by rw [hw]; exact ⟨rfl, rfl, rfl, Nat.le_refl _, fun _ _ _ => rfl⟩)
          rw [← ht] at f3 hM2
          have HM2 := hide hM2
          have f4 := f2 t
          have hr0 : ∀ (d s : Option Addr) (dl dc sc : Nat), (Builtin.copy_ #[37, 37] 3 #[.slice d dl dc, .slice s 0 sc]).run Try.prog (wr.drewN (q + 1)) = .ok (goInt 0) w2 := fun d s dl dc sc => by
            rw [hw]
            exact run_copy_none _ 37 37 3 3 d s dl dc 0 sc Try.underlying37 size1N (Nat.zero_min _)
          have hcp : ¬ c = p := by have := unhide HCAP; omega
          have hoc : o ≤ c := by have := unhide HCAP; omega
          clear ho ht hown2 hM2 HX f2 hw
          rcases Nat.lt_or_ge o c with hlt | hge
          · have hco : ¬ c = o := by omega
            clear hoc hlt
            go_upto_region 7 with fail
            go_region
            all_goals
              go_wp2_with fail
              go_roundw
              case rel => exact ⟨p, j, rfl, rfl, ⟨_, unhide HM2⟩⟩
              case measure => simp [intOf]
          · obtain rfl : c = o := by omega
            clear hoc hge
            go_upto_region 7 with fail
            go_region
            all_goals
              go_wp2_with fail
              go_roundw
              case rel => exact ⟨p, j, rfl, rfl, ⟨_, unhide HM2⟩⟩
              case measure => simp [intOf]
        · have hplt : p < n := by omega
          have hco : ¬ c = o := by have := unhide HCAP; omega
          have hcp : ¬ c = p := by have := unhide HCAP; omega
          obtain ⟨w2, hr2, hown2, ht2⟩ := row_copyN (o := o) (s := p) (len := n - p) (dLen := La + Lb - o) (dCap := c - o) (sCap := c - p) (w := (wr.drewN q).drew) (unhide HROW) (by omega) (by omega) (by omega) 3
          have hr3 : (Builtin.copy_ #[37, 37] 3 #[.slice (some ⟨g, o, none⟩) (La + Lb - o) (c - o), .slice (some ⟨g, p, none⟩) (n - p) (c - p)]).run Try.prog (wr.drewN (q + 1)) = .ok (goInt ((n - p : Nat) : Int)) w2 := hr2
          rw [show o + (n - p) = n + j + 1 by omega, ho] at hown2
          obtain ⟨f1, f2, ⟨u, f3⟩, hM2⟩ := unhide HX w2 hown2 ⟨ht2.os, ht2.tape, ht2.output, ht2.size, ht2.block⟩
          rw [← ht] at f3 hM2
          have HM2 := hide hM2
          have f4 := f2 t
          clear ho ht hown2 ht2 hM2 HX f2 hr2
          go_upto_region 7 with fail
          go_region
          all_goals
            go_wp2_with fail
            go_roundw
            case rel => exact ⟨p, j, rfl, rfl, ⟨_, unhide HM2⟩⟩
            case measure => simp [intOf]
end Go.Proofs.Ytfhidghjmookhaa
