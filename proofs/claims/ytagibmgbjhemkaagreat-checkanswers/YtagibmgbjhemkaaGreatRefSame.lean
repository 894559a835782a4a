/- The reference's SameEdges. -/
import Derived.Test.YtagibmgbjhemkaaGreatRefNo
import Derived.Laws.StructEq
namespace Go.Proofs.YtagibmgbjhemkaaGreat
open Go.RowKit Go.Maps

theorem eqE (x y : EdgeV) (w : World) : (Op.equalIn 10000 64 (.agg #[.int .i64 x.1, .int .i64 x.2.1, .int .i64 x.2.2.1, .int .u32 x.2.2.2]) (.agg #[.int .i64 y.1, .int .i64 y.2.1, .int .i64 y.2.2.1, .int .u32 y.2.2.2])).run Tryz.prog w = .ok (decide (x = y)) w := by
  have hS : Tryz.prog.underlying 64 = some (.struct (Tryz.prog.fieldsOf 64)) := by kernel_rfl
  have hp : Tryz.prog.stoodInHeld 64 = false := by kernel_rfl
  rw [show (10000 : Nat) = 9999 + 1 from rfl, run_equalIn_agg w 9999 64 _ _ hS hp]
  simp only [Program.fieldsOf, Tryz.underlying64]
  go_simp
  obtain ⟨a, b, c, d⟩ := x
  obtain ⟨a', b', c', d'⟩ := y
  by_cases h1 : a = a' <;> by_cases h2 : b = b' <;> by_cases h3 : c = c' <;> by_cases h4 : d = d' <;> simp [h1, h2, h3, h4]
theorem grow_len {B : Nat} {w : World} {v : Value} {gs : List EdgeV} (h : GRow B w v gs) : ∃ a c, v = .slice a gs.length c := by
  rcases h.2 with ⟨e, h0⟩ | ⟨g, cap, cur, e, -⟩
  · exact ⟨_, _, by rw [e, h0]⟩
  · exact ⟨_, _, e⟩
theorem listE_eq_getD {a b : List EdgeV} (hl : a.length = b.length) (h : ∀ j, j < a.length → a.getD j (0, 0, 0, 0) = b.getD j (0, 0, 0, 0)) : a = b := by
  refine List.ext_getElem hl (fun j h1 h2 => ?_)
  have := h j h1
  simpa [List.getD, h1, h2] using this

set_option maxHeartbeats 2000000 in
set_option maxRecDepth 100000 in
theorem refSameE {w : World} {v1 v2 : Value} {a b : List EdgeV} (h1 : GRow 0 w v1 a) (h2 : GRow 0 w v2 b) (hl : a.length ≤ 1000000) :
    Calls Tryz.prog 66 #[v1, v2] w fun e w' => e = .returned (.bool (decide (a = b))) ∧ Hid (Like w w') := by
  obtain ⟨x1, c1, e1⟩ := grow_len h1
  obtain ⟨x2, c2, e2⟩ := grow_len h2
  obtain ⟨n1, e1', hn1⟩ : ∃ n1, v1 = .slice x1 n1 c1 ∧ n1 = a.length := ⟨_, e1, rfl⟩
  obtain ⟨n2, e2', hn2⟩ : ∃ n2, v2 = .slice x2 n2 c2 ∧ n2 = b.length := ⟨_, e2, rfl⟩
  have HN : Hid (n1 = a.length ∧ n2 = b.length ∧ n1 ≤ 1000000) := ⟨hn1, hn2, by omega⟩
  have HC : Hid (∀ W i, Like w W → i < n1 → i < n2 → ∃ g1 g2, x1 = some ⟨g1, 0, none⟩ ∧ x2 = some ⟨g2, 0, none⟩ ∧ (W.cell? ⟨g1, i * 4, none⟩ = some (.int .i64 (a.getD i (0, 0, 0, 0)).1) ∧ W.cell? ⟨g1, i * 4 + 1, none⟩ = some (.int .i64 (a.getD i (0, 0, 0, 0)).2.1) ∧ W.cell? ⟨g1, i * 4 + 2, none⟩ = some (.int .i64 (a.getD i (0, 0, 0, 0)).2.2.1) ∧ W.cell? ⟨g1, i * 4 + 3, none⟩ = some (.int .u32 (a.getD i (0, 0, 0, 0)).2.2.2)) ∧ (W.cell? ⟨g2, i * 4, none⟩ = some (.int .i64 (b.getD i (0, 0, 0, 0)).1) ∧ W.cell? ⟨g2, i * 4 + 1, none⟩ = some (.int .i64 (b.getD i (0, 0, 0, 0)).2.1) ∧ W.cell? ⟨g2, i * 4 + 2, none⟩ = some (.int .i64 (b.getD i (0, 0, 0, 0)).2.2.1) ∧ W.cell? ⟨g2, i * 4 + 3, none⟩ = some (.int .u32 (b.getD i (0, 0, 0, 0)).2.2.2))) := fun W i hW i1 i2 => by
    have r1 := grow_below h1 (hW.below _)
    have r2 := grow_below h2 (hW.below _)
    obtain ⟨g1, d1, q1, z1⟩ := grow_at r1 (by omega)
    obtain ⟨g2, d2, q2, z2⟩ := grow_at r2 (by omega)
    rw [e1'] at q1
    rw [e2'] at q2
    injection q1 with q1 _ _
    injection q2 with q2 _ _
    refine ⟨g1, g2, q1, q2, ?_, ?_⟩
    · exact z1 i _ (by rw [List.getElem?_eq_getElem (by omega : i < a.length)]; simp [List.getD, show i < a.length by omega])
    · exact z2 i _ (by rw [List.getElem?_eq_getElem (by omega : i < b.length)]; simp [List.getD, show i < b.length by omega])
  clear h1 h2 hl e1 e2 hn1 hn2
  subst e1' e2'
  by_cases hlen : n1 = n2
  · subst hlen
    go_enter Tryz.func66, Tryz.ntmps66
    go_wp2_with fail
    go_loopw [13] (fun s13 wr => ∃ i : Nat, s13 = .int .i64 i ∧ i ≤ n1 ∧ Hid ((∀ j, j < i → a.getD j (0, 0, 0, 0) = b.getD j (0, 0, 0, 0)) ∧ Like w wr)) (fun s13 _ => n1 - (intOf s13).toNat)
    case atStart => exact ⟨0, rfl, by omega, fun j hj => absurd hj (Nat.not_lt_zero _), rfl, rfl, rfl, rfl⟩
    case round =>
      obtain ⟨i, rfl, hi, hS⟩ := hrel
      by_cases h : i < n1
      · obtain ⟨g1, g2, rfl, rfl, hcs⟩ := unhide HC wr i (unhide hS).2 h h
        have hz : (i : Int) < (n1 : Int) := by omega
        obtain ⟨y1, hy1⟩ : ∃ y, y = a.getD i (0, 0, 0, 0) := ⟨_, rfl⟩
        obtain ⟨y2, hy2⟩ : ∃ y, y = b.getD i (0, 0, 0, 0) := ⟨_, rfl⟩
        rw [← hy1, ← hy2] at hcs
        obtain ⟨⟨hc0, hc1, hc2, hc3⟩, ⟨hd0, hd1, hd2, hd3⟩⟩ := hcs
        have HY : Hid (y1 = a.getD i (0, 0, 0, 0) ∧ y2 = b.getD i (0, 0, 0, 0)) := ⟨hy1, hy2⟩
        have HW : Hid (Like w wr) := (unhide hS).2
        clear hy1 hy2
        by_cases hyy : y1 = y2
        · subst hyy
          have hq : ∀ W : World, (Op.equalIn 10000 64 (.agg #[.int .i64 y1.1, .int .i64 y1.2.1, .int .i64 y1.2.2.1, .int .u32 y1.2.2.2]) (.agg #[.int .i64 y1.1, .int .i64 y1.2.1, .int .i64 y1.2.2.1, .int .u32 y1.2.2.2])).run Tryz.prog W = .ok true W := fun W => by rw [eqE y1 y1 W, decide_eq_true rfl]
          go_upto_region 6 with fail
          refine wp_region_noPanic ?_
          refine regionL [] (fun y => (y.cell? ⟨g1, i * 4, none⟩ = some (.int .i64 y1.1) ∧ y.cell? ⟨g1, i * 4 + 1, none⟩ = some (.int .i64 y1.2.1) ∧ y.cell? ⟨g1, i * 4 + 2, none⟩ = some (.int .i64 y1.2.2.1) ∧ y.cell? ⟨g1, i * 4 + 3, none⟩ = some (.int .u32 y1.2.2.2)) ∧ y.cell? ⟨g2, i * 4, none⟩ = some (.int .i64 y1.1) ∧ y.cell? ⟨g2, i * 4 + 1, none⟩ = some (.int .i64 y1.2.1) ∧ y.cell? ⟨g2, i * 4 + 2, none⟩ = some (.int .i64 y1.2.2.1) ∧ y.cell? ⟨g2, i * 4 + 3, none⟩ = some (.int .u32 y1.2.2.2)) (by kernel_rfl) ⟨⟨hc0, hc1, hc2, hc3⟩, hd0, hd1, hd2, hd3⟩ (fun hHeld => ?_)
          refine takeL (i := 0) (v := ?t2v0) (some 16) rfl rfl (by kernel_rfl) (by kernel_rfl) (by kernel_rfl) (by kernel_rfl) (by kernel_rfl) (fun _ _ _ h => h) (Or.inl ⟨by rfl, ?t2h0⟩) (by assumption) ?t2r0
          case t2h0 => (intro y hSu; (try dsimp only at hSu); go_simp; first | done | with_reducible rfl)
          (try simp only [Act.put, List.setIfInBounds_toArray, List.set_cons_zero, List.set_cons_succ])
          refine takeL (i := 1) (v := ?t2v1) (some 17) rfl rfl (by kernel_rfl) (by kernel_rfl) (by kernel_rfl) (by kernel_rfl) (by kernel_rfl) (fun _ _ _ h => h) (Or.inl ⟨by rfl, ?t2h1⟩) (by assumption) ?t2r1
          case t2h1 => (intro y hSu; (try dsimp only at hSu); go_simp; first | done | with_reducible rfl)
          (try simp only [Act.put, List.setIfInBounds_toArray, List.set_cons_zero, List.set_cons_succ])
          refine takeL (i := 2) (v := ?t2v2) (some 18) rfl rfl (by kernel_rfl) (by kernel_rfl) (by kernel_rfl) (by kernel_rfl) (by kernel_rfl) (fun _ _ _ h => h) (Or.inl ⟨by rfl, ?t2h2⟩) (by assumption) ?t2r2
          case t2h2 => (intro y hSu; (try dsimp only at hSu); go_simp; first | done | with_reducible rfl)
          (try simp only [Act.put, List.setIfInBounds_toArray, List.set_cons_zero, List.set_cons_succ])
          refine takeL (i := 3) (v := ?t2v3) (some 19) rfl rfl (by kernel_rfl) (by kernel_rfl) (by kernel_rfl) (by kernel_rfl) (by kernel_rfl) (fun _ _ _ h => h) (Or.inl ⟨by rfl, ?t2h3⟩) (by assumption) ?t2r3
          case t2h3 => (intro y hSu; (try dsimp only at hSu); go_simp; first | done | with_reducible rfl)
          (try simp only [Act.put, List.setIfInBounds_toArray, List.set_cons_zero, List.set_cons_succ])
          refine takeL (i := 4) (v := ?t2v4) (some 20) rfl rfl (by kernel_rfl) (by kernel_rfl) (by kernel_rfl) (by kernel_rfl) (by kernel_rfl) (fun _ _ _ h => h) (Or.inl ⟨by rfl, ?t2h4⟩) (by assumption) ?t2r4
          case t2h4 => (intro y hSu; (try dsimp only at hSu); go_simp; first | done | with_reducible rfl)
          (try simp only [Act.put, List.setIfInBounds_toArray, List.set_cons_zero, List.set_cons_succ])
          refine takeL (i := 5) (v := ?t2v5) (some 21) rfl rfl (by kernel_rfl) (by kernel_rfl) (by kernel_rfl) (by kernel_rfl) (by kernel_rfl) (fun _ _ _ h => h) (Or.inl ⟨by rfl, ?t2h5⟩) (by assumption) ?t2r5
          case t2h5 => (intro y hSu; (try dsimp only at hSu); go_simp; first | done | with_reducible rfl)
          (try simp only [Act.put, List.setIfInBounds_toArray, List.set_cons_zero, List.set_cons_succ])
          refine takeL (i := 6) (v := ?t2v6) (some 22) rfl rfl (by kernel_rfl) (by kernel_rfl) (by kernel_rfl) (by kernel_rfl) (by kernel_rfl) (fun _ _ _ h => h) (Or.inl ⟨by rfl, ?t2h6⟩) (by assumption) ?t2r6
          case t2h6 => (intro y hSu; (try dsimp only at hSu); go_simp; first | done | with_reducible rfl)
          (try simp only [Act.put, List.setIfInBounds_toArray, List.set_cons_zero, List.set_cons_succ])
          refine takeL (i := 7) (v := ?t2v7) (some 23) rfl rfl (by kernel_rfl) (by kernel_rfl) (by kernel_rfl) (by kernel_rfl) (by kernel_rfl) (fun _ _ _ h => h) (Or.inl ⟨by rfl, ?t2h7⟩) (by assumption) ?t2r7
          case t2h7 => (intro y hSu; (try dsimp only at hSu); go_simp; first | done | with_reducible rfl)
          (try simp only [Act.put, List.setIfInBounds_toArray, List.set_cons_zero, List.set_cons_succ])
          refine takeL (i := 8) (v := ?t2v8) (some 24) rfl rfl (by kernel_rfl) (by kernel_rfl) (by kernel_rfl) (by kernel_rfl) (by kernel_rfl) (fun _ _ _ h => h) (Or.inl ⟨by rfl, ?t2h8⟩) (by assumption) ?t2r8
          case t2h8 => (intro y hSu; (try dsimp only at hSu); go_simp; first | done | with_reducible rfl)
          (try simp only [Act.put, List.setIfInBounds_toArray, List.set_cons_zero, List.set_cons_succ])
          refine doneL (by kernel_rfl) ?_ _
          refine NoPanic.normal ?_
          have HG : Hid ((∀ j, j < i + 1 → a.getD j (0, 0, 0, 0) = b.getD j (0, 0, 0, 0)) ∧ Like w wr.drew) := ⟨fun j hj => by
            rcases Nat.lt_or_ge j i with h' | h'
            · exact (unhide hS).1 j h'
            · obtain rfl : j = i := by omega
              exact (unhide HY).1.symm.trans (unhide HY).2, ⟨(unhide HW).1, (unhide HW).2.1, (unhide HW).2.2.1, (unhide HW).2.2.2⟩⟩
          clear hc0 hc1 hc2 hc3 hd0 hd1 hd2 hd3 hHeld hq
          go_wp2_with fail
          have hwi : wrap64 ((i : Int) + 1) = ((i + 1 : Nat) : Int) := by have := (unhide HN).2.2; unfold wrap64; omega
          (try rw [hwi])
          exact ⟨⟨i + 1, rfl, by omega, HG⟩, by simp [intOf]; omega⟩
        · have hq : ∀ W : World, (Op.equalIn 10000 64 (.agg #[.int .i64 y1.1, .int .i64 y1.2.1, .int .i64 y1.2.2.1, .int .u32 y1.2.2.2]) (.agg #[.int .i64 y2.1, .int .i64 y2.2.1, .int .i64 y2.2.2.1, .int .u32 y2.2.2.2])).run Tryz.prog W = .ok false W := fun W => by rw [eqE y1 y2 W, decide_eq_false hyy]
          go_upto_region 6 with fail
          refine wp_region_noPanic ?_
          refine regionL [] (fun y => (y.cell? ⟨g1, i * 4, none⟩ = some (.int .i64 y1.1) ∧ y.cell? ⟨g1, i * 4 + 1, none⟩ = some (.int .i64 y1.2.1) ∧ y.cell? ⟨g1, i * 4 + 2, none⟩ = some (.int .i64 y1.2.2.1) ∧ y.cell? ⟨g1, i * 4 + 3, none⟩ = some (.int .u32 y1.2.2.2)) ∧ y.cell? ⟨g2, i * 4, none⟩ = some (.int .i64 y2.1) ∧ y.cell? ⟨g2, i * 4 + 1, none⟩ = some (.int .i64 y2.2.1) ∧ y.cell? ⟨g2, i * 4 + 2, none⟩ = some (.int .i64 y2.2.2.1) ∧ y.cell? ⟨g2, i * 4 + 3, none⟩ = some (.int .u32 y2.2.2.2)) (by kernel_rfl) ⟨⟨hc0, hc1, hc2, hc3⟩, hd0, hd1, hd2, hd3⟩ (fun hHeld => ?_)
          refine takeL (i := 0) (v := ?t5v0) (some 16) rfl rfl (by kernel_rfl) (by kernel_rfl) (by kernel_rfl) (by kernel_rfl) (by kernel_rfl) (fun _ _ _ h => h) (Or.inl ⟨by rfl, ?t5h0⟩) (by assumption) ?t5r0
          case t5h0 => (intro y hSu; (try dsimp only at hSu); go_simp; first | done | with_reducible rfl)
          (try simp only [Act.put, List.setIfInBounds_toArray, List.set_cons_zero, List.set_cons_succ])
          refine takeL (i := 1) (v := ?t5v1) (some 17) rfl rfl (by kernel_rfl) (by kernel_rfl) (by kernel_rfl) (by kernel_rfl) (by kernel_rfl) (fun _ _ _ h => h) (Or.inl ⟨by rfl, ?t5h1⟩) (by assumption) ?t5r1
          case t5h1 => (intro y hSu; (try dsimp only at hSu); go_simp; first | done | with_reducible rfl)
          (try simp only [Act.put, List.setIfInBounds_toArray, List.set_cons_zero, List.set_cons_succ])
          refine takeL (i := 2) (v := ?t5v2) (some 18) rfl rfl (by kernel_rfl) (by kernel_rfl) (by kernel_rfl) (by kernel_rfl) (by kernel_rfl) (fun _ _ _ h => h) (Or.inl ⟨by rfl, ?t5h2⟩) (by assumption) ?t5r2
          case t5h2 => (intro y hSu; (try dsimp only at hSu); go_simp; first | done | with_reducible rfl)
          (try simp only [Act.put, List.setIfInBounds_toArray, List.set_cons_zero, List.set_cons_succ])
          refine takeL (i := 3) (v := ?t5v3) (some 19) rfl rfl (by kernel_rfl) (by kernel_rfl) (by kernel_rfl) (by kernel_rfl) (by kernel_rfl) (fun _ _ _ h => h) (Or.inl ⟨by rfl, ?t5h3⟩) (by assumption) ?t5r3
          case t5h3 => (intro y hSu; (try dsimp only at hSu); go_simp; first | done | with_reducible rfl)
          (try simp only [Act.put, List.setIfInBounds_toArray, List.set_cons_zero, List.set_cons_succ])
          refine takeL (i := 4) (v := ?t5v4) (some 20) rfl rfl (by kernel_rfl) (by kernel_rfl) (by kernel_rfl) (by kernel_rfl) (by kernel_rfl) (fun _ _ _ h => h) (Or.inl ⟨by rfl, ?t5h4⟩) (by assumption) ?t5r4
          case t5h4 => (intro y hSu; (try dsimp only at hSu); go_simp; first | done | with_reducible rfl)
          (try simp only [Act.put, List.setIfInBounds_toArray, List.set_cons_zero, List.set_cons_succ])
          refine takeL (i := 5) (v := ?t5v5) (some 21) rfl rfl (by kernel_rfl) (by kernel_rfl) (by kernel_rfl) (by kernel_rfl) (by kernel_rfl) (fun _ _ _ h => h) (Or.inl ⟨by rfl, ?t5h5⟩) (by assumption) ?t5r5
          case t5h5 => (intro y hSu; (try dsimp only at hSu); go_simp; first | done | with_reducible rfl)
          (try simp only [Act.put, List.setIfInBounds_toArray, List.set_cons_zero, List.set_cons_succ])
          refine takeL (i := 6) (v := ?t5v6) (some 22) rfl rfl (by kernel_rfl) (by kernel_rfl) (by kernel_rfl) (by kernel_rfl) (by kernel_rfl) (fun _ _ _ h => h) (Or.inl ⟨by rfl, ?t5h6⟩) (by assumption) ?t5r6
          case t5h6 => (intro y hSu; (try dsimp only at hSu); go_simp; first | done | with_reducible rfl)
          (try simp only [Act.put, List.setIfInBounds_toArray, List.set_cons_zero, List.set_cons_succ])
          refine takeL (i := 7) (v := ?t5v7) (some 23) rfl rfl (by kernel_rfl) (by kernel_rfl) (by kernel_rfl) (by kernel_rfl) (by kernel_rfl) (fun _ _ _ h => h) (Or.inl ⟨by rfl, ?t5h7⟩) (by assumption) ?t5r7
          case t5h7 => (intro y hSu; (try dsimp only at hSu); go_simp; first | done | with_reducible rfl)
          (try simp only [Act.put, List.setIfInBounds_toArray, List.set_cons_zero, List.set_cons_succ])
          refine takeL (i := 8) (v := ?t5v8) (some 24) rfl rfl (by kernel_rfl) (by kernel_rfl) (by kernel_rfl) (by kernel_rfl) (by kernel_rfl) (fun _ _ _ h => h) (Or.inl ⟨by rfl, ?t5h8⟩) (by assumption) ?t5r8
          case t5h8 => (intro y hSu; (try dsimp only at hSu); go_simp; first | done | with_reducible rfl)
          (try simp only [Act.put, List.setIfInBounds_toArray, List.set_cons_zero, List.set_cons_succ])
          refine doneL (by kernel_rfl) ?_ _
          refine NoPanic.normal ?_
          have HF : Hid (decide (a = b) = false) := decide_eq_false (fun e => hyy (by rw [(unhide HY).1, (unhide HY).2, e]))
          clear hc0 hc1 hc2 hc3 hd0 hd1 hd2 hd3 hHeld hq
          go_wp2_with fail
          go_ret
          exact ⟨by rw [unhide HF]; rfl, (unhide HW).1, (unhide HW).2.1, (unhide HW).2.2.1, (unhide HW).2.2.2⟩
      · have hz : ¬ (i : Int) < (n1 : Int) := by omega
        have HF : Hid (decide (a = b) = true) := decide_eq_true (listE_eq_getD (by have := unhide HN; omega) (fun j hj => (unhide hS).1 j (by have := unhide HN; omega)))
        go_wp2_with fail
        go_ret
        exact ⟨by rw [unhide HF]; rfl, (unhide hS).2⟩
  · have hlz : ¬ (n1 : Int) = (n2 : Int) := by omega
    have HF : Hid (decide (a = b) = false) := decide_eq_false (fun e => hlen (by have := unhide HN; rw [e] at this; omega))
    clear hlen HC
    go_enter Tryz.func66, Tryz.ntmps66
    go_wp2_with fail
    go_ret
    exact ⟨by rw [unhide HF]; rfl, rfl, rfl, rfl, rfl⟩
end Go.Proofs.YtagibmgbjhemkaaGreat
