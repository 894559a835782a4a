/- The reference's Admit, Free, SameInts. -/
import Derived.Test.YtagibmgbjhemkaaGreatRefAddV2
import Derived.Test.YtagibmgbjhemkaaGreatTail
namespace Go.Proofs.YtagibmgbjhemkaaGreat
open Go.RowKit Go.Maps

theorem refAdmit (n : Int) (w : World) : Calls Tryz.prog 99 #[.int .u32 n] w fun e w' => e = .returned (ansK (kept n)) ∧ w' = w := by
  unfold kept
  by_cases h1 : n = 2147483648
  · subst h1
    rw [if_pos rfl]
    go_enter Tryz.func99, Tryz.ntmps99
    go_wp2
    go_ret2
    exact ⟨rfl, rfl⟩
  · rw [if_neg h1]
    by_cases h2 : 2139095040 ≤ n
    · rw [if_pos h2]
      go_enter Tryz.func99, Tryz.ntmps99
      go_wp2
      go_ret2
      exact ⟨rfl, rfl⟩
    · rw [if_neg h2]
      go_enter Tryz.func99, Tryz.ntmps99
      go_wp2
      go_ret2
      exact ⟨rfl, rfl⟩

/-- There is an edge of this number. -/
def HasNo (es : List EdgeV) (e : Int) : Prop := ∃ (i : Nat) (a : EdgeV), es[i]? = some a ∧ a.1 = e
theorem at_has {es : List EdgeV} {e r : Int} (h : AtIs es e r) : (r < 0 ↔ ¬ HasNo es e) := by
  rcases h with ⟨i, a, rfl, h1, h2, -⟩ | ⟨rfl, h1⟩
  · exact ⟨fun h => by omega, fun h => absurd ⟨i, a, h1, h2⟩ h⟩
  · exact ⟨fun _ ⟨j, b, hb, e⟩ => h1 j b hb e, fun _ => by omega⟩
/-- The least free number; 0: none is free. -/
def RFree (es : List EdgeV) (r : Int) : Prop := (∃ j : Nat, j < 1024 ∧ r = (j : Int) + 1 ∧ (∀ i : Nat, i < j → HasNo es ((i : Int) + 1)) ∧ ¬ HasNo es ((j : Int) + 1)) ∨ (r = 0 ∧ ∀ i : Nat, i < 1024 → HasNo es ((i : Int) + 1))

set_option maxHeartbeats 2000000 in
set_option maxRecDepth 100000 in
theorem refFree {w : World} {vv ev : Value} {rd wr_0 : Int} {es : List EdgeV} {B : Nat} (h : GRow B w ev es) (hl : es.length ≤ 1000000) (hv : ∃ a n c, vv = .slice a n c) :
    Calls Tryz.prog 58 #[.agg #[vv, ev, .int .i64 rd, .int .i64 wr_0]] w fun e w' => ∃ r, e = .returned (.int .i64 r) ∧ Hid (RFree es r ∧ Below w.heap.size w w') := by
  have hb := below_new w (oG vv ev rd wr_0)
  have h1 := grow_below h hb
  have hbx := heap_alloc_new w (oG vv ev rd wr_0)
  have HB : Hid (Below w.heap.size w (w.alloc (oG vv ev rd wr_0)) ∧ w.heap.size < (w.alloc (oG vv ev rd wr_0)).heap.size) := ⟨hb, by simp⟩
  have HC : Hid (∀ W, Below (w.alloc (oG vv ev rd wr_0)).heap.size (w.alloc (oG vv ev rd wr_0)) W → (W.cell? ⟨w.heap.size, 0, none⟩ = some vv ∧ W.cell? ⟨w.heap.size, 1, none⟩ = some ev ∧ W.cell? ⟨w.heap.size, 2, none⟩ = some (.int .i64 rd) ∧ W.cell? ⟨w.heap.size, 3, none⟩ = some (.int .i64 wr_0)) ∧ ∀ e, Calls Tryz.prog 38 #[.agg #[vv, ev, .int .i64 rd, .int .i64 wr_0], .int .i64 e] W fun r w' => ∃ x, r = .returned (.int .i64 x) ∧ Hid (AtIs es e x ∧ Below (w.alloc (oG vv ev rd wr_0)).heap.size (w.alloc (oG vv ev rd wr_0)) w')) := fun W hW => by
    have hbw := (hW.block w.heap.size (by simp)).trans hbx
    obtain ⟨k0, k1, k2, k3, -⟩ := cellsG hbw
    refine ⟨⟨k0, k1, k2, k3⟩, fun e => ?_⟩
    refine (refAt e (grow_below h1 hW) hl).mono ?_
    rintro r w' ⟨x, rfl, hh⟩
    exact ⟨x, rfl, (unhide hh).1, hW.trans ((unhide hh).2.mono hW.size)⟩
  obtain ⟨a, n, c, rfl⟩ := hv
  obtain ⟨ea, en, ec, rfl⟩ := grow_shape h1
  clear h h1 hb hl hbx
  go_enter Tryz.func58, Tryz.ntmps58
  go_upto_region 1 with fail
  change Code.wp _ _ _ _ (w.alloc (oG (.slice a n c) (.slice ea en ec) rd wr_0))
  generalize w.alloc (oG (.slice a n c) (.slice ea en ec) rd wr_0) = wb at *
  generalize hbb : w.heap.size = bb at *
  go_wp2_with fail
  go_loopw [3] (fun s3 wr => ∃ j : Nat, s3 = .int .i64 ((j : Int) + 1) ∧ j ≤ 1024 ∧ Hid ((∀ i : Nat, i < j → HasNo es ((i : Int) + 1)) ∧ Below wb.heap.size wb wr)) (fun s3 _ => 1025 - (intOf s3).toNat)
  case atStart => exact ⟨0, rfl, by omega, fun i hi => absurd hi (Nat.not_lt_zero _), Below.refl _ _⟩
  case round =>
    obtain ⟨j, rfl, hj, hS⟩ := hrel
    by_cases h : j < 1024
    · have hz : (j : Int) + 1 ≤ 1024 := by omega
      obtain ⟨⟨k0, k1, k2, k3⟩, hA⟩ := unhide HC wr (unhide hS).2
      have CA := hide (hA ((j : Int) + 1))
      clear hA
      go_wp2_with fail
      refine (unhide CA).mono ?_
      rintro e w2 ⟨x, rfl, hh⟩
      by_cases hx : x < 0
      · have HF : Hid (RFree es ((j : Int) + 1) ∧ Below bb w w2) := ⟨.inl ⟨j, h, rfl, (unhide hS).1, (at_has (unhide hh).1).1 hx⟩, (unhide HB).1.trans ((unhide hh).2.mono (by have := (unhide HB).2; omega))⟩
        clear CA hh
        go_wp2_with fail
        go_ret
        exact ⟨_, rfl, (unhide HF).1, by first | exact (unhide HF).2 | (rw [hbb]; exact (unhide HF).2)⟩
      · have HF : Hid ((∀ i : Nat, i < j + 1 → HasNo es ((i : Int) + 1)) ∧ Below wb.heap.size wb w2) := ⟨fun i hi => by
          rcases Nat.lt_or_ge i j with h' | h'
          · exact (unhide hS).1 i h'
          · obtain rfl : i = j := by omega
            exact Classical.byContradiction (fun hn => hx ((at_has (unhide hh).1).2 hn)), (unhide hh).2⟩
        clear CA hh
        go_wp2_with fail
        have hwi : wrap64 ((j : Int) + 1 + 1) = ((j + 1 : Nat) : Int) + 1 := by unfold wrap64; omega
        (try rw [hwi])
        exact ⟨⟨j + 1, rfl, by omega, HF⟩, by simp [intOf]; omega⟩
    · have hz : ¬ (j : Int) + 1 ≤ 1024 := by omega
      have HF : Hid (RFree es 0 ∧ Below bb w wr) := ⟨.inr ⟨rfl, fun i hi => (unhide hS).1 i (by omega)⟩, (unhide HB).1.trans ((unhide hS).2.mono (by have := (unhide HB).2; omega))⟩
      go_wp2_with fail
      go_ret
      exact ⟨_, rfl, (unhide HF).1, by first | exact (unhide HF).2 | (rw [hbb]; exact (unhide HF).2)⟩

theorem list_eq_getD {a b : List Int} (hl : a.length = b.length) (h : ∀ j, j < a.length → a.getD j 0 = b.getD j 0) : a = b := by
  refine List.ext_getElem hl (fun j h1 h2 => ?_)
  have := h j h1
  simpa [List.getD, h1, h2] using this

set_option maxHeartbeats 2000000 in
set_option maxRecDepth 100000 in
theorem refSame {w : World} {v1 v2 : Value} {a b : List Int} (h1 : NRow w v1 a) (h2 : NRow w v2 b) (hl : a.length ≤ 1000000) :
    Calls Tryz.prog 23 #[v1, v2] w fun e w' => e = .returned (.bool (decide (a = b))) ∧ Hid (Like w w') := by
  obtain ⟨x1, c1, e1, -⟩ := brow_shape h1
  obtain ⟨x2, c2, e2, -⟩ := brow_shape h2
  obtain ⟨n1, e1', hn1⟩ : ∃ n1, v1 = .slice x1 n1 c1 ∧ n1 = a.length := ⟨_, e1, rfl⟩
  obtain ⟨n2, e2', hn2⟩ : ∃ n2, v2 = .slice x2 n2 c2 ∧ n2 = b.length := ⟨_, e2, rfl⟩
  have HN : Hid (n1 = a.length ∧ n2 = b.length ∧ n1 ≤ 1000000) := ⟨hn1, hn2, by omega⟩
  have HC : Hid (∀ W i, Like w W → i < n1 → i < n2 → ∃ g1 g2, x1 = some ⟨g1, 0, none⟩ ∧ x2 = some ⟨g2, 0, none⟩ ∧ W.cell? ⟨g1, i, none⟩ = some (.int .i64 (a.getD i 0)) ∧ W.cell? ⟨g2, i, none⟩ = some (.int .i64 (b.getD i 0))) := fun W i hW i1 i2 => by
    have r1 : NRow W (.slice x1 n1 c1) a := by rw [← e1']; exact nrow_below h1 (hW.below _)
    have r2 : NRow W (.slice x2 n2 c2) b := by rw [← e2']; exact nrow_below h2 (hW.below _)
    obtain ⟨g1, hg1⟩ := brow_some r1 (by omega)
    obtain ⟨g2, hg2⟩ := brow_some r2 (by omega)
    subst hg1 hg2
    exact ⟨g1, g2, rfl, rfl, (nrow_some r1).2.2.2.2 i (by omega), (nrow_some r2).2.2.2.2 i (by omega)⟩
  clear h1 h2 hl e1 e2 hn1 hn2
  subst e1' e2'
  by_cases hlen : n1 = n2
  · subst hlen
    go_enter Tryz.func23, Tryz.ntmps23
    go_wp2_with fail
    go_loopw [13] (fun s13 wr => ∃ i : Nat, s13 = .int .i64 i ∧ i ≤ n1 ∧ Hid ((∀ j, j < i → a.getD j 0 = b.getD j 0) ∧ Like w wr)) (fun s13 _ => n1 - (intOf s13).toNat)
    case atStart => exact ⟨0, rfl, by omega, fun j hj => absurd hj (Nat.not_lt_zero _), rfl, rfl, rfl, rfl⟩
    case round =>
      obtain ⟨i, rfl, hi, hS⟩ := hrel
      by_cases h : i < n1
      · obtain ⟨g1, g2, rfl, rfl, hc1, hc2⟩ := unhide HC wr i (unhide hS).2 h h
        have hz : (i : Int) < (n1 : Int) := by omega
        obtain ⟨y1, hy1⟩ : ∃ y, y = a.getD i 0 := ⟨_, rfl⟩
        obtain ⟨y2, hy2⟩ : ∃ y, y = b.getD i 0 := ⟨_, rfl⟩
        rw [← hy1] at hc1
        rw [← hy2] at hc2
        have HY : Hid (y1 = a.getD i 0 ∧ y2 = b.getD i 0) := ⟨hy1, hy2⟩
        have HW : Hid (Like w wr) := (unhide hS).2
        clear hy1 hy2
        by_cases hyy : y1 = y2
        · subst hyy
          go_upto_region 6 with fail
          refine wp_region_noPanic ?_
          refine regionL [] (fun y => y.cell? ⟨g1, i, none⟩ = some (.int .i64 y1) ∧ y.cell? ⟨g2, i, none⟩ = some (.int .i64 y1)) (by kernel_rfl) ⟨hc1, hc2⟩ (fun hHeld => ?_)
          refine takeL (i := 0) (v := ?t2v0) (some 16) rfl rfl (by kernel_rfl) (by kernel_rfl) (by kernel_rfl) (by kernel_rfl) (by kernel_rfl) (fun _ _ _ h => h) (Or.inl ⟨by rfl, ?t2h0⟩) (by assumption) ?t2r0
          case t2h0 => (intro y hSu; (try dsimp only at hSu); go_simp; first | done | with_reducible rfl)
          (try simp only [Act.put, List.setIfInBounds_toArray, List.set_cons_zero, List.set_cons_succ])
          refine takeL (i := 1) (v := ?t2v1) (some 17) rfl rfl (by kernel_rfl) (by kernel_rfl) (by kernel_rfl) (by kernel_rfl) (by kernel_rfl) (fun _ _ _ h => h) (Or.inl ⟨by rfl, ?t2h1⟩) (by assumption) ?t2r1
          case t2h1 => (intro y hSu; (try dsimp only at hSu); go_simp; first | done | with_reducible rfl)
          (try simp only [Act.put, List.setIfInBounds_toArray, List.set_cons_zero, List.set_cons_succ])
          refine takeL (i := 2) (v := ?t2v2) (some 18) rfl rfl (by kernel_rfl) (by kernel_rfl) (by kernel_rfl) (by kernel_rfl) (by kernel_rfl) (fun _ _ _ h => h) (Or.inl ⟨by rfl, ?t2h2⟩) (by assumption) ?t2r2
          case t2h2 => (intro y hSu; (try dsimp only at hSu); go_simp; first | done | with_reducible rfl)
          (try simp only [Act.put, List.setIfInBounds_toArray, List.set_cons_zero, List.set_cons_succ])
          refine takeL (i := 3) (v := ?t2v3) (some 19) rfl rfl (by kernel_rfl) (by kernel_rfl) (by kernel_rfl) (by kernel_rfl) (by kernel_rfl) (fun _ _ _ h => h) (Or.inl ⟨by rfl, ?t2h3⟩) (by assumption) ?t2r3
          case t2h3 => (intro y hSu; (try dsimp only at hSu); go_simp; first | done | with_reducible rfl)
          (try simp only [Act.put, List.setIfInBounds_toArray, List.set_cons_zero, List.set_cons_succ])
          refine takeL (i := 4) (v := ?t2v4) (some 20) rfl rfl (by kernel_rfl) (by kernel_rfl) (by kernel_rfl) (by kernel_rfl) (by kernel_rfl) (fun _ _ _ h => h) (Or.inl ⟨by rfl, ?t2h4⟩) (by assumption) ?t2r4
          case t2h4 => (intro y hSu; (try dsimp only at hSu); go_simp; first | done | with_reducible rfl)
          (try simp only [Act.put, List.setIfInBounds_toArray, List.set_cons_zero, List.set_cons_succ])
          refine takeL (i := 5) (v := ?t2v5) (some 21) rfl rfl (by kernel_rfl) (by kernel_rfl) (by kernel_rfl) (by kernel_rfl) (by kernel_rfl) (fun _ _ _ h => h) (Or.inl ⟨by rfl, ?t2h5⟩) (by assumption) ?t2r5
          case t2h5 => (intro y hSu; (try dsimp only at hSu); go_simp; first | done | with_reducible rfl)
          (try simp only [Act.put, List.setIfInBounds_toArray, List.set_cons_zero, List.set_cons_succ])
          refine takeL (i := 6) (v := ?t2v6) (some 22) rfl rfl (by kernel_rfl) (by kernel_rfl) (by kernel_rfl) (by kernel_rfl) (by kernel_rfl) (fun _ _ _ h => h) (Or.inl ⟨by rfl, ?t2h6⟩) (by assumption) ?t2r6
          case t2h6 => (intro y hSu; (try dsimp only at hSu); go_simp; first | done | with_reducible rfl)
          (try simp only [Act.put, List.setIfInBounds_toArray, List.set_cons_zero, List.set_cons_succ])
          refine takeL (i := 7) (v := ?t2v7) (some 23) rfl rfl (by kernel_rfl) (by kernel_rfl) (by kernel_rfl) (by kernel_rfl) (by kernel_rfl) (fun _ _ _ h => h) (Or.inl ⟨by rfl, ?t2h7⟩) (by assumption) ?t2r7
          case t2h7 => (intro y hSu; (try dsimp only at hSu); go_simp; first | done | with_reducible rfl)
          (try simp only [Act.put, List.setIfInBounds_toArray, List.set_cons_zero, List.set_cons_succ])
          refine takeL (i := 8) (v := ?t2v8) (some 24) rfl rfl (by kernel_rfl) (by kernel_rfl) (by kernel_rfl) (by kernel_rfl) (by kernel_rfl) (fun _ _ _ h => h) (Or.inl ⟨by rfl, ?t2h8⟩) (by assumption) ?t2r8
          case t2h8 => (intro y hSu; (try dsimp only at hSu); go_simp; first | done | with_reducible rfl)
          (try simp only [Act.put, List.setIfInBounds_toArray, List.set_cons_zero, List.set_cons_succ])
          refine doneL (by kernel_rfl) ?_ _
          refine NoPanic.normal ?_
          have HG : Hid ((∀ j, j < i + 1 → a.getD j 0 = b.getD j 0) ∧ Like w wr.drew) := ⟨fun j hj => by
            rcases Nat.lt_or_ge j i with h' | h'
            · exact (unhide hS).1 j h'
            · obtain rfl : j = i := by omega
              exact (unhide HY).1.symm.trans (unhide HY).2, ⟨(unhide HW).1, (unhide HW).2.1, (unhide HW).2.2.1, (unhide HW).2.2.2⟩⟩
          clear hc1 hc2 hHeld
          go_wp2_with fail
          have hwi : wrap64 ((i : Int) + 1) = ((i + 1 : Nat) : Int) := by have := (unhide HN).2.2; unfold wrap64; omega
          (try rw [hwi])
          exact ⟨⟨i + 1, rfl, by omega, HG⟩, by simp [intOf]; omega⟩
        · go_upto_region 6 with fail
          refine wp_region_noPanic ?_
          refine regionL [] (fun y => y.cell? ⟨g1, i, none⟩ = some (.int .i64 y1) ∧ y.cell? ⟨g2, i, none⟩ = some (.int .i64 y2)) (by kernel_rfl) ⟨hc1, hc2⟩ (fun hHeld => ?_)
          refine takeL (i := 0) (v := ?t5v0) (some 16) rfl rfl (by kernel_rfl) (by kernel_rfl) (by kernel_rfl) (by kernel_rfl) (by kernel_rfl) (fun _ _ _ h => h) (Or.inl ⟨by rfl, ?t5h0⟩) (by assumption) ?t5r0
          case t5h0 => (intro y hSu; (try dsimp only at hSu); go_simp; first | done | with_reducible rfl)
          (try simp only [Act.put, List.setIfInBounds_toArray, List.set_cons_zero, List.set_cons_succ])
          refine takeL (i := 1) (v := ?t5v1) (some 17) rfl rfl (by kernel_rfl) (by kernel_rfl) (by kernel_rfl) (by kernel_rfl) (by kernel_rfl) (fun _ _ _ h => h) (Or.inl ⟨by rfl, ?t5h1⟩) (by assumption) ?t5r1
          case t5h1 => (intro y hSu; (try dsimp only at hSu); go_simp; first | done | with_reducible rfl)
          (try simp only [Act.put, List.setIfInBounds_toArray, List.set_cons_zero, List.set_cons_succ])
          refine takeL (i := 2) (v := ?t5v2) (some 18) rfl rfl (by kernel_rfl) (by kernel_rfl) (by kernel_rfl) (by kernel_rfl) (by kernel_rfl) (fun _ _ _ h => h) (Or.inl ⟨by rfl, ?t5h2⟩) (by assumption) ?t5r2
          case t5h2 => (intro y hSu; (try dsimp only at hSu); go_simp; first | done | with_reducible rfl)
          (try simp only [Act.put, List.setIfInBounds_toArray, List.set_cons_zero, List.set_cons_succ])
          refine takeL (i := 3) (v := ?t5v3) (some 19) rfl rfl (by kernel_rfl) (by kernel_rfl) (by kernel_rfl) (by kernel_rfl) (by kernel_rfl) (fun _ _ _ h => h) (Or.inl ⟨by rfl, ?t5h3⟩) (by assumption) ?t5r3
          case t5h3 => (intro y hSu; (try dsimp only at hSu); go_simp; first | done | with_reducible rfl)
          (try simp only [Act.put, List.setIfInBounds_toArray, List.set_cons_zero, List.set_cons_succ])
          refine takeL (i := 4) (v := ?t5v4) (some 20) rfl rfl (by kernel_rfl) (by kernel_rfl) (by kernel_rfl) (by kernel_rfl) (by kernel_rfl) (fun _ _ _ h => h) (Or.inl ⟨by rfl, ?t5h4⟩) (by assumption) ?t5r4
          case t5h4 => (intro y hSu; (try dsimp only at hSu); go_simp; first | done | with_reducible rfl)
          (try simp only [Act.put, List.setIfInBounds_toArray, List.set_cons_zero, List.set_cons_succ])
          refine takeL (i := 5) (v := ?t5v5) (some 21) rfl rfl (by kernel_rfl) (by kernel_rfl) (by kernel_rfl) (by kernel_rfl) (by kernel_rfl) (fun _ _ _ h => h) (Or.inl ⟨by rfl, ?t5h5⟩) (by assumption) ?t5r5
          case t5h5 => (intro y hSu; (try dsimp only at hSu); go_simp; first | done | with_reducible rfl)
          (try simp only [Act.put, List.setIfInBounds_toArray, List.set_cons_zero, List.set_cons_succ])
          refine takeL (i := 6) (v := ?t5v6) (some 22) rfl rfl (by kernel_rfl) (by kernel_rfl) (by kernel_rfl) (by kernel_rfl) (by kernel_rfl) (fun _ _ _ h => h) (Or.inl ⟨by rfl, ?t5h6⟩) (by assumption) ?t5r6
          case t5h6 => (intro y hSu; (try dsimp only at hSu); go_simp; first | done | with_reducible rfl)
          (try simp only [Act.put, List.setIfInBounds_toArray, List.set_cons_zero, List.set_cons_succ])
          refine takeL (i := 7) (v := ?t5v7) (some 23) rfl rfl (by kernel_rfl) (by kernel_rfl) (by kernel_rfl) (by kernel_rfl) (by kernel_rfl) (fun _ _ _ h => h) (Or.inl ⟨by rfl, ?t5h7⟩) (by assumption) ?t5r7
          case t5h7 => (intro y hSu; (try dsimp only at hSu); go_simp; first | done | with_reducible rfl)
          (try simp only [Act.put, List.setIfInBounds_toArray, List.set_cons_zero, List.set_cons_succ])
          refine takeL (i := 8) (v := ?t5v8) (some 24) rfl rfl (by kernel_rfl) (by kernel_rfl) (by kernel_rfl) (by kernel_rfl) (by kernel_rfl) (fun _ _ _ h => h) (Or.inl ⟨by rfl, ?t5h8⟩) (by assumption) ?t5r8
          case t5h8 => (intro y hSu; (try dsimp only at hSu); go_simp; first | done | with_reducible rfl)
          (try simp only [Act.put, List.setIfInBounds_toArray, List.set_cons_zero, List.set_cons_succ])
          refine doneL (by kernel_rfl) ?_ _
          refine NoPanic.normal ?_
          have HF : Hid (decide (a = b) = false) := decide_eq_false (fun e => hyy (by rw [(unhide HY).1, (unhide HY).2, e]))
          clear hc1 hc2 hHeld
          go_wp2_with fail
          go_ret
          exact ⟨by rw [unhide HF]; rfl, (unhide HW).1, (unhide HW).2.1, (unhide HW).2.2.1, (unhide HW).2.2.2⟩
      · have hz : ¬ (i : Int) < (n1 : Int) := by omega
        have HF : Hid (decide (a = b) = true) := decide_eq_true (list_eq_getD (by have := unhide HN; omega) (fun j hj => (unhide hS).1 j (by have := unhide HN; omega)))
        go_wp2_with fail
        go_ret
        exact ⟨by rw [unhide HF]; rfl, (unhide hS).2⟩
  · have hlz : ¬ (n1 : Int) = (n2 : Int) := by omega
    have HF : Hid (decide (a = b) = false) := decide_eq_false (fun e => hlen (by have := unhide HN; rw [e] at this; omega))
    clear hlen HC
    go_enter Tryz.func23, Tryz.ntmps23
    go_wp2_with fail
    go_ret
    exact ⟨by rw [unhide HF]; rfl, rfl, rfl, rfl, rfl⟩
end Go.Proofs.YtagibmgbjhemkaaGreat
