/- Fold over any list, and the law's own sum. -/
import Derived.Test.YtijgeoegeeejcaaBuild13
namespace Go.Proofs.Ytijgeoegeeejcaa
open Go.RowKit Go.Maps
attribute [local go_sem] run_storeF
set_option maxHeartbeats 400000 in
theorem fold_some (b off len cap : Nat) (bs : List Nat) (w : World) (hlen : bs.length = len) (hl : len ≤ 35184372088832)
    (hcell : ∀ k, k < len → w.cell? ⟨b, off + k, none⟩ = some (.float .f32 (bs.getD k 0))) (HB : Hid (∀ k, bs.getD k 0 < 4294967296)) :
    Calls Try.prog 37 #[.slice (some ⟨b, off, none⟩) len cap] w fun e w' => e = .returned (.float .f32 (M.foldN bs)) ∧ w' = w := by
  have HL := hide hlen
  have HC := hide hcell
  clear hlen hcell
  go_enter Try.func37, Try.ntmps37
  go_wp2
  go_loop [3, 8] (fun s i => ∃ k : Nat, k ≤ len ∧ i = .int .i64 (k : Int) ∧ s = .float .f32 (M.foldN (bs.take k))) (fun _ i => len - (intOf i).toNat)
  case atStart => exact ⟨0, Nat.zero_le _, rfl, rfl⟩
  case round =>
    obtain ⟨k, hk, rfl, rfl⟩ := hrel
    by_cases hlt : k < len
    · have hcx := unhide HC k hlt
      have hle := M.foldN_le (bs.take k)
      have HT := hide (M.foldN_take bs k (by rw [unhide HL]; exact hlt))
      have hx := unhide HB k
      generalize bs.getD k 0 = x at hcx HT hx
      generalize M.foldN (bs.take k) = c at hle HT ⊢
      have HS := hide (fold_step hle hx)
      clear hle hx
      go_wp2_with fail
      refine (unhide HS _).mono ?_
      rintro e w' ⟨rfl, rfl⟩
      go_wp2
      go_round
      case rel => exact ⟨k + 1, by omega, by go_num, by rw [unhide HT]⟩
      case measure => simp [intOf]; omega
    · go_wp2
      go_ret
      have e : k = bs.length := by rw [unhide HL]; omega
      exact ⟨by rw [e, List.take_length]; rfl, rfl⟩
theorem foldN_two {a b : Nat} (ha : a ≤ 2139095040) (hb : b ≤ 2139095040) : M.foldN [a, b] = M.addC a b := by
  show M.addC (M.addC 0 (M.counts a)) (M.counts b) = _
  rw [counts_cost ha, counts_cost hb, M.addC_comm (by omega) ha, M.addC_zero ha]
theorem infoFL : (Try.prog.info? 74).map (fun i => (i.zero, i.size, i.bytes)) = some (some (.float .f32 0), 1, 4) := by kernel_rfl
def oF2 (a b : Nat) : Obj := .cells #[.float .f32 a, .float .f32 b] 74
theorem mkFn {n : Nat} (hn : n ≤ 1000000) (w : World) : (Instr.makeSlice 73 (.int .i64 (n : Nat)) (.int .i64 (n : Nat))).run Try.prog w = .ok (.slice (some ⟨w.heap.size, 0, none⟩) n n) (w.alloc (.cells (madeCells #[.float .f32 0] n) 74)) :=
  run_make_row' 73 74 (.float .f32 0) 4 Try.underlying73 infoFL rfl .i64 .i64 n (by omega) (by omega) w
theorem mkF2 (w : World) : (Instr.makeSlice 73 (.int .i64 2) (.int .i64 2)).run Try.prog w = .ok (.slice (some ⟨w.heap.size, 0, none⟩) 2 2) (w.alloc (oF2 0 0)) := by
  have h := mkFn (n := 2) (by omega) w
  have e : madeCells #[.float .f32 0] 2 = #[.float .f32 0, .float .f32 0]  := by apply Array.ext'; rw [made_list]; rfl
  rw [e] at h
  exact h
theorem f2_set0 {w : World} {b x y z : Nat} (h : w.heap[b]? = some (oF2 x y)) : (w.setCell ⟨b, 0, none⟩ (.float .f32 z)).heap[b]? = some (oF2 z y) := by
  rw [heap_setCell_same _ _ _ _ _ _ h]; rfl
theorem f2_set1 {w : World} {b x y z : Nat} (h : w.heap[b]? = some (oF2 x y)) : (w.setCell ⟨b, 1, none⟩ (.float .f32 z)).heap[b]? = some (oF2 x z) := by
  rw [heap_setCell_same _ _ _ _ _ _ h]; rfl
theorem f2_cells {w : World} {b x y : Nat} (h : w.heap[b]? = some (oF2 x y)) : w.cell? ⟨b, 0, none⟩ = some (.float .f32 x) ∧ w.cell? ⟨b, 1, none⟩ = some (.float .f32 y) ∧ ∀ o, w.frozen? ⟨b, o, none⟩ = false :=
  ⟨(cell_of_row _ _ 0 _ _ (0, 0) h).trans rfl, (cell_of_row _ _ 1 _ _ (0, 0) h).trans rfl, fun o => frozen_of_row _ _ o _ _ h⟩
/-- A block of one's own, written. -/
theorem below_set {w W : World} {b o : Nat} {v : Value} (h : Below w.heap.size w W) (hb : w.heap.size ≤ b) : Below w.heap.size w (W.setCell ⟨b, o, none⟩ v) := h.trans ((turned_setCell (S := fun j => j = b) W ⟨b, o, none⟩ v rfl).below h.size (fun j e => by omega))
theorem admit_wt {x : EdV} (h : (kept x.2.2.2).isSome = true) (W : World) : Calls Try.prog 35 #[.int .u32 x.2.2.2] W fun e w' => e = .returned (.tuple #[.float .f32 (wtN x), .int .i64 0]) ∧ w' = W := by
  have h2 := admitS x.2.2.2 W
  unfold ansAd at h2
  unfold wtN
  cases q : kept x.2.2.2 with
  | none => rw [q] at h; cases h
  | some b => rw [q] at h2; exact h2
theorem admit_nat {a : Nat} (h : a ≤ 2139095040) (W : World) : Calls Try.prog 35 #[.int .u32 (a : Nat)] W fun e w' => ∃ z er, e = .returned (.tuple #[.float .f32 z, .int .i64 er]) ∧ w' = W ∧ Hid (a ≠ 2139095040 → z = a) := by
  by_cases e : a = 2139095040
  · subst e
    refine (admitW_no 2139095040 (by omega) (by omega) W).mono ?_
    rintro e w' ⟨rfl, rfl⟩
    exact ⟨0, 7, rfl, rfl, fun h => absurd rfl h⟩
  · refine (admitW_yes (a : Int) (by omega) W).mono ?_
    rintro e w' ⟨rfl, rfl⟩
    exact ⟨_, 0, rfl, rfl, fun _ => by simp⟩
set_option maxHeartbeats 2000000 in
set_option maxRecDepth 100000 in
theorem sumS {a : Nat} {x : EdV} (ha : a ≤ 2139095040) (hx : (kept x.2.2.2).isSome = true) (w : World) :
    Calls Try.prog 16 #[.int .u32 (a : Nat), .int .u32 x.2.2.2] w fun e w' => e = .returned (.int .u32 (M.addC a (wtN x) : Nat)) ∧ Hid (Below w.heap.size w w') := by
  have C1 := hide (admit_nat ha)
  have C2 := hide (admit_wt hx)
  have hwt : wtN x ≤ 2139095040 := Nat.le_of_lt (wtN_le x)
  obtain ⟨wt, hw⟩ : ∃ wt, wt = wtN x := ⟨_, rfl⟩
  rw [← hw] at C2 hwt ⊢
  generalize x.2.2.2 = bits at C2 ⊢
  obtain ⟨cc, hcc⟩ : ∃ cc, cc = M.addC a wt := ⟨_, rfl⟩
  have hci : cc ≤ 2139095040 := by rw [hcc]; exact M.addC_le ha hwt
  have C4 := hide (bits_nat hci)
  rw [← hcc]
  have HC : Hid (cc = M.addC a wt ∧ a ≤ 2139095040 ∧ wt ≤ 2139095040) := ⟨hcc, ha, hwt⟩
  have hmk := mkF2 w
  have hb := below_new w (oF2 0 0)
  have h0 := heap_alloc_new w (oF2 0 0)
  obtain ⟨W1, hW1⟩ : ∃ W1, W1 = w.alloc (oF2 0 0) := ⟨_, rfl⟩
  obtain ⟨g, hg⟩ : ∃ g, g = w.heap.size := ⟨_, rfl⟩
  rw [← hW1, ← hg] at hmk
  rw [← hW1] at h0 hb
  rw [← hg] at h0
  obtain ⟨k0, k1, kf⟩ := f2_cells h0
  have HB : Hid (Below w.heap.size w W1 ∧ W1.heap[g]? = some (oF2 0 0) ∧ w.heap.size ≤ g) := ⟨hb, h0, by omega⟩
  clear hW1 hg hb h0 ha hx hw hwt hcc hci
  go_enter Try.func16, Try.ntmps16
  go_wp2_with fail
  refine (unhide C1 _).mono ?_
  rintro e w2 ⟨z, er, rfl, hw2, HZ⟩
  rw [hw2]
  clear hw2 w2 hmk C1
  go_wp2_with fail
  have h1 := f2_set0 (z := z) (unhide HB).2.1
  have hb1 := below_set (o := 0) (v := .float .f32 z) (unhide HB).1 (unhide HB).2.2
  have HB1 : Hid (Below w.heap.size w (W1.setCell ⟨g, 0, none⟩ (.float .f32 z)) ∧ (W1.setCell ⟨g, 0, none⟩ (.float .f32 z)).heap[g]? = some (oF2 z 0) ∧ w.heap.size ≤ g) := ⟨hb1, h1, (unhide HB).2.2⟩
  clear h1 hb1 HB k0 k1 kf
  generalize W1.setCell ⟨g, 0, none⟩ (.float .f32 z) = W2 at *
  obtain ⟨k0, k1, kf⟩ := f2_cells (unhide HB1).2.1
  refine (unhide C2 _).mono ?_
  rintro e w3 ⟨rfl, hw3⟩
  rw [hw3]
  clear hw3 w3 C2
  by_cases hi : a = 2139095040
  · have e2 : cc = a := by rw [(unhide HC).1, M.addC_inf (unhide HC).2.1 (unhide HC).2.2 (.inl hi), hi]
    have HB2 : Hid (Below w.heap.size w (W2.setCell ⟨g, 1, none⟩ (.float .f32 wt))) := below_set (unhide HB1).1 (unhide HB1).2.2
    have zi : ((a : Nat) : Int) = 2139095040 := by omega
    subst e2
    clear C4 HC HB1 HZ hi
    go_wp2_with fail
    go_ret
    exact ⟨by rw [zi]; rfl, HB2⟩
  · have ez : z = a := unhide HZ hi
    subst ez
    have h2 := f2_set1 (z := wt) (unhide HB1).2.1
    have hb2 := below_set (o := 1) (v := .float .f32 wt) (unhide HB1).1 (unhide HB1).2.2
    obtain ⟨q0, q1, -⟩ := f2_cells h2
    have C3 := hide (fold_some g 0 2 2 [z, wt] (W2.setCell ⟨g, 1, none⟩ (.float .f32 wt)) rfl (by decide) (fun k hk => by
      rcases (show k = 0 ∨ k = 1 by omega) with e | e <;> subst e
      · exact q0
      · exact q1) (fun k => by
      have := unhide HC
      rcases k with _ | _ | k
      · show z < _; omega
      · show wt < _; omega
      · show 0 < _; omega))
    rw [foldN_two (unhide HC).2.1 (unhide HC).2.2, ← (unhide HC).1] at C3
    have HB2 := hide hb2
    have zi : (((z : Nat) : Int) == 2139095040) = false := by simpa using fun e => hi (by omega)
    clear q0 q1 h2 hb2 HZ HC HB1 hi
    go_wp2_with fail
    refine (unhide C3).mono ?_
    rintro e w4 ⟨rfl, hw4⟩
    rw [hw4]
    clear hw4 w4 C3
    go_wp2_with fail
    refine (unhide C4 _).mono ?_
    rintro e w4 ⟨rfl, hw4⟩
    rw [hw4]
    clear hw4 w4 C4
    go_wp2_with fail
    go_ret
    exact ⟨rfl, HB2⟩
end Go.Proofs.Ytijgeoegeeejcaa
