/- make([]int, n); slices.Repeat of one number. -/
import Derived.Test.YtdpdghhieokcfaaSea96
import Derived.Deep.OwnRows
import Derived.Laws.CopyRow
import Derived.Laws.CopyOwn
namespace Go.Proofs.Ytdpdghhieokcfaa
open Go.RowKit Go.Maps T9
theorem made_list (z : Value) (n : Nat) : (madeCells #[z] n).toList = List.replicate n z := toList_madeCells_one z n
theorem mkI {n : Nat} (hn : n ≤ 1000000) (w : World) : (Instr.makeSlice 22 (.int .i64 (n : Nat)) (.int .i64 (n : Nat))).run Try.prog w = .ok (.slice (some ⟨w.heap.size, 0, none⟩) n n) (w.alloc (.cells (madeCells #[.int .i64 0] n) 3)) :=
  run_make_row' 22 3 (.int .i64 0) 8 Try.underlying22 info3 rfl .i64 .i64 n (by omega) (by omega) w
theorem brow_made (n : Nat) (hn : n ≤ 1000000) (w : World) : BRow w.heap.size (w.alloc (.cells (madeCells #[.int .i64 0] n) 3)) (.slice (some ⟨w.heap.size, 0, none⟩) n n) (List.replicate n 0) := by
  refine ⟨by simp, .inr ⟨w.heap.size, n, madeCells #[.int .i64 0] n, by simp, Nat.le_refl _, heap_alloc_new _ _, by simp, by unfold maxLen; omega, ?_, ?_⟩⟩
  · rw [← Array.length_toList, made_list]; simp
  · rw [made_list]; simp
def rep (k n : Nat) : List Value := List.replicate k (.int .i64 (-1)) ++ List.replicate (n - k) (.int .i64 0)
theorem rep_len {k n : Nat} (h : k ≤ n) : (rep k n).length = n := by simp [rep]; omega
/-- k of n are filled. -/
structure RM (w : World) (n k : Nat) (W : World) : Prop where
  below : Below w.heap.size w W
  row : W.heap[w.heap.size]? = some (.cells (rep k n).toArray 3 (0, 0))
theorem RM.fill {w W : World} {n k m : Nat} (h : RM w n k W) (_hk : k ≤ n) (_hm : m ≤ n - k) : RM w n (k + m) (W.setRow w.heap.size ((rep k n).toArray.toList.take k ++ List.replicate m (Value.int .i64 (-1)) ++ (rep k n).toArray.toList.drop (k + (List.replicate m (Value.int .i64 (-1))).length)).toArray) := by
  refine ⟨below_setRow h.below (Nat.le_refl _) _, ?_⟩
  rw [setRow_heap _ _ _ _ _ _ h.row]
  congr 3
  have e1 : (rep k n).take k = List.replicate k (Value.int .i64 (-1)) := by unfold rep; rw [List.take_left' (by simp)]
  have e2 : (rep k n).drop (k + m) = List.replicate (n - (k + m)) (Value.int .i64 0) := by
    unfold rep
    rw [List.drop_append, List.drop_eq_nil_of_le (by simp), List.nil_append, List.length_replicate, List.drop_replicate]
    congr 1; omega
  simp only [List.length_replicate]
  rw [e1, e2]
  unfold rep
  rw [List.append_assoc, ← List.append_assoc, List.replicate_append_replicate]
theorem RM.cell {w W : World} {n k j : Nat} (h : RM w n k W) (hj : j < k) : W.cell? ⟨w.heap.size, j, none⟩ = some (.int .i64 (-1)) := by
  rw [cell_of_row _ _ j _ _ (0, 0) h.row]
  unfold rep
  rw [List.getElem?_toArray, List.getElem?_append_left (by simpa using hj), List.getElem?_replicate, if_pos hj]
theorem RM.copy {w W : World} {n k : Nat} (h : RM w n k W) (hk : k < n) : ∃ m W2, m = min k (n - k) ∧ (∀ ty, (Builtin.copy_ #[22, 22] ty #[.slice (some ⟨w.heap.size, k, none⟩) (n - k) (n - k), .slice (some ⟨w.heap.size, 0, none⟩) k n]).run Try.prog W = .ok (.int .i64 (m : Nat)) W2) ∧ RM w n (k + m) W2 := by
  refine ⟨min k (n - k), _, rfl, fun ty => ?_, h.fill (by omega) (Nat.min_le_right _ _)⟩
  have := run_copy_row (P := Try.prog) W 22 22 ty 3 w.heap.size k (n - k) (n - k) ⟨w.heap.size, 0, none⟩ k n (rep k n).toArray 3 (List.replicate (min k (n - k)) (Value.int .i64 (-1))) Try.underlying22 (by kernel_rfl) h.row (by simp) (fun j v hj => ?_) (by rw [List.length_replicate, List.size_toArray, rep_len (by omega)]; omega) (by intro v hv; rw [List.eq_of_mem_replicate hv]; rfl)
  · simp only [List.length_replicate] at this ⊢
    exact this
  · rw [List.getElem?_replicate] at hj
    split at hj
    · injection hj with hj
      subst hj
      rw [show (⟨w.heap.size, 0, none⟩ : Addr).add j = ⟨w.heap.size, j, none⟩ by unfold Addr.add; split <;> simp_all]
      exact h.cell (by omega)
    · cases hj
theorem RM.copy0 {w : World} {n : Nat} {v : Value} (hn : n ≤ 1000000) (hv : NRow w v [-1]) : ∃ m W2, m = min 1 n ∧ (∀ ty, (Builtin.copy_ #[22, 22] ty #[.slice (some ⟨w.heap.size, 0, none⟩) n n, v]).run Try.prog (w.alloc (.cells (madeCells #[.int .i64 0] n) 3)) = .ok (.int .i64 (m : Nat)) W2) ∧ RM w n m W2 := by
  obtain ⟨x, c, rfl, -⟩ := brow_shape hv
  obtain ⟨g, rfl⟩ := brow_some hv (by simp)
  have e0 : (madeCells #[.int .i64 0] n) = (rep 0 n).toArray := by
    apply Array.toList_inj.1
    rw [made_list]; simp [rep]
  have hb := below_new w (.cells (madeCells #[.int .i64 0] n) 3)
  have h0 : RM w n 0 (w.alloc (.cells (madeCells #[.int .i64 0] n) 3)) := ⟨hb, by rw [heap_alloc_new, e0]⟩
  have h1 := h0.fill (m := min 1 n) (by omega) (by omega)
  rw [Nat.zero_add] at h1
  refine ⟨min 1 n, _, rfl, fun ty => ?_, h1⟩
  have hcell := brow_at (nrow_below hv hb) (j := 0) (e := -1) rfl
  have := run_copy_row (P := Try.prog) (w.alloc (.cells (madeCells #[.int .i64 0] n) 3)) 22 22 ty 3 w.heap.size 0 n n ⟨g, 0, none⟩ 1 c (rep 0 n).toArray 3 (List.replicate (min 1 n) (Value.int .i64 (-1))) Try.underlying22 (by kernel_rfl) h0.row (by simp) (fun j u hj => ?_) (by rw [List.length_replicate, List.size_toArray, rep_len (by omega)]; omega) (by intro u hu; rw [List.eq_of_mem_replicate hu]; rfl)
  · simp only [List.length_replicate] at this ⊢
    exact this
  · rw [List.getElem?_replicate] at hj
    split at hj
    · injection hj with hj
      subst hj
      obtain rfl : j = 0 := by omega
      exact hcell
    · cases hj
theorem RM.drew {w W : World} {n k : Nat} (h : RM w n k W) : RM w n k W.drew := ⟨h.below.drew, h.row⟩
theorem RM.done {w W : World} {n : Nat} (hn : n ≤ 1000000) (h : RM w n n W) : BRow w.heap.size W (.slice (some ⟨w.heap.size, 0, none⟩) n n) (List.replicate n (-1)) := by
  refine ⟨by simp, .inr ⟨w.heap.size, n, _, by simp, Nat.le_refl _, h.row, by simp, by unfold maxLen; omega, by simp [rep], by simp [rep]⟩⟩
theorem step_copy_run9 {P : Program} {ops : Array Oper} {o : Oper} {a : Act} {w : World} {K : Act → World → Prop} {Q : Exit → Act → World → Prop} {E : Prop}
    (hg : o.guard = none) (s x : Operand) (t : TypeId) (hop : o.op = Op.call { callee := Callee.builtin Builtin.copy, args := #[s, x], argTypes := #[t, t] }) (v1 v2 : Value) (hs : a.eval s = v1) (hx : a.eval x = v2) (v' : Value) (w' : World)
    (hrun : (Builtin.copy_ #[t, t] o.type #[v1, v2]).run P w = .ok v' w') (hK : K (a.put o.dst v') w') :
    if Region.wanted o (yielded ops a.tmps) = true then Oper.wp P o a w K Q else E := by
  have hw : Region.wanted o (yielded ops a.tmps) = true := by simp [Region.wanted, hg]
  rw [if_pos hw]
  unfold Oper.wp
  simp only [execOp, hop, resolve, invoke, builtin, Sem.run_bind, Sem.run_pure, Result.andThen_ok, List.map_toArray, List.map_cons, List.map_nil, hs, hx, hrun]
  exact hK
theorem wpList_copy_run9 {P : Program} {ops : Array Oper} {rest : List Oper} {o : Oper} {a : Act} {w : World} {Q : Exit → Act → World → Prop} (hgd : o.guard = none) (s x : Operand) (t : TypeId) (hop : o.op = Op.call { callee := Callee.builtin Builtin.copy, args := #[s, x], argTypes := #[t, t] }) (v1 v2 : Value) (hs : a.eval s = v1) (hx : a.eval x = v2) (v' : Value) (w' : World)
    (hrun : (Builtin.copy_ #[t, t] o.type #[v1, v2]).run P w = .ok v' w') (h : wpList P ops Q rest (a.put o.dst v') w') : wpList P ops Q (o :: rest) a w :=
  wpList_plain hgd fun K hK => by
    unfold Oper.wp
    simp only [execOp, hop, resolve, invoke, builtin, Sem.run_bind, Sem.run_pure, Result.andThen_ok, List.map_toArray, List.map_cons, List.map_nil, hs, hx, hrun]
    exact hK _ _ h
set_option maxHeartbeats 4000000 in
set_option maxRecDepth 100000 in
theorem repeatS {w : World} {v : Value} {n : Nat} (hn : n ≤ 1000000) (hv : NRow w v [-1]) :
    Calls Try.prog 43 #[v, .int .i64 n] w fun e w' => e = .returned (.slice (some ⟨w.heap.size, 0, none⟩) n n) ∧ Hid (Below w.heap.size w w' ∧ BRow w.heap.size w' (.slice (some ⟨w.heap.size, 0, none⟩) n n) (List.replicate n (-1))) := by
  obtain ⟨m0, W0, hm0, r0, h0⟩ := RM.copy0 hn hv
  obtain ⟨x, c, rfl, -⟩ := brow_shape hv
  have HM := hide (And.intro hn hm0)
  have r1 : ∀ ty, (Builtin.copy_ #[22, 22] ty #[.slice (some ⟨w.heap.size, 0, none⟩) n n, .slice x 1 c]).run Try.prog (w.alloc (.cells (madeCells #[.int .i64 0] n) 3)) = .ok (.int .i64 (m0 : Nat)) W0 := r0
  have H0 := hide h0
  have CM : Hid (Calls Try.prog 61 #[.int .u64 1, .int .u64 n] w fun e w' => e = .returned (.tuple #[.int .u64 0, .int .u64 n]) ∧ w' = w) := by
    refine (Try.bits_Mul 1 n (by omega) (by omega) w).mono ?_
    rintro e w' ⟨rfl, rfl⟩
    refine ⟨?_, rfl⟩
    rw [show 1 * n / 18446744073709551616 = 0 by omega, show 1 * n % 18446744073709551616 = n by omega]
    rfl
  have hmk := mkI hn w
  have hu1 : IntKind.u64.wrap (n : Int) = (n : Int) := by rw [IntKind.wrap_u64]; omega
  have hu2 : IntKind.i64.wrap (n : Int) = (n : Int) := by rw [IntKind.wrap_i64]; omega
  have hz : decide ((9223372036854775807 : Int) < (n : Int)) = false := by simp; omega
  have hneg : ¬ (n : Int) < 0 := by omega
  obtain ⟨g, hg⟩ : ∃ g, g = w.heap.size := ⟨_, rfl⟩
  clear hv hn hm0 r0 h0
  go_enter Try.func43, Try.ntmps43
  go_wp2_with fail
  refine (unhide CM).mono ?_
  rintro e w' ⟨rfl, rfl⟩
  clear CM
  go_upto_region 8 with fail
  clear r1 hmk
  clear hu1 hu2 hz hneg
  have HK : Hid (RM w' n m0 W0 ∧ m0 ≤ n ∧ (0 < m0 ∨ n = 0)) := ⟨unhide H0, by have := unhide HM; omega, by have := unhide HM; omega⟩
  go_loopw [8] (fun s8 wr => ∃ k : Nat, s8 = .int .i64 (k : Nat) ∧ Hid (RM w' n k wr ∧ k ≤ n ∧ (0 < k ∨ n = 0))) (fun s8 _ => n - (intOf s8).toNat)
  case atStart => exact ⟨m0, rfl, HK⟩
  case round =>
    obtain ⟨k, rfl, hR⟩ := hrel
    by_cases hlt : k < n
    · have z1 : (k : Int) < (n : Int) := by omega
      have z2 : (k : Int) ≤ (n : Int) := by omega
      have z3 : ¬ k = n := by omega
      obtain ⟨m, W2, hm, r2, h2⟩ := (unhide hR).1.drew.copy hlt
      obtain ⟨k1, hk1⟩ : ∃ k1, k1 = k + m := ⟨_, rfl⟩
      have hw : IntKind.i64.wrap ((k : Int) + (m : Int)) = (k1 : Int) := by rw [IntKind.wrap_i64]; have := (unhide HM).1; omega
      rw [← hk1] at h2
      have H2 : Hid ((RM w' n k1 W2 ∧ k1 ≤ n ∧ (0 < k1 ∨ n = 0)) ∧ n - k1 < n - k) := ⟨⟨h2, by omega, by have := (unhide hR).2.2; omega⟩, by have := (unhide hR).2.2; omega⟩
      generalize w'.heap.size = bb at *
      clear hR hlt hm hk1 h2 HK H0
      go_upto_region 9 with fail
      go_region
      go_wp2_with fail
      exact ⟨⟨k1, rfl, (unhide H2).1⟩, by have := (unhide H2).2; simp [intOf]; omega⟩
    · have z1 : ¬ (k : Int) < (n : Int) := by omega
      obtain ⟨q1, q2, -⟩ := unhide hR
      obtain rfl : k = n := by omega
      have HG := hide (And.intro q1.below (q1.done (unhide HM).1))
      clear hR hlt q1 q2 HK H0
      go_wp2_with fail
      go_ret
      exact ⟨rfl, HG⟩
end Go.Proofs.Ytdpdghhieokcfaa
