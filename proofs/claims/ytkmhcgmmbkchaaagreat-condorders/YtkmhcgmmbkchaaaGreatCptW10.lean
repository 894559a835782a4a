/- slices.Compact over arcs, walked. -/
import Derived.Test.YtkmhcgmmbkchaaaGreatArcsW10
import Derived.Test.YtkmhcgmmbkchaaaGreatTail
import Derived.Sort.Grow
import Derived.Laws.StructEq
namespace Go.Proofs.YtkmhcgmmbkchaaaGreat

section
open Go.RowKit Go.Maps
def cmpI (x y : Int) : Int := if x < y then -1 else if y < x then 1 else 0
def orI (x y : Int) : Int := if x = 0 then y else x
def cfA (a b : Int × Int) : Int := orI (cmpI a.1 b.1) (cmpI a.2 b.2)
def lexLt (a b : Int × Int) : Prop := a.1 < b.1 ∨ (a.1 = b.1 ∧ a.2 < b.2)
theorem cfA_lt (a b : Int × Int) : cfA a b < 0 ↔ lexLt a b := by
  unfold cfA orI cmpI lexLt
  by_cases h1 : a.1 < b.1
  · simp [h1]
  · by_cases h2 : b.1 < a.1
    · simp [h1, h2]; omega
    · have e : a.1 = b.1 := by omega
      by_cases h3 : a.2 < b.2
      · simp [h1, h2, h3]; omega
      · by_cases h4 : b.2 < a.2 <;> simp [h1, h2, h3, h4]
theorem isNaN10 (x : Int) (W : World) : Calls Tryz.prog 69 #[.int .i64 x] W fun e w' => e = .returned (.bool false) ∧ w' = W := by
  go_enter Tryz.func69, Tryz.ntmps69
  go_wp2_with fail
  go_ret
  exact ⟨by simp, rfl⟩
set_option maxHeartbeats 1000000 in
set_option maxRecDepth 100000 in
theorem compare10 (x y : Int) (W : World) : Calls Tryz.prog 43 #[.int .i64 x, .int .i64 y] W fun e w' => e = .returned (.int .i64 (cmpI x y)) ∧ w' = W := by
  have CX := hide (isNaN10 x W)
  have CY := hide (isNaN10 y W)
  obtain ⟨r, hr⟩ : ∃ r, r = cmpI x y := ⟨_, rfl⟩
  rw [← hr]
  by_cases h1 : x < y
  · have e : r = -1 := by rw [hr]; unfold cmpI; rw [if_pos h1]
    subst e
    clear hr
    go_enter Tryz.func43, Tryz.ntmps43
    go_wp2_with fail
    refine (unhide CX).mono ?_
    rintro e w' ⟨rfl, rfl⟩
    go_wp2_with fail
    refine (unhide CY).mono ?_
    rintro e w' ⟨rfl, rfl⟩
    go_wp2_with fail
    go_ret
    exact ⟨rfl, rfl⟩
  · by_cases h2 : y < x
    · have e : r = 1 := by rw [hr]; unfold cmpI; rw [if_neg h1, if_pos h2]
      subst e
      clear hr
      go_enter Tryz.func43, Tryz.ntmps43
      go_wp2_with fail
      refine (unhide CX).mono ?_
      rintro e w' ⟨rfl, rfl⟩
      go_wp2_with fail
      refine (unhide CY).mono ?_
      rintro e w' ⟨rfl, rfl⟩
      go_wp2_with fail
      go_ret
      exact ⟨rfl, rfl⟩
    · have e : r = 0 := by rw [hr]; unfold cmpI; rw [if_neg h1, if_neg h2]
      subst e
      clear hr
      go_enter Tryz.func43, Tryz.ntmps43
      go_wp2_with fail
      refine (unhide CX).mono ?_
      rintro e w' ⟨rfl, rfl⟩
      go_wp2_with fail
      refine (unhide CY).mono ?_
      rintro e w' ⟨rfl, rfl⟩
      go_wp2_with fail
      go_ret
      exact ⟨rfl, rfl⟩
set_option maxHeartbeats 1000000 in
set_option maxRecDepth 100000 in
theorem or10 {W : World} {b : Nat} {x y : Int} (h0 : W.cell? ⟨b, 0, none⟩ = some (.int .i64 x)) (h1 : W.cell? ⟨b, 1, none⟩ = some (.int .i64 y)) : Calls Tryz.prog 42 #[.slice (some ⟨b, 0, none⟩) 2 2] W fun e w' => e = .returned (.int .i64 (orI x y)) ∧ w' = W := by
  by_cases hx : x = 0
  · by_cases hy : y = 0
    · have e : orI x y = 0 := by unfold orI; rw [if_pos hx, hy]
      rw [e]
      subst hx hy
      go_enter Tryz.func42, Tryz.ntmps42
      go_upto_region 3 with fail
      refine wp_loop_rounds 3 ?_
      rw [rounds_succ]
      go_wp2_with fail
      rw [rounds_succ]
      go_wp2_with fail
      rw [rounds_succ]
      go_wp2_with fail
      go_ret
      exact ⟨rfl, rfl⟩
    · have e : orI x y = y := by unfold orI; rw [if_pos hx]
      rw [e]
      have z1 : (y != 0) = true := by simpa using hy
      subst hx
      clear hy e
      go_enter Tryz.func42, Tryz.ntmps42
      go_upto_region 3 with fail
      refine wp_loop_rounds 2 ?_
      rw [rounds_succ]
      go_wp2_with fail
      rw [rounds_succ]
      go_wp2_with fail
      go_ret
      exact ⟨rfl, rfl⟩
  · have e : orI x y = x := by unfold orI; rw [if_neg hx]
    rw [e]
    have z1 : (x != 0) = true := by simpa using hx
    clear hx e
    go_enter Tryz.func42, Tryz.ntmps42
    go_upto_region 3 with fail
    refine wp_loop_rounds 1 ?_
    rw [rounds_succ]
    go_wp2_with fail
    go_ret
    exact ⟨rfl, rfl⟩
set_option maxHeartbeats 2000000 in
set_option maxRecDepth 100000 in
theorem arcsC10 (a b : Int × Int) (W : World) : Calls Tryz.prog 41 #[.agg #[.int .i64 a.1, .int .i64 a.2], .agg #[.int .i64 b.1, .int .i64 b.2]] W fun e w' => e = .returned (.int .i64 (cfA a b)) ∧ ∃ q os', w' = Go.Sort.grow (W.drewN q) os' := by
  obtain ⟨a1, a2⟩ := a
  obtain ⟨b1, b2⟩ := b
  dsimp only
  obtain ⟨wz, hwz⟩ : ∃ wz, wz = (W.alloc (oArc a1 a2)).alloc (oArc b1 b2) := ⟨_, rfl⟩
  have s1 : (W.alloc (oArc a1 a2)).heap.size = W.heap.size + 1 := by simp
  have n1 := ((below_new (W.alloc (oArc a1 a2)) (oArc b1 b2)).block W.heap.size (by omega)).trans (heap_alloc_new W (oArc a1 a2))
  have n2 := heap_alloc_new (W.alloc (oArc a1 a2)) (oArc b1 b2)
  rw [s1] at n2
  obtain ⟨k1, k2, -⟩ := cellsArc n1
  obtain ⟨k3, k4, -⟩ := cellsArc n2
  rw [← hwz] at k1 k2 k3 k4
  have C1 := hide (compare10 a1 b1 (wz.drewN 1))
  have C2 := hide (compare10 a2 b2 (wz.drewN 1))
  have HF : Hid (∀ o, ∃ q os', (wz.drewN 1).alloc o = Go.Sort.grow (W.drewN q) os') := fun o => ⟨1, (#[oArc a1 a2] ++ #[oArc b1 b2]) ++ #[o], by
    rw [hwz, Go.Sort.alloc_eq_grow W, Go.Sort.alloc_eq_grow _ (oArc b1 b2), Go.Sort.grow_grow, Go.Sort.alloc_eq_grow _ o]
    rw [show (Go.Sort.grow W (#[oArc a1 a2] ++ #[oArc b1 b2])).drewN 1 = Go.Sort.grow (W.drewN 1) (#[oArc a1 a2] ++ #[oArc b1 b2]) from rfl, Go.Sort.grow_grow]⟩
  obtain ⟨r, hr⟩ : ∃ r, r = cfA (a1, a2) (b1, b2) := ⟨_, rfl⟩
  obtain ⟨x, hx⟩ : ∃ x, x = cmpI a1 b1 := ⟨_, rfl⟩
  obtain ⟨y, hy⟩ : ∃ y, y = cmpI a2 b2 := ⟨_, rfl⟩
  rw [← hr]
  rw [← hx] at C1
  rw [← hy] at C2
  have HR : Hid (orI x y = r) := by rw [hr, hx, hy]; rfl
  clear s1 n1 n2 hr hx hy
  have CO : Hid (∀ o, o = .cells #[.int .i64 x, .int .i64 y] 3 → Calls Tryz.prog 42 #[.slice (some ⟨(wz.drewN 1).heap.size, 0, none⟩) 2 2] ((wz.drewN 1).alloc o) fun e w' => e = .returned (.int .i64 r) ∧ w' = (wz.drewN 1).alloc o) := fun o ho => by
    have hh := heap_alloc_new (wz.drewN 1) o
    rw [ho] at hh ⊢
    rw [← unhide HR]
    exact or10 ((cell_of_row _ _ 0 _ _ (0, 0) hh).trans rfl) ((cell_of_row _ _ 1 _ _ (0, 0) hh).trans rfl)
  have HS : Hid (∀ o, ((wz.drewN 1).alloc o).cell? ⟨W.heap.size, 0, none⟩ = some (.int .i64 a1) ∧ ((wz.drewN 1).alloc o).cell? ⟨W.heap.size, 1, none⟩ = some (.int .i64 a2) ∧ ((wz.drewN 1).alloc o).cell? ⟨W.heap.size + 1, 0, none⟩ = some (.int .i64 b1) ∧ ((wz.drewN 1).alloc o).cell? ⟨W.heap.size + 1, 1, none⟩ = some (.int .i64 b2)) := fun o => by
    have hb := below_new (wz.drewN 1) o
    have hs : wz.heap.size = W.heap.size + 2 := by rw [hwz]; simp
    have l0 : W.heap.size < (wz.drewN 1).heap.size := by show W.heap.size < wz.heap.size; omega
    have l1 : W.heap.size + 1 < (wz.drewN 1).heap.size := by show W.heap.size + 1 < wz.heap.size; omega
    exact ⟨(hb.cell (p := ⟨W.heap.size, 0, none⟩) l0).trans k1, (hb.cell (p := ⟨W.heap.size, 1, none⟩) l0).trans k2, (hb.cell (p := ⟨W.heap.size + 1, 0, none⟩) l1).trans k3, (hb.cell (p := ⟨W.heap.size + 1, 1, none⟩) l1).trans k4⟩
  have HW := hide hwz
  have hk4 : (wz.drewN 1).cell? ⟨W.heap.size, 0, none⟩ = some (.int .i64 a1) ∧ (wz.drewN 1).cell? ⟨W.heap.size, 1, none⟩ = some (.int .i64 a2) ∧ (wz.drewN 1).cell? ⟨W.heap.size + 1, 0, none⟩ = some (.int .i64 b1) ∧ (wz.drewN 1).cell? ⟨W.heap.size + 1, 1, none⟩ = some (.int .i64 b2) := ⟨k1, k2, k3, k4⟩
  have HK4 := hide hk4
  clear hwz hk4
  go_enter Tryz.func41, Tryz.ntmps41
  go_upto_region 1 with fail
  change Code.wp _ _ _ _ ((W.alloc (oArc a1 a2)).alloc (oArc b1 b2))
  rw [← unhide HW]
  refine wp_region_noPanic ?_
  refine regionL [] (fun y => y.cell? ⟨W.heap.size, 0, none⟩ = some (.int .i64 a1) ∧ y.cell? ⟨W.heap.size, 1, none⟩ = some (.int .i64 a2) ∧ y.cell? ⟨W.heap.size + 1, 0, none⟩ = some (.int .i64 b1) ∧ y.cell? ⟨W.heap.size + 1, 1, none⟩ = some (.int .i64 b2)) (by kernel_rfl) ⟨k1, k2, k3, k4⟩ (fun hHeld => ?_)
  refine takeL (i := 0) (v := ?t2v0) (some 5) rfl rfl (by kernel_rfl) (by kernel_rfl) (by kernel_rfl) (by kernel_rfl) (by kernel_rfl) (fun _ _ _ h => h) (Or.inl ⟨by rfl, ?t2h0⟩) (by assumption) ?t2r0
  case t2h0 => (intro y hSu; (try dsimp only at hSu); go_simp; first | done | with_reducible rfl)
  (try simp only [Act.put, List.setIfInBounds_toArray, List.set_cons_zero, List.set_cons_succ])
  refine takeL (i := 1) (v := ?t2v1) (some 6) rfl rfl (by kernel_rfl) (by kernel_rfl) (by kernel_rfl) (by kernel_rfl) (by kernel_rfl) (fun _ _ _ h => h) (Or.inl ⟨by rfl, ?t2h1⟩) (by assumption) ?t2r1
  case t2h1 => (intro y hSu; (try dsimp only at hSu); go_simp; first | done | with_reducible rfl)
  (try simp only [Act.put, List.setIfInBounds_toArray, List.set_cons_zero, List.set_cons_succ])
  refine takeL (i := 2) (v := ?t2v2) (some 7) rfl rfl (by kernel_rfl) (by kernel_rfl) (by kernel_rfl) (by kernel_rfl) (by kernel_rfl) (fun _ _ _ h => h) (Or.inl ⟨by rfl, ?t2h2⟩) (by assumption) ?t2r2
  case t2h2 => (intro y hSu; (try dsimp only at hSu); go_simp; first | done | with_reducible rfl)
  (try simp only [Act.put, List.setIfInBounds_toArray, List.set_cons_zero, List.set_cons_succ])
  refine takeL (i := 3) (v := ?t2v3) (some 8) rfl rfl (by kernel_rfl) (by kernel_rfl) (by kernel_rfl) (by kernel_rfl) (by kernel_rfl) (fun _ _ _ h => h) (Or.inl ⟨by rfl, ?t2h3⟩) (by assumption) ?t2r3
  case t2h3 => (intro y hSu; (try dsimp only at hSu); go_simp; first | done | with_reducible rfl)
  (try simp only [Act.put, List.setIfInBounds_toArray, List.set_cons_zero, List.set_cons_succ])
  refine takeL (i := 5) (v := ?t2v5) (some 10) rfl rfl (by kernel_rfl) (by kernel_rfl) (by kernel_rfl) (by kernel_rfl) (by kernel_rfl) (fun _ _ _ h => h) (Or.inl ⟨by rfl, ?t2h5⟩) (by assumption) ?t2r5
  case t2h5 => (intro y hSu; (try dsimp only at hSu); go_simp; first | done | with_reducible rfl)
  (try simp only [Act.put, List.setIfInBounds_toArray, List.set_cons_zero, List.set_cons_succ])
  refine takeL (i := 6) (v := ?t2v6) (some 11) rfl rfl (by kernel_rfl) (by kernel_rfl) (by kernel_rfl) (by kernel_rfl) (by kernel_rfl) (fun _ _ _ h => h) (Or.inl ⟨by rfl, ?t2h6⟩) (by assumption) ?t2r6
  case t2h6 => (intro y hSu; (try dsimp only at hSu); go_simp; first | done | with_reducible rfl)
  (try simp only [Act.put, List.setIfInBounds_toArray, List.set_cons_zero, List.set_cons_succ])
  refine takeL (i := 7) (v := ?t2v7) (some 12) rfl rfl (by kernel_rfl) (by kernel_rfl) (by kernel_rfl) (by kernel_rfl) (by kernel_rfl) (fun _ _ _ h => h) (Or.inl ⟨by rfl, ?t2h7⟩) (by assumption) ?t2r7
  case t2h7 => (intro y hSu; (try dsimp only at hSu); go_simp; first | done | with_reducible rfl)
  (try simp only [Act.put, List.setIfInBounds_toArray, List.set_cons_zero, List.set_cons_succ])
  refine takeL (i := 8) (v := ?t2v8) (some 13) rfl rfl (by kernel_rfl) (by kernel_rfl) (by kernel_rfl) (by kernel_rfl) (by kernel_rfl) (fun _ _ _ h => h) (Or.inl ⟨by rfl, ?t2h8⟩) (by assumption) ?t2r8
  case t2h8 => (intro y hSu; (try dsimp only at hSu); go_simp; first | done | with_reducible rfl)
  (try simp only [Act.put, List.setIfInBounds_toArray, List.set_cons_zero, List.set_cons_succ])
  refine readyL (i := 4) (by kernel_rfl) rfl (fun K hK => ?_)
  go_simp
  refine (unhide C1).mono ?_
  rintro e w10 ⟨rfl, hw10⟩
  rw [hw10]
  clear C1 hw10 w10
  (try dsimp only)
  refine hK.out _ _ (fun _ => (unhide HK4)) ?_
  clear hK K
  (try simp only [Act.put, List.setIfInBounds_toArray, List.set_cons_zero, List.set_cons_succ])
  have hH4 := (unhide HK4)
  refine readyL (i := 9) (by kernel_rfl) rfl (fun K hK => ?_)
  go_simp
  refine (unhide C2).mono ?_
  rintro e w10 ⟨rfl, hw10⟩
  rw [hw10]
  clear C2 hw10 w10
  (try dsimp only)
  refine hK.out _ _ (fun _ => (unhide HK4)) ?_
  clear hK K
  (try simp only [Act.put, List.setIfInBounds_toArray, List.set_cons_zero, List.set_cons_succ])
  have hH6 := (unhide HK4)
  refine readyL (i := 10) (by kernel_rfl) rfl (fun K hK => ?_)
  go_simp
  refine hK.out _ _ (fun _ => (unhide HS (.cells #[.int .i64 x, .int .i64 y] 3))) ?_
  clear hK K
  (try simp only [Act.put, List.setIfInBounds_toArray, List.set_cons_zero, List.set_cons_succ])
  have hH8 := (unhide HS (.cells #[.int .i64 x, .int .i64 y] 3))
  refine readyL (i := 11) (by kernel_rfl) rfl (fun K hK => ?_)
  go_simp
  refine (unhide CO _ rfl).mono ?_
  rintro e w10 ⟨rfl, hw10⟩
  rw [hw10]
  clear CO hw10 w10
  (try dsimp only)
  refine hK.out _ _ (fun _ => (unhide HS (.cells #[.int .i64 x, .int .i64 y] 3))) ?_
  clear hK K
  (try simp only [Act.put, List.setIfInBounds_toArray, List.set_cons_zero, List.set_cons_succ])
  have hH10 := (unhide HS (.cells #[.int .i64 x, .int .i64 y] 3))
  refine takeL (i := 12) (v := ?t11v12) (some 4) rfl rfl (by kernel_rfl) (by kernel_rfl) (by kernel_rfl) (by kernel_rfl) (by kernel_rfl) (fun _ _ _ h => h) (Or.inl ⟨by rfl, ?t11h12⟩) (by assumption) ?t11r12
  case t11h12 => (intro y hSu; (try dsimp only at hSu); go_simp; first | done | with_reducible rfl)
  (try simp only [Act.put, List.setIfInBounds_toArray, List.set_cons_zero, List.set_cons_succ])
  refine doneL (by kernel_rfl) ?_ _
  refine NoPanic.normal ?_
  clear HS k1 k2 k3 k4
  go_wp2_with fail
  go_ret
  exact ⟨rfl, unhide HF _⟩
end

section
open Go.RowKit Go.Maps
/-- Without what stands behind its like. -/
def dedF (p : Int × Int) : List (Int × Int) → List (Int × Int)
  | [] => []
  | x :: xs => if x = p then dedF p xs else x :: dedF x xs
def ded : List (Int × Int) → List (Int × Int)
  | [] => []
  | x :: xs => x :: dedF x xs
theorem dedF_snoc : ∀ (p : Int × Int) (xs : List (Int × Int)) (x : Int × Int), dedF p (xs ++ [x]) = if (p :: xs).getLast? = some x then dedF p xs else dedF p xs ++ [x]
  | p, [], x => by
    by_cases h : x = p
    · simp [dedF, h]
    · simp [dedF, h]; exact fun e => h e.symm
  | p, y :: ys, x => by
    show dedF p (y :: (ys ++ [x])) = _
    unfold dedF
    by_cases h : y = p
    · subst h
      rw [if_pos rfl, if_pos rfl, dedF_snoc y ys x]
      simp
    · rw [if_neg h, if_neg h, dedF_snoc y ys x]
      have e : (p :: y :: ys).getLast? = (y :: ys).getLast? := by simp
      rw [e]
      by_cases h2 : (y :: ys).getLast? = some x
      · rw [if_pos h2, if_pos h2]
      · rw [if_neg h2, if_neg h2]; rfl
theorem ded_snoc {xs : List (Int × Int)} {x : Int × Int} (h0 : xs ≠ []) : ded (xs ++ [x]) = if xs.getLast? = some x then ded xs else ded xs ++ [x] := by
  cases xs with
  | nil => exact absurd rfl h0
  | cons y ys =>
    show y :: dedF y (ys ++ [x]) = _
    rw [dedF_snoc]
    by_cases h2 : (y :: ys).getLast? = some x
    · rw [if_pos h2, if_pos h2]; rfl
    · rw [if_neg h2, if_neg h2]; rfl
theorem dedF_mem : ∀ (p : Int × Int) (xs : List (Int × Int)) (x : Int × Int), x ∈ p :: dedF p xs ↔ x ∈ p :: xs
  | p, [], x => Iff.rfl
  | p, y :: ys, x => by
    unfold dedF
    by_cases h : y = p
    · subst h
      rw [if_pos rfl, dedF_mem y ys x]; simp
    · rw [if_neg h, List.mem_cons, dedF_mem y ys x]
      simp only [List.mem_cons]
theorem ded_mem (xs : List (Int × Int)) (x : Int × Int) : x ∈ ded xs ↔ x ∈ xs := by
  cases xs with
  | nil => exact Iff.rfl
  | cons y ys => exact dedF_mem y ys x
theorem lexLt_trans {a b c : Int × Int} (h1 : lexLt a b) (h2 : lexLt b c) : lexLt a c := by unfold lexLt at *; omega
/-- What rises, with likes, rises without them. -/
theorem dedF_rise : ∀ (p : Int × Int) (xs : List (Int × Int)), (p :: xs).Pairwise (fun a b => ¬ lexLt b a) → (p :: dedF p xs).Pairwise lexLt
  | p, [], _ => by simp [dedF]
  | p, y :: ys, h => by
    obtain ⟨h1, h2⟩ := List.pairwise_cons.1 h
    unfold dedF
    by_cases e : y = p
    · subst e
      rw [if_pos rfl]
      exact dedF_rise y ys h2
    · rw [if_neg e]
      have ih := dedF_rise y ys h2
      refine List.pairwise_cons.2 ⟨fun z hz => ?_, ih⟩
      have hpy : lexLt p y := by
        have := h1 y List.mem_cons_self
        have e2 : ¬ (y.1 = p.1 ∧ y.2 = p.2) := fun q => e (Prod.ext q.1 q.2)
        unfold lexLt at *; omega
      rcases List.mem_cons.1 hz with q | q
      · rw [q]; exact hpy
      · exact lexLt_trans hpy ((List.pairwise_cons.1 ih).1 z q)
theorem ded_rise {xs : List (Int × Int)} (h : xs.Pairwise (fun a b => ¬ lexLt b a)) : (ded xs).Pairwise lexLt := by
  cases xs with
  | nil => exact .nil
  | cons y ys => exact dedF_rise y ys h
theorem dedF_len : ∀ (p : Int × Int) (xs : List (Int × Int)), (dedF p xs).length ≤ xs.length
  | p, [] => Nat.le_refl _
  | p, y :: ys => by
    unfold dedF
    by_cases e : y = p
    · rw [if_pos e]; have := dedF_len p ys; simp; omega
    · rw [if_neg e]; have := dedF_len y ys; simp; omega
theorem ded_len (xs : List (Int × Int)) : (ded xs).length ≤ xs.length := by
  cases xs with
  | nil => exact Nat.le_refl _
  | cons y ys => have := dedF_len y ys; simp [ded]; omega
/-- Block g holds these arcs, and something behind them. -/
structure RC (w : World) (g c : Nat) (dl : List (Int × Int)) (rest : List Value) (W : World) : Prop where
  heap : W.heap[g]? = some (.cells (encA dl ++ rest).toArray 54 (0, 0))
  len : (encA dl ++ rest).length = c * 2
  tur : Turned (fun b => b = g) w W
theorem encA_get : ∀ {l : List (Int × Int)} {i : Nat} {a : Int × Int}, l[i]? = some a → (encA l)[i * 2]? = some (.int .i64 a.1) ∧ (encA l)[i * 2 + 1]? = some (.int .i64 a.2)
  | [], i, a, h => by cases h
  | x :: l, 0, a, h => by injection h with h; subst h; exact ⟨rfl, rfl⟩
  | x :: l, i + 1, a, h => by
    have := encA_get (l := l) (i := i) (a := a) h
    rw [show (i + 1) * 2 = i * 2 + 1 + 1 by omega]
    exact this
section
variable {w W : World} {g c : Nat} {dl : List (Int × Int)} {rest : List Value}
theorem RC.at_ (h : RC w g c dl rest W) {i : Nat} {a : Int × Int} (hi : dl[i]? = some a) : W.cell? ⟨g, i * 2, none⟩ = some (.int .i64 a.1) ∧ W.cell? ⟨g, i * 2 + 1, none⟩ = some (.int .i64 a.2) := by
  obtain ⟨h1, h2⟩ := encA_get hi
  have l1 := (List.getElem?_eq_some_iff.1 h1).1
  have l2 := (List.getElem?_eq_some_iff.1 h2).1
  constructor
  · rw [cell_of_row _ _ _ _ _ _ h.heap]; simp [List.getElem?_append_left l1, h1]
  · rw [cell_of_row _ _ _ _ _ _ h.heap]; simp [List.getElem?_append_left l2, h2]
theorem RC.frozen (h : RC w g c dl rest W) : ∀ o, W.frozen? ⟨g, o, none⟩ = false := fun o => frozen_of_row _ _ o _ _ h.heap
theorem encA_set (l : List (Int × Int)) (k : Nat) (a : Int × Int) : ((encA l).set (k * 2) (.int .i64 a.1)).set (k * 2 + 1) (.int .i64 a.2) = encA (l.set k a) := by
  induction l generalizing k with
  | nil => rfl
  | cons x l ih =>
    cases k with
    | zero => rfl
    | succ k =>
      have := ih k
      rw [show (k + 1) * 2 = k * 2 + 1 + 1 by omega]
      show _ :: _ :: ((encA l).set (k * 2) _).set (k * 2 + 1) _ = _
      rw [this]; rfl
theorem RC.set (h : RC w g c dl rest W) {k : Nat} (hk : k < dl.length) (a : Int × Int) : RC w g c (dl.set k a) rest ((W.setCell ⟨g, k * 2, none⟩ (.int .i64 a.1)).setCell ⟨g, k * 2 + 1, none⟩ (.int .i64 a.2)) := by
  have hl : (encA dl).length = dl.length * 2 := encA_len dl
  have e1 := heap_setCell_same W g (k * 2) _ 54 (.int .i64 a.1) h.heap
  have e2 := heap_setCell_same _ g (k * 2 + 1) _ 54 (.int .i64 a.2) e1
  refine ⟨?_, ?_, (h.tur.trans (turned_setCell W ⟨g, k * 2, none⟩ _ rfl)).trans (turned_setCell _ ⟨g, k * 2 + 1, none⟩ _ rfl)⟩
  · rw [e2]
    congr 2
    simp only [List.setIfInBounds_toArray]
    rw [List.set_append_left _ _ (by omega), List.set_append_left _ _ (by rw [List.length_set]; omega), encA_set]
  · have := h.len
    rw [List.length_append, encA_len] at this ⊢
    rw [List.length_set]; exact this
theorem RC.drewN (h : RC w g c dl rest W) (q : Nat) : RC w g c dl rest (W.drewN q) := ⟨h.heap, h.len, h.tur.drewN q⟩
/-- The first k of them. -/
theorem RC.owns (h : RC w g c dl rest W) (B : Nat) (hB : B ≤ g) {k : Nat} (hk : k ≤ dl.length) (hc : c ≤ maxLen) : ABRow B W (.slice (some ⟨g, 0, none⟩) k c) (dl.take k) := by
  have hl : (dl.take k).length = k := by rw [List.length_take]; omega
  have hlen := h.len
  rw [List.length_append, encA_len] at hlen
  refine ⟨by rw [encA_len], .inr ⟨g, c, _, by rw [hl], hB, h.heap, by rw [hl]; omega, hc, by rw [← h.len]; simp, ?_⟩⟩
  rw [hl]
  show ((encA dl ++ rest).toArray.toList).take (k * 2) = encA (dl.take k)
  have e : encA dl = encA (dl.take k) ++ encA (dl.drop k) := by rw [← encA_append, List.take_append_drop]
  rw [List.toList_toArray, e, List.append_assoc]
  exact List.take_left' (by rw [encA_len, hl])
end
/-- clear from the k-th on. -/
theorem RC.clear {w W : World} {g c : Nat} {dl : List (Int × Int)} {rest : List Value} (h : RC w g c dl rest W) {k : Nat} (hk : k ≤ dl.length) (sp : Option Addr) (m : Nat) (hsp : 0 < dl.length - k → sp = some ⟨g, k * 2, none⟩) :
    ∃ W', (∀ ty, (Builtin.clear_ #[50] ty #[.slice sp (dl.length - k) m]).run Tryz.prog W = .ok (.tuple #[]) W') ∧ ∃ rest', RC w g c (dl.take k) rest' W' := by
  have hlk : (dl.take k).length = k := by rw [List.length_take]; omega
  by_cases h0 : dl.length - k = 0
  · have e : dl.take k = dl := List.take_of_length_le (by omega)
    rw [h0, e]
    refine ⟨W, fun ty => ?_, rest, h⟩
    cases sp <;> simp [Builtin.clear_, run_underlying Tryz.underlying50]
  · obtain rfl := hsp (by omega)
    obtain ⟨n, hn⟩ : ∃ n, dl.length - k = n + 1 := ⟨dl.length - k - 1, by omega⟩
    rw [hn]
    have hz : (Value.agg #[.int .i64 0, .int .i64 0]).cells.size = 2 := rfl
    have hlen : (Builtin.zeroCells (Value.agg #[.int .i64 0, .int .i64 0]).cells (n + 1)).toList.length = (n + 1) * 2 := by simp [Builtin.zeroCells, hz]
    have h1 : ∀ v ∈ (Builtin.zeroCells (Value.agg #[.int .i64 0, .int .i64 0]).cells (n + 1)).toList, v.oneCell' = true := by
      intro v hv'
      rw [List.mem_iff_getElem] at hv'
      obtain ⟨j, hj, rfl⟩ := hv'
      simp only [Builtin.zeroCells] at hj ⊢
      simp at hj ⊢
      have hlt : j % (Value.agg #[.int .i64 0, .int .i64 0]).cells.size < (Value.agg #[.int .i64 0, .int .i64 0]).cells.size := Nat.mod_lt _ (by rw [hz]; omega)
      have hall : ∀ v ∈ (Value.agg #[.int .i64 0, .int .i64 0]).cells.toList, v.oneCell' = true := by
        intro v hv
        simp [Value.cells] at hv
        rcases hv with rfl | rfl <;> rfl
      refine hall _ ?_
      rw [getElem!_pos (Value.agg #[.int .i64 0, .int .i64 0]).cells (j % (Value.agg #[.int .i64 0, .int .i64 0]).cells.size) hlt]
      simp
    have hl2 := h.len
    rw [List.length_append, encA_len] at hl2
    have hst := run_storeCells_at Tryz.prog g (k * 2) 54 (Builtin.zeroCells (Value.agg #[.int .i64 0, .int .i64 0]).cells (n + 1)).toList 0 (encA dl ++ rest).toArray W h.heap (by simp [hlen, encA_len]; omega) h1
    simp only [Nat.add_zero] at hst
    generalize hZ : (Builtin.zeroCells (Value.agg #[.int .i64 0, .int .i64 0]).cells (n + 1)).toList = Z at hst hlen
    have ecut : (encA dl ++ rest).take (k * 2) = encA (dl.take k) := by
      have e : encA dl = encA (dl.take k) ++ encA (dl.drop k) := by rw [← encA_append, List.take_append_drop]
      rw [e, List.append_assoc]
      exact List.take_left' (by rw [encA_len, hlk])
    have hcs : (encA dl ++ rest).take (k * 2) ++ Z ++ (encA dl ++ rest).drop (k * 2 + Z.length) = encA (dl.take k) ++ (Z ++ (encA dl ++ rest).drop (k * 2 + Z.length)) := by rw [ecut, List.append_assoc]
    refine ⟨W.setRow g ((encA dl ++ rest).take (k * 2) ++ Z ++ (encA dl ++ rest).drop (k * 2 + Z.length)).toArray, fun ty => ?_, Z ++ (encA dl ++ rest).drop (k * 2 + Z.length), ?_, ?_, ?_⟩
    · simp only [Builtin.clear_]
      simp [run_underlying Tryz.underlying50, show ∀ w, (zeroValue 54).run Tryz.prog w = .ok (Value.agg #[.int .i64 0, .int .i64 0]) w from zeroA, hZ, hst]
    · rw [← hcs]; exact setRow_heap W g _ _ _ _ h.heap
    · rw [List.length_append, encA_len, hlk, List.length_append, List.length_drop, List.length_append, encA_len, hlen]; omega
    · exact h.tur.trans ⟨rfl, rfl, rfl, by simp [World.setRow], fun b _ hn => setRow_other W g b _ hn⟩
end

section
open Go.RowKit Go.Maps
theorem eqA (x y : Int × Int) (w : World) : (Op.equalIn 10000 54 (.agg #[.int .i64 x.1, .int .i64 x.2]) (.agg #[.int .i64 y.1, .int .i64 y.2])).run Tryz.prog w = .ok (decide (x = y)) w := by
  have hS : Tryz.prog.underlying 54 = some (.struct (Tryz.prog.fieldsOf 54)) := by kernel_rfl
  have hp : Tryz.prog.stoodInHeld 54 = false := by kernel_rfl
  rw [show (10000 : Nat) = 9999 + 1 from rfl, run_equalIn_agg w 9999 54 _ _ hS hp]
  simp only [Program.fieldsOf, Tryz.underlying54]
  go_simp
  obtain ⟨a, b⟩ := x
  obtain ⟨a', b'⟩ := y
  by_cases h1 : a = a' <;> by_cases h2 : b = b' <;> simp [h1, h2]
theorem rc_of {B : Nat} {w : World} {g n c : Nat} {l : List (Int × Int)} (h : ABRow B w (.slice (some ⟨g, 0, none⟩) n c) l) : n = l.length ∧ n ≤ c ∧ c ≤ maxLen ∧ B ≤ g ∧ ∃ rest, RC w g c l rest w := by
  rcases h.2 with ⟨e, -⟩ | ⟨g', cap, cur, e, hb, hg, hc, hm, hs, ht⟩
  · cases e
  · injection e with e1 e2 e3
    injection e1 with e1
    injection e1 with e1
    subst e1 e3
    refine ⟨e2, by omega, hm, hb, cur.toList.drop (l.length * 2), ?_, ?_, Turned.refl _ _⟩
    · rw [hg, ← ht, List.take_append_drop]
    · rw [← ht, List.take_append_drop]; simpa using hs
theorem ded_take {l : List (Int × Int)} {k : Nat} {x y : Int × Int} (h1 : l[k]? = some y) (h2 : l[k + 1]? = some x) : ded (l.take (k + 2)) = if y = x then ded (l.take (k + 1)) else ded (l.take (k + 1)) ++ [x] := by
  have e1 : l.take (k + 2) = l.take (k + 1) ++ [x] := by rw [List.take_add_one, h2]; rfl
  have e2 : (l.take (k + 1)).getLast? = some y := by rw [List.take_add_one, h1]; simp
  have e3 : l.take (k + 1) ≠ [] := fun e => by rw [e] at e2; cases e2
  rw [e1, ded_snoc e3, e2]
  by_cases h : y = x
  · rw [if_pos h, if_pos (by rw [h])]
  · rw [if_neg h, if_neg (fun e => h (Option.some.inj e))]
/-- In the midst of the second loop. -/
def CptM (w : World) (g c : Nat) (l : List (Int × Int)) (k0 k2 k : Nat) (W : World) : Prop :=
  1 ≤ k2 ∧ k0 + k2 ≤ l.length ∧ k + 1 ≤ k0 + k2 ∧ k = (ded (l.take (k0 + k2))).length ∧ ∃ rest, RC w g c (ded (l.take (k0 + k2)) ++ l.drop k) rest W
theorem cmid_at {l : List (Int × Int)} {d : List (Int × Int)} {k j : Nat} (hk : k = d.length) (hj : k ≤ j) : (d ++ l.drop k)[j]? = l[j]? := by
  rw [List.getElem?_append_right (by omega), List.getElem?_drop]
  congr 1; omega
theorem CptM.same {w W : World} {g c : Nat} {l : List (Int × Int)} {k0 k2 k : Nat} {x : Int × Int} (h : CptM w g c l k0 k2 k W) (h1 : l[k0 + k2 - 1]? = some x) (h2 : l[k0 + k2]? = some x) : CptM w g c l k0 (k2 + 1) k W := by
  obtain ⟨a1, a2, a3, a4, rest, a5⟩ := h
  have hl := (List.getElem?_eq_some_iff.1 h2).1
  have e := ded_take (k := k0 + k2 - 1) h1 (by rw [show k0 + k2 - 1 + 1 = k0 + k2 by omega]; exact h2)
  rw [if_pos rfl, show k0 + k2 - 1 + 2 = k0 + (k2 + 1) by omega, show k0 + k2 - 1 + 1 = k0 + k2 by omega] at e
  exact ⟨by omega, by omega, by omega, by rw [e]; exact a4, rest, by rw [e]; exact a5⟩
theorem CptM.put {w W : World} {g c : Nat} {l : List (Int × Int)} {k0 k2 k : Nat} {x y : Int × Int} (h : CptM w g c l k0 k2 k W) (h1 : l[k0 + k2 - 1]? = some y) (h2 : l[k0 + k2]? = some x) (hne : ¬ y = x) : CptM w g c l k0 (k2 + 1) (k + 1) ((W.setCell ⟨g, k * 2, none⟩ (.int .i64 x.1)).setCell ⟨g, k * 2 + 1, none⟩ (.int .i64 x.2)) := by
  obtain ⟨a1, a2, a3, a4, rest, a5⟩ := h
  have hl := (List.getElem?_eq_some_iff.1 h2).1
  have e := ded_take (k := k0 + k2 - 1) h1 (by rw [show k0 + k2 - 1 + 1 = k0 + k2 by omega]; exact h2)
  rw [if_neg hne, show k0 + k2 - 1 + 2 = k0 + (k2 + 1) by omega, show k0 + k2 - 1 + 1 = k0 + k2 by omega] at e
  have hlen : (ded (l.take (k0 + k2)) ++ l.drop k).length = l.length := by rw [List.length_append, ← a4, List.length_drop]; omega
  have hs := a5.set (k := k) (by rw [hlen]; omega) x
  refine ⟨by omega, by omega, by omega, by rw [e, List.length_append, ← a4]; rfl, rest, ?_⟩
  rw [e]
  have e2 : (ded (l.take (k0 + k2)) ++ l.drop k).set k x = ded (l.take (k0 + k2)) ++ [x] ++ l.drop (k + 1) := by
    rw [List.set_append_right _ _ (by omega), ← a4, Nat.sub_self, List.append_assoc]
    congr 1
    have hk : k < l.length := by omega
    rw [List.drop_eq_getElem_cons hk]; rfl
  rw [← e2]; exact hs
set_option maxHeartbeats 4000000 in
set_option maxRecDepth 100000 in
theorem compactS {B : Nat} {w : World} {g n c : Nat} {l : List (Int × Int)} (h : ABRow B w (.slice (some ⟨g, 0, none⟩) n c) l) (hl : l.length ≤ 100000) :
    Calls Tryz.prog 44 #[.slice (some ⟨g, 0, none⟩) n c] w fun e w' => ∃ k, e = .returned (.slice (some ⟨g, 0, none⟩) k c) ∧ Hid (ABRow B w' (.slice (some ⟨g, 0, none⟩) k c) (ded l) ∧ Turned (fun b => b = g) w w') := by
  obtain ⟨hn, hnc, hcm, hBg, rest, hRC⟩ := rc_of h
  have HN : Hid (n = l.length ∧ n ≤ c ∧ c ≤ maxLen ∧ B ≤ g ∧ n ≤ 100000) := ⟨hn, hnc, hcm, hBg, by omega⟩
  have HRC := hide hRC
  have HSAME : Hid (∀ q, ded l = l → ABRow B (w.drewN q) (.slice (some ⟨g, 0, none⟩) n c) (ded l) ∧ Turned (fun b => b = g) w (w.drewN q)) := fun q e => ⟨by rw [e]; exact abrow_kept h (fun _ _ => rfl), (Turned.refl _ _).drewN q⟩
  have d1 : ∀ k, ded (l.take k) = l.take k → k = l.length → ded l = l := fun k e1 e2 => by rw [e2, List.take_length] at e1; exact e1
  have HD1 := hide d1
  clear h hl hn hnc hcm hBg hRC d1
  by_cases hn2 : n < 2
  · have z1 : (n : Int) < 2 := by omega
    have HE : Hid (ded l = l) := by
      have := (unhide HN).1
      match l, this with
      | [], _ => rfl
      | [x], _ => rfl
      | x :: y :: t, q => simp at q; omega
    clear hn2
    go_enter Tryz.func44, Tryz.ntmps44
    go_wp2_with fail
    go_ret
    exact ⟨n, rfl, unhide HSAME 0 (unhide HE)⟩
  · have z1 : ¬ (n : Int) < 2 := by omega
    have HN2 : Hid (2 ≤ n) := by show 2 ≤ n; omega
    clear hn2
    go_enter Tryz.func44, Tryz.ntmps44
    go_upto_region 4 with fail
    go_loopw [3] (fun s3 W => ∃ k1 k q : Nat, s3 = .int .i64 k ∧ W = w.drewN q ∧ Hid (k = k1 + 1 ∧ k ≤ n ∧ ded (l.take k) = l.take k)) (fun s3 _ => n - (intOf s3).toNat)
    case atStart => exact ⟨0, 1, 0, rfl, rfl, rfl, by have := unhide HN2; omega, by
      have := (unhide HN).1
      have := unhide HN2
      cases l with
      | nil => rfl
      | cons x t => rfl⟩
    case round =>
      obtain ⟨k1, k, q, rfl, hwr, HK⟩ := hrel
      obtain ⟨hk, hkn, hdd⟩ := unhide HK
      obtain ⟨n1, n2, n3, n4, n5⟩ := unhide HN
      by_cases hlt : k < n
      · obtain ⟨x, hx⟩ : ∃ x, l[k]? = some x := ⟨_, List.getElem?_eq_getElem (by omega)⟩
        obtain ⟨yy, hy⟩ : ∃ y, l[k1]? = some y := ⟨_, List.getElem?_eq_getElem (by omega)⟩
        have R := (unhide HRC).drewN q
        rw [← hwr] at R
        obtain ⟨cx1, cx2⟩ := R.at_ hx
        obtain ⟨cy1, cy2⟩ := R.at_ hy
        have z2 : (k : Int) < (n : Int) := by omega
        have z3 : (k1 : Int) < (n : Int) := by omega
        have zm : IntKind.i64.wrap ((k : Int) - 1) = (k1 : Int) := by rw [IntKind.wrap_i64]; omega
        have HX : Hid (l[k]? = some x ∧ l[k1]? = some yy) := ⟨hx, hy⟩
        have HWR := hide hwr
        by_cases hxy : x = yy
        · have hq : ∀ W : World, (Op.equalIn 10000 54 (.agg #[.int .i64 x.1, .int .i64 x.2]) (.agg #[.int .i64 yy.1, .int .i64 yy.2])).run Tryz.prog W = .ok true W := fun W => by rw [eqA x yy W, decide_eq_true hxy]
          have HM0 : Hid (∀ q', CptM w g c l k 1 k (wr.drewN q')) := fun q' => by
            have e := ded_take (k := k1) hy (by rw [← hk]; exact hx)
            rw [if_pos hxy.symm, ← hk, show k1 + 2 = k + 1 by omega, hdd] at e
            refine ⟨Nat.le_refl _, by omega, by omega, by rw [e, List.length_take]; omega, rest, ?_⟩
            rw [e, List.take_append_drop]
            exact R.drewN q'
          have hck : ¬ c = k := by omega
          have hkc : k ≤ c := by omega
          have zk : (k : Int) ≤ (n : Int) := by omega
          have HKK : Hid (k + 1 ≤ n ∧ 1 ≤ k) := ⟨by omega, by omega⟩
          clear hx hy R hwr hk hkn hdd n1 n2 n3 n4 n5 hlt HK hxy HSAME HD1
          go_upto_region 6 with fail
          refine wp_region_noPanic ?_
          refine regionL [] (fun y => y.cell? ⟨g, k * 2, none⟩ = some (.int .i64 x.1) ∧ y.cell? ⟨g, k * 2 + 1, none⟩ = some (.int .i64 x.2) ∧ y.cell? ⟨g, k1 * 2, none⟩ = some (.int .i64 yy.1) ∧ y.cell? ⟨g, k1 * 2 + 1, none⟩ = some (.int .i64 yy.2)) (by kernel_rfl) ⟨cx1, cx2, cy1, cy2⟩ (fun hHeld => ?_)
          refine takeL (i := 0) (v := ?t2v0) (some 16) rfl rfl (by kernel_rfl) (by kernel_rfl) (by kernel_rfl) (by kernel_rfl) (by kernel_rfl) (fun _ _ _ h => h) (Or.inl ⟨by rfl, ?t2h0⟩) (by assumption) ?t2r0
          case t2h0 => (intro y hSu; (try dsimp only at hSu); go_simp; first | done | with_reducible rfl)
          (try simp only [Act.put, List.setIfInBounds_toArray, List.set_cons_zero, List.set_cons_succ])
          refine takeL (i := 1) (v := ?t2v1) (some 17) rfl rfl (by kernel_rfl) (by kernel_rfl) (by kernel_rfl) (by kernel_rfl) (by kernel_rfl) (fun _ _ _ h => h) (Or.inl ⟨by rfl, ?t2h1⟩) (by assumption) ?t2r1
          case t2h1 => (intro y hSu; (try dsimp only at hSu); go_simp; first | done | with_reducible rfl)
          (try simp only [Act.put, List.setIfInBounds_toArray, List.set_cons_zero, List.set_cons_succ])
          refine takeL (i := 2) (v := ?t2v2) (some 18) rfl rfl (by kernel_rfl) (by kernel_rfl) (by kernel_rfl) (by kernel_rfl) (by kernel_rfl) (fun _ _ _ h => h) (Or.inl ⟨by rfl, ?t2h2⟩) (by assumption) ?t2r2
          case t2h2 => (intro y hSu; (try dsimp only at hSu); go_simp; first | done | with_reducible rfl)
          (try simp only [Act.put, List.setIfInBounds_toArray, List.set_cons_zero, List.set_cons_succ])
          refine takeL (i := 3) (v := ?t2v3) (some 19) rfl rfl (by kernel_rfl) (by kernel_rfl) (by kernel_rfl) (by kernel_rfl) (by kernel_rfl) (fun _ _ _ h => h) (Or.inl ⟨by rfl, ?t2h3⟩) (by assumption) ?t2r3
          case t2h3 => (intro y hSu; (try dsimp only at hSu); go_simp; first | done | with_reducible rfl)
          (try simp only [Act.put, List.setIfInBounds_toArray, List.set_cons_zero, List.set_cons_succ])
          refine takeL (i := 4) (v := ?t2v4) (some 20) rfl rfl (by kernel_rfl) (by kernel_rfl) (by kernel_rfl) (by kernel_rfl) (by kernel_rfl) (fun _ _ _ h => h) (Or.inl ⟨by rfl, ?t2h4⟩) (by assumption) ?t2r4
          case t2h4 => (intro y hSu; (try dsimp only at hSu); go_simp; first | done | with_reducible rfl)
          (try simp only [Act.put, List.setIfInBounds_toArray, List.set_cons_zero, List.set_cons_succ])
          refine takeL (i := 5) (v := ?t2v5) (some 21) rfl rfl (by kernel_rfl) (by kernel_rfl) (by kernel_rfl) (by kernel_rfl) (by kernel_rfl) (fun _ _ _ h => h) (Or.inl ⟨by rfl, ?t2h5⟩) (by assumption) ?t2r5
          case t2h5 => (intro y hSu; (try dsimp only at hSu); go_simp; first | done | with_reducible rfl)
          (try simp only [Act.put, List.setIfInBounds_toArray, List.set_cons_zero, List.set_cons_succ])
          refine takeL (i := 6) (v := ?t2v6) (some 22) rfl rfl (by kernel_rfl) (by kernel_rfl) (by kernel_rfl) (by kernel_rfl) (by kernel_rfl) (fun _ _ _ h => h) (Or.inl ⟨by rfl, ?t2h6⟩) (by assumption) ?t2r6
          case t2h6 => (intro y hSu; (try dsimp only at hSu); go_simp; first | done | with_reducible rfl)
          (try simp only [Act.put, List.setIfInBounds_toArray, List.set_cons_zero, List.set_cons_succ])
          refine takeL (i := 7) (v := ?t2v7) (some 23) rfl rfl (by kernel_rfl) (by kernel_rfl) (by kernel_rfl) (by kernel_rfl) (by kernel_rfl) (fun _ _ _ h => h) (Or.inl ⟨by rfl, ?t2h7⟩) (by assumption) ?t2r7
          case t2h7 => (intro y hSu; (try dsimp only at hSu); go_simp; first | done | with_reducible rfl)
          (try simp only [Act.put, List.setIfInBounds_toArray, List.set_cons_zero, List.set_cons_succ])
          refine takeL (i := 8) (v := ?t2v8) (some 24) rfl rfl (by kernel_rfl) (by kernel_rfl) (by kernel_rfl) (by kernel_rfl) (by kernel_rfl) (fun _ _ _ h => h) (Or.inl ⟨by rfl, ?t2h8⟩) (by assumption) ?t2r8
          case t2h8 => (intro y hSu; (try dsimp only at hSu); go_simp; first | done | with_reducible rfl)
          (try simp only [Act.put, List.setIfInBounds_toArray, List.set_cons_zero, List.set_cons_succ])
          refine takeL (i := 9) (v := ?t2v9) (some 25) rfl rfl (by kernel_rfl) (by kernel_rfl) (by kernel_rfl) (by kernel_rfl) (by kernel_rfl) (fun _ _ _ h => h) (Or.inl ⟨by rfl, ?t2h9⟩) (by assumption) ?t2r9
          case t2h9 => (intro y hSu; (try dsimp only at hSu); go_simp; first | done | with_reducible rfl)
          (try simp only [Act.put, List.setIfInBounds_toArray, List.set_cons_zero, List.set_cons_succ])
          refine doneL (by kernel_rfl) ?_ _
          refine NoPanic.normal ?_
          clear cx1 cx2 cy1 cy2 hHeld hq zm z3
          go_upto_region 9 with fail
          obtain ⟨m, hm⟩ : ∃ m, m = n - k := ⟨_, rfl⟩
          obtain ⟨cm, hcm⟩ : ∃ cm, cm = c - k := ⟨_, rfl⟩
          have HM : Hid (m = n - k ∧ cm = c - k) := ⟨hm, hcm⟩
          rw [← hm, ← hcm]
          clear hm hcm
          go_loopw [3, 5] (fun s3 s5 W => ∃ kk k2 : Nat, s3 = .int .i64 kk ∧ s5 = .int .i64 k2 ∧ Hid (CptM w g c l k k2 kk W)) (fun _ s5 _ => m - (intOf s5).toNat)
          case atStart => exact ⟨k, 1, rfl, rfl, unhide HM0 1⟩
          case round =>
            obtain ⟨kk, k2, rfl, rfl, HC⟩ := hrel
            clear HM0
            obtain ⟨b1, b2, b3, b4, rest2, b5⟩ := unhide HC
            obtain ⟨n1, n2, n3, n4, n5⟩ := unhide HN
            obtain ⟨m1, m2⟩ := unhide HM
            obtain ⟨kn1, kn2⟩ := unhide HKK
            have hlen : (ded (l.take (k + k2)) ++ l.drop kk).length = l.length := by rw [List.length_append, ← b4, List.length_drop]; omega
            by_cases hlt2 : k2 < m
            · obtain ⟨x2, hx2⟩ : ∃ x, l[k + k2]? = some x := ⟨_, List.getElem?_eq_getElem (by omega)⟩
              obtain ⟨y2, hy2⟩ : ∃ x, l[k + k2 - 1]? = some x := ⟨_, List.getElem?_eq_getElem (by omega)⟩
              obtain ⟨ex1, ex2⟩ := b5.at_ (i := k + k2) (a := x2) (by rw [cmid_at b4 (by omega)]; exact hx2)
              obtain ⟨ey1, ey2⟩ := b5.at_ (i := k + k2 - 1) (a := y2) (by rw [cmid_at b4 (by omega)]; exact hy2)
              obtain ⟨kj, hkj⟩ : ∃ kj, kj = k2 - 1 := ⟨_, rfl⟩
              rw [show (k + k2) * 2 = k * 2 + k2 * 2 by omega] at ex1 ex2
              rw [show (k + k2 - 1) * 2 = k * 2 + kj * 2 by omega] at ey1 ey2
              have y1 : (k2 : Int) < (m : Int) := by omega
              have y2' : (kj : Int) < (m : Int) := by omega
              obtain ⟨k3, hk3⟩ : ∃ k3, k3 = k2 + 1 := ⟨_, rfl⟩
              have HK3 : Hid (m - k3 < m - k2) := by show m - k3 < m - k2; omega
              have zw3 : Hid (wrap64 ((k2 : Int) + 1) = (k3 : Int)) := by show wrap64 ((k2 : Int) + 1) = (k3 : Int); unfold wrap64; omega
              by_cases hxy2 : x2 = y2
              · have HNX : Hid (∀ q, CptM w g c l k k3 kk (wr.drewN q)) := fun q => by
                  have := (unhide HC).same (x := x2) (by rw [hxy2]; exact hy2) hx2
                  rw [← hk3] at this
                  obtain ⟨a1, a2, a3, a4, r, a5⟩ := this
                  exact ⟨a1, a2, a3, a4, r, a5.drewN q⟩
                have hq : ∀ W : World, (Op.equalIn 10000 54 (.agg #[.int .i64 x2.1, .int .i64 x2.2]) (.agg #[.int .i64 y2.1, .int .i64 y2.2])).run Tryz.prog W = .ok true W := fun W => by rw [eqA x2 y2 W, decide_eq_true hxy2]
                have zm2 : IntKind.i64.wrap ((k2 : Int) - 1) = (kj : Int) := by rw [IntKind.wrap_i64]; omega
                clear b1 b2 b3 b4 b5 n1 n2 n3 n4 n5 m1 m2 kn1 kn2 hlen hlt2 hx2 hy2 hkj hk3 hxy2 HC
                go_upto_region 11 with fail
                refine wp_region_noPanic ?_
                refine regionL [] (fun y => y.cell? ⟨g, k * 2 + k2 * 2, none⟩ = some (.int .i64 x2.1) ∧ y.cell? ⟨g, k * 2 + k2 * 2 + 1, none⟩ = some (.int .i64 x2.2) ∧ y.cell? ⟨g, k * 2 + kj * 2, none⟩ = some (.int .i64 y2.1) ∧ y.cell? ⟨g, k * 2 + kj * 2 + 1, none⟩ = some (.int .i64 y2.2)) (by kernel_rfl) ⟨ex1, ex2, ey1, ey2⟩ (fun hHeld => ?_)
                refine takeL (i := 0) (v := ?t5v0) (some 35) rfl rfl (by kernel_rfl) (by kernel_rfl) (by kernel_rfl) (by kernel_rfl) (by kernel_rfl) (fun _ _ _ h => h) (Or.inl ⟨by rfl, ?t5h0⟩) (by assumption) ?t5r0
                case t5h0 => (intro y hSu; (try dsimp only at hSu); go_simp; first | done | with_reducible rfl)
                (try simp only [Act.put, List.setIfInBounds_toArray, List.set_cons_zero, List.set_cons_succ])
                refine takeL (i := 1) (v := ?t5v1) (some 36) rfl rfl (by kernel_rfl) (by kernel_rfl) (by kernel_rfl) (by kernel_rfl) (by kernel_rfl) (fun _ _ _ h => h) (Or.inl ⟨by rfl, ?t5h1⟩) (by assumption) ?t5r1
                case t5h1 => (intro y hSu; (try dsimp only at hSu); go_simp; first | done | with_reducible rfl)
                (try simp only [Act.put, List.setIfInBounds_toArray, List.set_cons_zero, List.set_cons_succ])
                refine takeL (i := 2) (v := ?t5v2) (some 37) rfl rfl (by kernel_rfl) (by kernel_rfl) (by kernel_rfl) (by kernel_rfl) (by kernel_rfl) (fun _ _ _ h => h) (Or.inl ⟨by rfl, ?t5h2⟩) (by assumption) ?t5r2
                case t5h2 => (intro y hSu; (try dsimp only at hSu); go_simp; first | done | with_reducible rfl)
                (try simp only [Act.put, List.setIfInBounds_toArray, List.set_cons_zero, List.set_cons_succ])
                refine takeL (i := 3) (v := ?t5v3) (some 38) rfl rfl (by kernel_rfl) (by kernel_rfl) (by kernel_rfl) (by kernel_rfl) (by kernel_rfl) (fun _ _ _ h => h) (Or.inl ⟨by rfl, ?t5h3⟩) (by assumption) ?t5r3
                case t5h3 => (intro y hSu; (try dsimp only at hSu); go_simp; first | done | with_reducible rfl)
                (try simp only [Act.put, List.setIfInBounds_toArray, List.set_cons_zero, List.set_cons_succ])
                refine takeL (i := 4) (v := ?t5v4) (some 39) rfl rfl (by kernel_rfl) (by kernel_rfl) (by kernel_rfl) (by kernel_rfl) (by kernel_rfl) (fun _ _ _ h => h) (Or.inl ⟨by rfl, ?t5h4⟩) (by assumption) ?t5r4
                case t5h4 => (intro y hSu; (try dsimp only at hSu); go_simp; first | done | with_reducible rfl)
                (try simp only [Act.put, List.setIfInBounds_toArray, List.set_cons_zero, List.set_cons_succ])
                refine takeL (i := 5) (v := ?t5v5) (some 40) rfl rfl (by kernel_rfl) (by kernel_rfl) (by kernel_rfl) (by kernel_rfl) (by kernel_rfl) (fun _ _ _ h => h) (Or.inl ⟨by rfl, ?t5h5⟩) (by assumption) ?t5r5
                case t5h5 => (intro y hSu; (try dsimp only at hSu); go_simp; first | done | with_reducible rfl)
                (try simp only [Act.put, List.setIfInBounds_toArray, List.set_cons_zero, List.set_cons_succ])
                refine takeL (i := 6) (v := ?t5v6) (some 41) rfl rfl (by kernel_rfl) (by kernel_rfl) (by kernel_rfl) (by kernel_rfl) (by kernel_rfl) (fun _ _ _ h => h) (Or.inl ⟨by rfl, ?t5h6⟩) (by assumption) ?t5r6
                case t5h6 => (intro y hSu; (try dsimp only at hSu); go_simp; first | done | with_reducible rfl)
                (try simp only [Act.put, List.setIfInBounds_toArray, List.set_cons_zero, List.set_cons_succ])
                refine takeL (i := 7) (v := ?t5v7) (some 42) rfl rfl (by kernel_rfl) (by kernel_rfl) (by kernel_rfl) (by kernel_rfl) (by kernel_rfl) (fun _ _ _ h => h) (Or.inl ⟨by rfl, ?t5h7⟩) (by assumption) ?t5r7
                case t5h7 => (intro y hSu; (try dsimp only at hSu); go_simp; first | done | with_reducible rfl)
                (try simp only [Act.put, List.setIfInBounds_toArray, List.set_cons_zero, List.set_cons_succ])
                refine takeL (i := 8) (v := ?t5v8) (some 43) rfl rfl (by kernel_rfl) (by kernel_rfl) (by kernel_rfl) (by kernel_rfl) (by kernel_rfl) (fun _ _ _ h => h) (Or.inl ⟨by rfl, ?t5h8⟩) (by assumption) ?t5r8
                case t5h8 => (intro y hSu; (try dsimp only at hSu); go_simp; first | done | with_reducible rfl)
                (try simp only [Act.put, List.setIfInBounds_toArray, List.set_cons_zero, List.set_cons_succ])
                refine takeL (i := 9) (v := ?t5v9) (some 44) rfl rfl (by kernel_rfl) (by kernel_rfl) (by kernel_rfl) (by kernel_rfl) (by kernel_rfl) (fun _ _ _ h => h) (Or.inl ⟨by rfl, ?t5h9⟩) (by assumption) ?t5r9
                case t5h9 => (intro y hSu; (try dsimp only at hSu); go_simp; first | done | with_reducible rfl)
                (try simp only [Act.put, List.setIfInBounds_toArray, List.set_cons_zero, List.set_cons_succ])
                refine doneL (by kernel_rfl) ?_ _
                refine NoPanic.normal ?_
                clear ex1 ex2 ey1 ey2 hHeld hq zm2
                go_wp2_with fail
                (try rw [unhide zw3])
                exact ⟨⟨kk, k3, rfl, rfl, unhide HNX 1⟩, by have := unhide HK3; simp [intOf]; omega⟩
              · obtain ⟨kk1, hkk1⟩ : ∃ kk1, kk1 = kk + 1 := ⟨_, rfl⟩
                have HNX : Hid (CptM w g c l k k3 kk1 (((wr.drewN 1).setCell ⟨g, kk * 2, none⟩ (.int .i64 x2.1)).setCell ⟨g, kk * 2 + 1, none⟩ (.int .i64 x2.2))) := by
                  have h0 : CptM w g c l k k2 kk (wr.drewN 1) := ⟨b1, b2, b3, b4, rest2, b5.drewN 1⟩
                  have := h0.put hy2 hx2 (fun e => hxy2 e.symm)
                  rw [← hk3, ← hkk1] at this
                  exact this
                have hq : ∀ W : World, (Op.equalIn 10000 54 (.agg #[.int .i64 x2.1, .int .i64 x2.2]) (.agg #[.int .i64 y2.1, .int .i64 y2.2])).run Tryz.prog W = .ok false W := fun W => by rw [eqA x2 y2 W, decide_eq_false hxy2]
                obtain ⟨kx1, kx2⟩ := b5.at_ (i := kk) (a := (ded (l.take (k + k2)) ++ l.drop kk)[kk]'(by omega)) (List.getElem?_eq_getElem (by omega))
                have kf := b5.frozen
                have y3 : (kk : Int) < (n : Int) := by omega
                have zwk : Hid (wrap64 ((kk : Int) + 1) = (kk1 : Int)) := by show wrap64 ((kk : Int) + 1) = (kk1 : Int); unfold wrap64; omega
                have zm2 : IntKind.i64.wrap ((k2 : Int) - 1) = (kj : Int) := by rw [IntKind.wrap_i64]; omega
                generalize (ded (l.take (k + k2)) ++ l.drop kk)[kk]'(by omega) = old at kx1 kx2
                have HEX : Hid ((wr.drewN 1).cell? ⟨g, k * 2 + k2 * 2, none⟩ = some (.int .i64 x2.1) ∧ (wr.drewN 1).cell? ⟨g, k * 2 + k2 * 2 + 1, none⟩ = some (.int .i64 x2.2) ∧ (wr.drewN 1).cell? ⟨g, kk * 2, none⟩ = some (.int .i64 old.1) ∧ (wr.drewN 1).cell? ⟨g, kk * 2 + 1, none⟩ = some (.int .i64 old.2) ∧ ∀ o, (wr.drewN 1).frozen? ⟨g, o, none⟩ = false) := ⟨ex1, ex2, kx1, kx2, kf⟩
                clear b1 b2 b3 b4 b5 n1 n2 n3 n4 n5 m1 m2 kn1 kn2 hlen hlt2 hx2 hy2 hkj hk3 hkk1 hxy2 HC kx1 kx2 kf
                go_upto_region 11 with fail
                refine wp_region_noPanic ?_
                refine regionL [] (fun y => y.cell? ⟨g, k * 2 + k2 * 2, none⟩ = some (.int .i64 x2.1) ∧ y.cell? ⟨g, k * 2 + k2 * 2 + 1, none⟩ = some (.int .i64 x2.2) ∧ y.cell? ⟨g, k * 2 + kj * 2, none⟩ = some (.int .i64 y2.1) ∧ y.cell? ⟨g, k * 2 + kj * 2 + 1, none⟩ = some (.int .i64 y2.2)) (by kernel_rfl) ⟨ex1, ex2, ey1, ey2⟩ (fun hHeld => ?_)
                refine takeL (i := 0) (v := ?t8v0) (some 35) rfl rfl (by kernel_rfl) (by kernel_rfl) (by kernel_rfl) (by kernel_rfl) (by kernel_rfl) (fun _ _ _ h => h) (Or.inl ⟨by rfl, ?t8h0⟩) (by assumption) ?t8r0
                case t8h0 => (intro y hSu; (try dsimp only at hSu); go_simp; first | done | with_reducible rfl)
                (try simp only [Act.put, List.setIfInBounds_toArray, List.set_cons_zero, List.set_cons_succ])
                refine takeL (i := 1) (v := ?t8v1) (some 36) rfl rfl (by kernel_rfl) (by kernel_rfl) (by kernel_rfl) (by kernel_rfl) (by kernel_rfl) (fun _ _ _ h => h) (Or.inl ⟨by rfl, ?t8h1⟩) (by assumption) ?t8r1
                case t8h1 => (intro y hSu; (try dsimp only at hSu); go_simp; first | done | with_reducible rfl)
                (try simp only [Act.put, List.setIfInBounds_toArray, List.set_cons_zero, List.set_cons_succ])
                refine takeL (i := 2) (v := ?t8v2) (some 37) rfl rfl (by kernel_rfl) (by kernel_rfl) (by kernel_rfl) (by kernel_rfl) (by kernel_rfl) (fun _ _ _ h => h) (Or.inl ⟨by rfl, ?t8h2⟩) (by assumption) ?t8r2
                case t8h2 => (intro y hSu; (try dsimp only at hSu); go_simp; first | done | with_reducible rfl)
                (try simp only [Act.put, List.setIfInBounds_toArray, List.set_cons_zero, List.set_cons_succ])
                refine takeL (i := 3) (v := ?t8v3) (some 38) rfl rfl (by kernel_rfl) (by kernel_rfl) (by kernel_rfl) (by kernel_rfl) (by kernel_rfl) (fun _ _ _ h => h) (Or.inl ⟨by rfl, ?t8h3⟩) (by assumption) ?t8r3
                case t8h3 => (intro y hSu; (try dsimp only at hSu); go_simp; first | done | with_reducible rfl)
                (try simp only [Act.put, List.setIfInBounds_toArray, List.set_cons_zero, List.set_cons_succ])
                refine takeL (i := 4) (v := ?t8v4) (some 39) rfl rfl (by kernel_rfl) (by kernel_rfl) (by kernel_rfl) (by kernel_rfl) (by kernel_rfl) (fun _ _ _ h => h) (Or.inl ⟨by rfl, ?t8h4⟩) (by assumption) ?t8r4
                case t8h4 => (intro y hSu; (try dsimp only at hSu); go_simp; first | done | with_reducible rfl)
                (try simp only [Act.put, List.setIfInBounds_toArray, List.set_cons_zero, List.set_cons_succ])
                refine takeL (i := 5) (v := ?t8v5) (some 40) rfl rfl (by kernel_rfl) (by kernel_rfl) (by kernel_rfl) (by kernel_rfl) (by kernel_rfl) (fun _ _ _ h => h) (Or.inl ⟨by rfl, ?t8h5⟩) (by assumption) ?t8r5
                case t8h5 => (intro y hSu; (try dsimp only at hSu); go_simp; first | done | with_reducible rfl)
                (try simp only [Act.put, List.setIfInBounds_toArray, List.set_cons_zero, List.set_cons_succ])
                refine takeL (i := 6) (v := ?t8v6) (some 41) rfl rfl (by kernel_rfl) (by kernel_rfl) (by kernel_rfl) (by kernel_rfl) (by kernel_rfl) (fun _ _ _ h => h) (Or.inl ⟨by rfl, ?t8h6⟩) (by assumption) ?t8r6
                case t8h6 => (intro y hSu; (try dsimp only at hSu); go_simp; first | done | with_reducible rfl)
                (try simp only [Act.put, List.setIfInBounds_toArray, List.set_cons_zero, List.set_cons_succ])
                refine takeL (i := 7) (v := ?t8v7) (some 42) rfl rfl (by kernel_rfl) (by kernel_rfl) (by kernel_rfl) (by kernel_rfl) (by kernel_rfl) (fun _ _ _ h => h) (Or.inl ⟨by rfl, ?t8h7⟩) (by assumption) ?t8r7
                case t8h7 => (intro y hSu; (try dsimp only at hSu); go_simp; first | done | with_reducible rfl)
                (try simp only [Act.put, List.setIfInBounds_toArray, List.set_cons_zero, List.set_cons_succ])
                refine takeL (i := 8) (v := ?t8v8) (some 43) rfl rfl (by kernel_rfl) (by kernel_rfl) (by kernel_rfl) (by kernel_rfl) (by kernel_rfl) (fun _ _ _ h => h) (Or.inl ⟨by rfl, ?t8h8⟩) (by assumption) ?t8r8
                case t8h8 => (intro y hSu; (try dsimp only at hSu); go_simp; first | done | with_reducible rfl)
                (try simp only [Act.put, List.setIfInBounds_toArray, List.set_cons_zero, List.set_cons_succ])
                refine takeL (i := 9) (v := ?t8v9) (some 44) rfl rfl (by kernel_rfl) (by kernel_rfl) (by kernel_rfl) (by kernel_rfl) (by kernel_rfl) (fun _ _ _ h => h) (Or.inl ⟨by rfl, ?t8h9⟩) (by assumption) ?t8r9
                case t8h9 => (intro y hSu; (try dsimp only at hSu); go_simp; first | done | with_reducible rfl)
                (try simp only [Act.put, List.setIfInBounds_toArray, List.set_cons_zero, List.set_cons_succ])
                refine doneL (by kernel_rfl) ?_ _
                refine NoPanic.normal ?_
                clear ex1 ex2 ey1 ey2 hHeld hq zm2
                go_upto_region 12 with fail
                change Code.wp _ _ _ _ (wr.drewN 1)
                obtain ⟨ex1, ex2, kx1, kx2, kf⟩ := unhide HEX
                clear HEX
                generalize wr.drewN 1 = wd at *
                go_wp2_with fail
                (try rw [unhide zw3])
                (try rw [unhide zwk])
                exact ⟨⟨kk1, k3, rfl, rfl, unhide HNX⟩, by have := unhide HK3; simp [intOf]; omega⟩
            · have e2 : k + k2 = l.length := by omega
              have y1 : ¬ (k2 : Int) < (m : Int) := by omega
              rw [e2, List.take_length] at b4 b5
              have e3 : l.length - kk = (ded l ++ l.drop kk).length - kk := by rw [List.length_append, ← b4, List.length_drop]; omega
              obtain ⟨W', rc, rest3, b6⟩ := b5.clear (k := kk) (by rw [List.length_append]; omega) (some ⟨g, kk * 2, none⟩) (c - kk) (fun _ => rfl)
              rw [← e3, ← n1] at rc
              have e4 : (ded l ++ l.drop kk).take kk = ded l := by rw [b4]; exact List.take_left' rfl
              rw [e4] at b6
              have HE : Hid (ABRow B W' (.slice (some ⟨g, 0, none⟩) kk c) (ded l) ∧ Turned (fun b => b = g) w W') := by
                have := b6.owns B n4 (k := kk) (by omega) n3
                rw [show (ded l).take kk = ded l by rw [b4]; exact List.take_length] at this
                exact ⟨this, b6.tur⟩
              have y3 : ¬ c = kk := by omega
              have y4 : (kk : Int) ≤ (n : Int) := by omega
              have y5 : (kk : Int) ≤ (c : Int) := by omega
              have R0 := rc 0
              clear b1 b2 b3 b4 b5 b6 n1 n2 n3 n4 n5 m1 m2 kn1 kn2 hlen hlt2 HC e2 e3 e4 rc
              go_wp2_with fail
              go_ret
              exact ⟨kk, rfl, unhide HE⟩
        · have hq : ∀ W : World, (Op.equalIn 10000 54 (.agg #[.int .i64 x.1, .int .i64 x.2]) (.agg #[.int .i64 yy.1, .int .i64 yy.2])).run Tryz.prog W = .ok false W := fun W => by rw [eqA x yy W, decide_eq_false hxy]
          obtain ⟨kn, hkn2⟩ : ∃ kn, kn = k + 1 := ⟨_, rfl⟩
          have HNX : Hid (kn = k + 1 ∧ kn ≤ n ∧ ded (l.take kn) = l.take kn) := ⟨hkn2, by omega, by
            have e := ded_take (k := k1) hy (by rw [← hk]; exact hx)
            rw [if_neg (fun z => hxy z.symm), ← hk, show k1 + 2 = kn by omega, hdd] at e
            rw [e, hkn2, List.take_add_one, hx]; rfl⟩
          have HMS : Hid (n - kn < n - k) := by show n - kn < n - k; omega
          have zw : Hid (wrap64 ((k : Int) + 1) = (kn : Int)) := by show wrap64 ((k : Int) + 1) = (kn : Int); unfold wrap64; omega
          clear hx hy R hk hkn hdd n1 n2 n3 n4 n5 hlt HK hxy HSAME HD1 hkn2 hwr
          go_upto_region 6 with fail
          refine wp_region_noPanic ?_
          refine regionL [] (fun y => y.cell? ⟨g, k * 2, none⟩ = some (.int .i64 x.1) ∧ y.cell? ⟨g, k * 2 + 1, none⟩ = some (.int .i64 x.2) ∧ y.cell? ⟨g, k1 * 2, none⟩ = some (.int .i64 yy.1) ∧ y.cell? ⟨g, k1 * 2 + 1, none⟩ = some (.int .i64 yy.2)) (by kernel_rfl) ⟨cx1, cx2, cy1, cy2⟩ (fun hHeld => ?_)
          refine takeL (i := 0) (v := ?t11v0) (some 16) rfl rfl (by kernel_rfl) (by kernel_rfl) (by kernel_rfl) (by kernel_rfl) (by kernel_rfl) (fun _ _ _ h => h) (Or.inl ⟨by rfl, ?t11h0⟩) (by assumption) ?t11r0
          case t11h0 => (intro y hSu; (try dsimp only at hSu); go_simp; first | done | with_reducible rfl)
          (try simp only [Act.put, List.setIfInBounds_toArray, List.set_cons_zero, List.set_cons_succ])
          refine takeL (i := 1) (v := ?t11v1) (some 17) rfl rfl (by kernel_rfl) (by kernel_rfl) (by kernel_rfl) (by kernel_rfl) (by kernel_rfl) (fun _ _ _ h => h) (Or.inl ⟨by rfl, ?t11h1⟩) (by assumption) ?t11r1
          case t11h1 => (intro y hSu; (try dsimp only at hSu); go_simp; first | done | with_reducible rfl)
          (try simp only [Act.put, List.setIfInBounds_toArray, List.set_cons_zero, List.set_cons_succ])
          refine takeL (i := 2) (v := ?t11v2) (some 18) rfl rfl (by kernel_rfl) (by kernel_rfl) (by kernel_rfl) (by kernel_rfl) (by kernel_rfl) (fun _ _ _ h => h) (Or.inl ⟨by rfl, ?t11h2⟩) (by assumption) ?t11r2
          case t11h2 => (intro y hSu; (try dsimp only at hSu); go_simp; first | done | with_reducible rfl)
          (try simp only [Act.put, List.setIfInBounds_toArray, List.set_cons_zero, List.set_cons_succ])
          refine takeL (i := 3) (v := ?t11v3) (some 19) rfl rfl (by kernel_rfl) (by kernel_rfl) (by kernel_rfl) (by kernel_rfl) (by kernel_rfl) (fun _ _ _ h => h) (Or.inl ⟨by rfl, ?t11h3⟩) (by assumption) ?t11r3
          case t11h3 => (intro y hSu; (try dsimp only at hSu); go_simp; first | done | with_reducible rfl)
          (try simp only [Act.put, List.setIfInBounds_toArray, List.set_cons_zero, List.set_cons_succ])
          refine takeL (i := 4) (v := ?t11v4) (some 20) rfl rfl (by kernel_rfl) (by kernel_rfl) (by kernel_rfl) (by kernel_rfl) (by kernel_rfl) (fun _ _ _ h => h) (Or.inl ⟨by rfl, ?t11h4⟩) (by assumption) ?t11r4
          case t11h4 => (intro y hSu; (try dsimp only at hSu); go_simp; first | done | with_reducible rfl)
          (try simp only [Act.put, List.setIfInBounds_toArray, List.set_cons_zero, List.set_cons_succ])
          refine takeL (i := 5) (v := ?t11v5) (some 21) rfl rfl (by kernel_rfl) (by kernel_rfl) (by kernel_rfl) (by kernel_rfl) (by kernel_rfl) (fun _ _ _ h => h) (Or.inl ⟨by rfl, ?t11h5⟩) (by assumption) ?t11r5
          case t11h5 => (intro y hSu; (try dsimp only at hSu); go_simp; first | done | with_reducible rfl)
          (try simp only [Act.put, List.setIfInBounds_toArray, List.set_cons_zero, List.set_cons_succ])
          refine takeL (i := 6) (v := ?t11v6) (some 22) rfl rfl (by kernel_rfl) (by kernel_rfl) (by kernel_rfl) (by kernel_rfl) (by kernel_rfl) (fun _ _ _ h => h) (Or.inl ⟨by rfl, ?t11h6⟩) (by assumption) ?t11r6
          case t11h6 => (intro y hSu; (try dsimp only at hSu); go_simp; first | done | with_reducible rfl)
          (try simp only [Act.put, List.setIfInBounds_toArray, List.set_cons_zero, List.set_cons_succ])
          refine takeL (i := 7) (v := ?t11v7) (some 23) rfl rfl (by kernel_rfl) (by kernel_rfl) (by kernel_rfl) (by kernel_rfl) (by kernel_rfl) (fun _ _ _ h => h) (Or.inl ⟨by rfl, ?t11h7⟩) (by assumption) ?t11r7
          case t11h7 => (intro y hSu; (try dsimp only at hSu); go_simp; first | done | with_reducible rfl)
          (try simp only [Act.put, List.setIfInBounds_toArray, List.set_cons_zero, List.set_cons_succ])
          refine takeL (i := 8) (v := ?t11v8) (some 24) rfl rfl (by kernel_rfl) (by kernel_rfl) (by kernel_rfl) (by kernel_rfl) (by kernel_rfl) (fun _ _ _ h => h) (Or.inl ⟨by rfl, ?t11h8⟩) (by assumption) ?t11r8
          case t11h8 => (intro y hSu; (try dsimp only at hSu); go_simp; first | done | with_reducible rfl)
          (try simp only [Act.put, List.setIfInBounds_toArray, List.set_cons_zero, List.set_cons_succ])
          refine takeL (i := 9) (v := ?t11v9) (some 25) rfl rfl (by kernel_rfl) (by kernel_rfl) (by kernel_rfl) (by kernel_rfl) (by kernel_rfl) (fun _ _ _ h => h) (Or.inl ⟨by rfl, ?t11h9⟩) (by assumption) ?t11r9
          case t11h9 => (intro y hSu; (try dsimp only at hSu); go_simp; first | done | with_reducible rfl)
          (try simp only [Act.put, List.setIfInBounds_toArray, List.set_cons_zero, List.set_cons_succ])
          refine doneL (by kernel_rfl) ?_ _
          refine NoPanic.normal ?_
          clear cx1 cx2 cy1 cy2 hHeld hq zm z3
          have HW2 : Hid (wr.drew = w.drewN (q + 1)) := by rw [unhide HWR]; exact World.drewN_drewN _ _ _
          go_wp2_with fail
          (try rw [unhide zw])
          exact ⟨⟨k, kn, q + 1, rfl, unhide HW2, unhide HNX⟩, by have := unhide HMS; simp [intOf]; omega⟩
      · have z2 : ¬ (k : Int) < (n : Int) := by omega
        have HE := hide (unhide HSAME q (unhide HD1 k hdd (by omega)))
        clear HK hk hkn hdd n1 n2 n3 n4 n5 hlt HSAME HD1
        subst hwr
        go_wp2_with fail
        go_ret
        exact ⟨n, rfl, unhide HE⟩
theorem compactNil (w : World) : Calls Tryz.prog 44 #[.slice none 0 0] w fun e w' => e = .returned (.slice none 0 0) ∧ w' = w := by
  go_enter Tryz.func44, Tryz.ntmps44
  go_wp2_with fail
  go_ret
  exact ⟨rfl, rfl⟩
end

end Go.Proofs.YtkmhcgmmbkchaaaGreat
