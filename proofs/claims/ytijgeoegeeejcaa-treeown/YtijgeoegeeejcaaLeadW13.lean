/- lead, walked. -/
import Derived.Test.YtijgeoegeeejcaaGrow13
namespace Go.Proofs.Ytijgeoegeeejcaa
open Go.RowKit Go.Maps
attribute [local go_sem] run_storeF
def oWy (e : Int) (t c : Nat) : Obj := .cells #[.int .i64 e, .int .i64 (t : Nat), .float .f32 c] 97
theorem cellsWy {w : World} {b : Nat} {e : Int} {t c : Nat} (h : w.heap[b]? = some (oWy e t c)) : w.cell? ⟨b, 0, none⟩ = some (.int .i64 e) ∧ w.cell? ⟨b, 1, none⟩ = some (.int .i64 (t : Nat)) ∧ w.cell? ⟨b, 2, none⟩ = some (.float .f32 c) :=
  ⟨(cell_of_row _ _ 0 _ _ (0, 0) h).trans rfl, (cell_of_row _ _ 1 _ _ (0, 0) h).trans rfl, (cell_of_row _ _ 2 _ _ (0, 0) h).trans rfl⟩
theorem cell_set13 {W : World} {x : Addr} {u v : Value} {b o : Nat} (hb : ¬ b = x.block) (h : W.cell? ⟨b, o, none⟩ = some v) : (W.setCell x u).cell? ⟨b, o, none⟩ = some v := by
  have := heap_setCell_other W x b u hb
  unfold World.cell? at h ⊢
  rw [this]; exact h
set_option maxHeartbeats 2000000 in
set_option maxRecDepth 100000 in
theorem leadS [Inhabited EntF] {w W : World} {p : Nat} {s : Int} {ph g m c q gf_ mf cf_ wt : Nat} {ds : List DiV} {fs : List Int} {ms : List EntF} {nn : Nat} {v e0 e at_ : Int} {fa : Bool} {b0 cst : Nat} (h : GM w p s (.slice (some ⟨g, 0, none⟩) m c) (.slice (some ⟨gf_, 0, none⟩) mf cf_) ph ds fs ms nn W) (hq : ds[q]? = some (v, fa, b0, e0)) (hqf : q < fs.length) (hc : cst ≤ 2139095040) :
    Calls Try.prog 57 #[.pointer (some ⟨p, 0, none⟩), .int .i64 at_, .agg #[.int .i64 e, .int .i64 (q : Nat), .float .f32 wt], .float .f32 cst] W fun r w' => r = .returned (.tuple #[]) ∧ Hid (GM w p s (.slice (some ⟨g, 0, none⟩) m c) (.slice (some ⟨gf_, 0, none⟩) mf cf_) ph (ds.set q (v, false, cst, e)) (fs.set q at_) ms nn w') := by
  have hb := below_new W (oWy e q wt)
  obtain ⟨o0, o1, -⟩ := cellsWy (heap_alloc_new W (oWy e q wt))
  have h1 := h.below hb
  obtain ⟨W1, hW1⟩ : ∃ W1, W1 = W.alloc (oWy e q wt) := ⟨_, rfl⟩
  rw [← hW1] at o0 o1 h1
  obtain ⟨wb, hwb⟩ : ∃ wb, wb = W.heap.size := ⟨_, rfl⟩
  rw [← hwb] at o0 o1
  have HD : Hid (∀ n, GM w p s (.slice (some ⟨g, 0, none⟩) m c) (.slice (some ⟨gf_, 0, none⟩) mf cf_) ph (ds.set q (v, false, cst, e)) fs ms nn ((((W1.drewN n).setCell ⟨g, q * 4 + 1, none⟩ (.bool false)).setCell ⟨g, q * 4 + 2, none⟩ (.int .u32 (cst : Nat))).setCell ⟨g, q * 4 + 3, none⟩ (.int .i64 e))) := fun n => lead_ds (h1.below (below_drewN (Below.refl _ _) n)) hq
  have HQF := hide hqf
  obtain ⟨t0, t1, t2, tf⟩ := cellsT h1.tr.box
  obtain ⟨k0, k1, k2, k3⟩ := drow_at h1.tr.ds_ hq
  have kf := rrow_frozen h1.tr.ds_ (by have := (List.getElem?_eq_some_iff.1 hq).1; omega)
  have z1 : (q : Int) < (m : Int) := by have := rrow_len h.tr.ds_; have := (List.getElem?_eq_some_iff.1 hq).1; omega
  have z2 : (q : Int) < (mf : Int) := by
    obtain ⟨a', c', e, -⟩ := brow_shape h1.tr.fs_
    injection e with e1 e2; omega
  have n1 : ¬ g = gf_ := fun z => h.tr.ne3 g rfl (by rw [z]; rfl)
  have n1' : ¬ gf_ = g := fun z => n1 z.symm
  have n2 : ¬ g = p := fun z => h.tr.ne1 (by rw [← z]; rfl)
  have n2' : ¬ p = g := fun z => n2 z.symm
  have n3 : ¬ g = wb := fun z => by have := (h.tr.lt (.inr (.inl (show (Value.slice (some ⟨g, 0, none⟩) m c).ownBlock = some g from rfl)))).2; omega
  have n3' : ¬ wb = g := fun z => n3 z.symm
  have CB : Hid (∀ W, Calls Try.prog 36 #[.float .f32 cst] W fun e w' => e = .returned (.int .u32 (cst : Int)) ∧ w' = W) := fun W => bits_nat hc W
  have HW1 := hide hW1
  have HWB := hide hwb
  clear h hb h1 hW1 hwb hq hqf hc
  go_enter Try.func57, Try.ntmps57
  go_upto_region 1 with fail
  rw [show W.alloc (.cells #[.int .i64 e, .int .i64 (q : Nat), .float .f32 wt] 97) = W1 from (unhide HW1).symm, ← unhide HWB]
  clear HW1 HWB
  go_quiet (fail)
  go_upto_region 2 with fail
  refine wp_region_noPanic ?_
  refine regionL [] (fun y => y.cell? ⟨wb, 0, none⟩ = some (.int .i64 e)) (by kernel_rfl) o0 (fun hHeld => ?_)
  refine takeL (i := 0) (v := ?t2v0) (some 16) rfl rfl (by kernel_rfl) (by kernel_rfl) (by kernel_rfl) (by kernel_rfl) (by kernel_rfl) (fun _ _ _ h => h) (Or.inl ⟨by rfl, ?t2h0⟩) (by assumption) ?t2r0
  case t2h0 => (intro y hSu; (try dsimp only at hSu); go_simp; first | done | with_reducible rfl)
  (try simp only [Act.put, List.setIfInBounds_toArray, List.set_cons_zero, List.set_cons_succ])
  refine takeL (i := 1) (v := ?t2v1) (some 17) rfl rfl (by kernel_rfl) (by kernel_rfl) (by kernel_rfl) (by kernel_rfl) (by kernel_rfl) (fun _ _ _ h => h) (Or.inl ⟨by rfl, ?t2h1⟩) (by assumption) ?t2r1
  case t2h1 => (intro y hSu; (try dsimp only at hSu); go_simp; first | done | with_reducible rfl)
  (try simp only [Act.put, List.setIfInBounds_toArray, List.set_cons_zero, List.set_cons_succ])
  refine takeL (i := 2) (v := ?t2v2) (some 18) rfl rfl (by kernel_rfl) (by kernel_rfl) (by kernel_rfl) (by kernel_rfl) (by kernel_rfl) (fun _ _ _ h => h) (Or.inl ⟨by rfl, ?t2h2⟩) (by assumption) ?t2r2
  case t2h2 => (intro y hSu; (try dsimp only at hSu); go_simp; first | done | with_reducible rfl)
  (try simp only [Act.put, List.setIfInBounds_toArray, List.set_cons_zero, List.set_cons_succ])
  refine takeL (i := 3) (v := ?t2v3) (some 19) rfl rfl (by kernel_rfl) (by kernel_rfl) (by kernel_rfl) (by kernel_rfl) (by kernel_rfl) (fun _ _ _ h => h) (Or.inl ⟨by rfl, ?t2h3⟩) (by assumption) ?t2r3
  case t2h3 => (intro y hSu; (try dsimp only at hSu); go_simp; first | done | with_reducible rfl)
  (try simp only [Act.put, List.setIfInBounds_toArray, List.set_cons_zero, List.set_cons_succ])
  refine takeL (i := 5) (v := ?t2v5) (some 21) rfl rfl (by kernel_rfl) (by kernel_rfl) (by kernel_rfl) (by kernel_rfl) (by kernel_rfl) (fun _ _ _ h => h) (Or.inl ⟨by rfl, ?t2h5⟩) (by assumption) ?t2r5
  case t2h5 => (intro y hSu; (try dsimp only at hSu); go_simp; first | done | with_reducible rfl)
  (try simp only [Act.put, List.setIfInBounds_toArray, List.set_cons_zero, List.set_cons_succ])
  refine takeL (i := 6) (v := ?t2v6) (some 22) rfl rfl (by kernel_rfl) (by kernel_rfl) (by kernel_rfl) (by kernel_rfl) (by kernel_rfl) (fun _ _ _ h => h) (Or.inl ⟨by rfl, ?t2h6⟩) (by assumption) ?t2r6
  case t2h6 => (intro y hSu; (try dsimp only at hSu); go_simp; first | done | with_reducible rfl)
  (try simp only [Act.put, List.setIfInBounds_toArray, List.set_cons_zero, List.set_cons_succ])
  refine readyL (i := 4) (by kernel_rfl) rfl (fun K hK => ?_)
  go_simp
  refine (unhide CB _).mono ?_
  rintro e1 w1 ⟨rfl, hw1⟩
  rw [hw1]
  clear hw1 w1
  (try dsimp only)
  refine hK.out _ _ (fun _ => o0) ?_
  clear hK K
  (try simp only [Act.put, List.setIfInBounds_toArray, List.set_cons_zero, List.set_cons_succ])
  have hH4 := o0
  refine takeL (i := 7) (v := ?t5v7) (some 23) rfl rfl (by kernel_rfl) (by kernel_rfl) (by kernel_rfl) (by kernel_rfl) (by kernel_rfl) (fun _ _ _ h => h) (Or.inl ⟨by rfl, ?t5h7⟩) (by assumption) ?t5r7
  case t5h7 => (intro y hSu; (try dsimp only at hSu); go_simp; first | done | with_reducible rfl)
  (try simp only [Act.put, List.setIfInBounds_toArray, List.set_cons_zero, List.set_cons_succ])
  refine takeL (i := 8) (v := ?t5v8) (some 24) rfl rfl (by kernel_rfl) (by kernel_rfl) (by kernel_rfl) (by kernel_rfl) (by kernel_rfl) (fun _ _ _ h => h) (Or.inl ⟨by rfl, ?t5h8⟩) (by assumption) ?t5r8
  case t5h8 => (intro y hSu; (try dsimp only at hSu); go_simp; first | done | with_reducible rfl)
  (try simp only [Act.put, List.setIfInBounds_toArray, List.set_cons_zero, List.set_cons_succ])
  refine readyL (i := 9) (by kernel_rfl) rfl (fun K hK => ?_)
  go_simp
  refine hK.out _ _ (fun _ => (cell_set13 (W := W1.drewN (nq + 1)) (x := ⟨g, q * 4 + 1, none⟩) (u := .bool false) n3' o0)) ?_
  clear hK K
  (try simp only [Act.put, List.setIfInBounds_toArray, List.set_cons_zero, List.set_cons_succ])
  have hH7 := (cell_set13 (W := W1.drewN (nq + 1)) (x := ⟨g, q * 4 + 1, none⟩) (u := .bool false) n3' o0)
  refine takeL (i := 10) (v := ?t8v10) (some 25) rfl rfl (by kernel_rfl) (by kernel_rfl) (by kernel_rfl) (by kernel_rfl) (by kernel_rfl) (fun _ _ _ h => h) (Or.inl ⟨by rfl, ?t8h10⟩) (by assumption) ?t8r10
  case t8h10 => (intro y hSu; (try dsimp only at hSu); go_simp; first | done | with_reducible rfl)
  (try simp only [Act.put, List.setIfInBounds_toArray, List.set_cons_zero, List.set_cons_succ])
  refine takeL (i := 11) (v := ?t8v11) (some 26) rfl rfl (by kernel_rfl) (by kernel_rfl) (by kernel_rfl) (by kernel_rfl) (by kernel_rfl) (fun _ _ _ h => h) (Or.inl ⟨by rfl, ?t8h11⟩) (by assumption) ?t8r11
  case t8h11 => (intro y hSu; (try dsimp only at hSu); go_simp; first | done | with_reducible rfl)
  (try simp only [Act.put, List.setIfInBounds_toArray, List.set_cons_zero, List.set_cons_succ])
  refine readyL (i := 12) (by kernel_rfl) rfl (fun K hK => ?_)
  go_simp
  refine hK.out _ _ (fun _ => (cell_set13 (W := (W1.drewN (nq + 1)).setCell ⟨g, q * 4 + 1, none⟩ (.bool false)) (x := ⟨g, q * 4 + 2, none⟩) (u := .int .u32 (cst : Nat)) n3' (cell_set13 (W := W1.drewN (nq + 1)) (x := ⟨g, q * 4 + 1, none⟩) (u := .bool false) n3' o0))) ?_
  clear hK K
  (try simp only [Act.put, List.setIfInBounds_toArray, List.set_cons_zero, List.set_cons_succ])
  have hH10 := (cell_set13 (W := (W1.drewN (nq + 1)).setCell ⟨g, q * 4 + 1, none⟩ (.bool false)) (x := ⟨g, q * 4 + 2, none⟩) (u := .int .u32 (cst : Nat)) n3' (cell_set13 (W := W1.drewN (nq + 1)) (x := ⟨g, q * 4 + 1, none⟩) (u := .bool false) n3' o0))
  refine takeL (i := 13) (v := ?t11v13) (some 27) rfl rfl (by kernel_rfl) (by kernel_rfl) (by kernel_rfl) (by kernel_rfl) (by kernel_rfl) (fun _ _ _ h => h) (Or.inl ⟨by rfl, ?t11h13⟩) (by assumption) ?t11r13
  case t11h13 => (intro y hSu; (try dsimp only at hSu); go_simp; first | done | with_reducible rfl)
  (try simp only [Act.put, List.setIfInBounds_toArray, List.set_cons_zero, List.set_cons_succ])
  refine takeL (i := 14) (v := ?t11v14) (some 28) rfl rfl (by kernel_rfl) (by kernel_rfl) (by kernel_rfl) (by kernel_rfl) (by kernel_rfl) (fun _ _ _ h => h) (Or.inl ⟨by rfl, ?t11h14⟩) (by assumption) ?t11r14
  case t11h14 => (intro y hSu; (try dsimp only at hSu); go_simp; first | done | with_reducible rfl)
  (try simp only [Act.put, List.setIfInBounds_toArray, List.set_cons_zero, List.set_cons_succ])
  refine readyL (i := 15) (by kernel_rfl) rfl (fun K hK => ?_)
  go_simp
  refine hK.out _ _ (fun _ => (cell_set13 (W := ((W1.drewN (nq + 1)).setCell ⟨g, q * 4 + 1, none⟩ (.bool false)).setCell ⟨g, q * 4 + 2, none⟩ (.int .u32 (cst : Nat))) (x := ⟨g, q * 4 + 3, none⟩) (u := .int .i64 e) n3' (cell_set13 (W := (W1.drewN (nq + 1)).setCell ⟨g, q * 4 + 1, none⟩ (.bool false)) (x := ⟨g, q * 4 + 2, none⟩) (u := .int .u32 (cst : Nat)) n3' (cell_set13 (W := W1.drewN (nq + 1)) (x := ⟨g, q * 4 + 1, none⟩) (u := .bool false) n3' o0)))) ?_
  clear hK K
  (try simp only [Act.put, List.setIfInBounds_toArray, List.set_cons_zero, List.set_cons_succ])
  have hH13 := (cell_set13 (W := ((W1.drewN (nq + 1)).setCell ⟨g, q * 4 + 1, none⟩ (.bool false)).setCell ⟨g, q * 4 + 2, none⟩ (.int .u32 (cst : Nat))) (x := ⟨g, q * 4 + 3, none⟩) (u := .int .i64 e) n3' (cell_set13 (W := (W1.drewN (nq + 1)).setCell ⟨g, q * 4 + 1, none⟩ (.bool false)) (x := ⟨g, q * 4 + 2, none⟩) (u := .int .u32 (cst : Nat)) n3' (cell_set13 (W := W1.drewN (nq + 1)) (x := ⟨g, q * 4 + 1, none⟩) (u := .bool false) n3' o0)))
  refine doneL (by kernel_rfl) ?_ _
  refine NoPanic.normal ?_
  have h3 := unhide HD (nq + 1)
  have o3 := cell_set13 (W := ((W1.drewN (nq + 1)).setCell ⟨g, q * 4 + 1, none⟩ (.bool false)).setCell ⟨g, q * 4 + 2, none⟩ (.int .u32 (cst : Nat))) (x := ⟨g, q * 4 + 3, none⟩) (u := .int .i64 e) n3' (cell_set13 (W := (W1.drewN (nq + 1)).setCell ⟨g, q * 4 + 1, none⟩ (.bool false)) (x := ⟨g, q * 4 + 2, none⟩) (u := .int .u32 (cst : Nat)) n3' (cell_set13 (W := W1.drewN (nq + 1)) (x := ⟨g, q * 4 + 1, none⟩) (u := .bool false) n3' o1))
  clear hHeld HD o0 o1 t0 t1 t2 tf k0 k1 k2 k3 kf CB n1 n1' n2 n2' n3 n3'
  generalize (((W1.drewN (nq + 1)).setCell ⟨g, q * 4 + 1, none⟩ (.bool false)).setCell ⟨g, q * 4 + 2, none⟩ (.int .u32 (cst : Nat))).setCell ⟨g, q * 4 + 3, none⟩ (.int .i64 e) = W3 at *
  obtain ⟨-, -, t2, -⟩ := cellsT h3.tr.box
  obtain ⟨y, hy⟩ : ∃ y, fs[q]? = some y := ⟨_, List.getElem?_eq_getElem (unhide HQF)⟩
  have f0 := brow_at h3.tr.fs_ hy
  have ff := (brow_set h3.tr.fs_ 0 (show q < mf by omega)).1
  have HE : Hid (GM w p s (.slice (some ⟨g, 0, none⟩) m c) (.slice (some ⟨gf_, 0, none⟩) mf cf_) ph (ds.set q (v, false, cst, e)) (fs.set q at_) ms nn (W3.drew.setCell ⟨gf_, q, none⟩ (.int .i64 at_))) := lead_fs (h3.below (W' := W3.drew) (below_drewN (Below.refl _ _) 1)) (unhide HQF)
  clear h3 hy HQF
  go_upto_region 3 with fail
  refine wp_region_noPanic ?_
  refine regionL [8] (fun y => y.cell? ⟨p, 2, none⟩ = some (.slice (some ⟨gf_, 0, none⟩) mf cf_) ∧ y.cell? ⟨wb, 1, none⟩ = some (.int .i64 (q : Nat))) (by kernel_rfl) ⟨t2, o3⟩ (fun hHeld => ?_)
  refine takeL (i := 0) (v := ?t16v0) (some 29) rfl rfl (by kernel_rfl) (by kernel_rfl) (by kernel_rfl) (by kernel_rfl) (by kernel_rfl) (fun _ _ _ h => h) (Or.inl ⟨by rfl, ?t16h0⟩) (by assumption) ?t16r0
  case t16h0 => (intro y hSu; (try dsimp only at hSu); go_simp; first | done | with_reducible rfl)
  (try simp only [Act.put, List.setIfInBounds_toArray, List.set_cons_zero, List.set_cons_succ])
  refine takeL (i := 1) (v := ?t16v1) (some 30) rfl rfl (by kernel_rfl) (by kernel_rfl) (by kernel_rfl) (by kernel_rfl) (by kernel_rfl) (fun _ _ _ h => h) (Or.inl ⟨by rfl, ?t16h1⟩) (by assumption) ?t16r1
  case t16h1 => (intro y hSu; (try dsimp only at hSu); go_simp; first | done | with_reducible rfl)
  (try simp only [Act.put, List.setIfInBounds_toArray, List.set_cons_zero, List.set_cons_succ])
  refine takeL (i := 2) (v := ?t16v2) (some 31) rfl rfl (by kernel_rfl) (by kernel_rfl) (by kernel_rfl) (by kernel_rfl) (by kernel_rfl) (fun _ _ _ h => h) (Or.inl ⟨by rfl, ?t16h2⟩) (by assumption) ?t16r2
  case t16h2 => (intro y hSu; (try dsimp only at hSu); go_simp; first | done | with_reducible rfl)
  (try simp only [Act.put, List.setIfInBounds_toArray, List.set_cons_zero, List.set_cons_succ])
  refine takeL (i := 3) (v := ?t16v3) (some 32) rfl rfl (by kernel_rfl) (by kernel_rfl) (by kernel_rfl) (by kernel_rfl) (by kernel_rfl) (fun _ _ _ h => h) (Or.inl ⟨by rfl, ?t16h3⟩) (by assumption) ?t16r3
  case t16h3 => (intro y hSu; (try dsimp only at hSu); go_simp; first | done | with_reducible rfl)
  (try simp only [Act.put, List.setIfInBounds_toArray, List.set_cons_zero, List.set_cons_succ])
  refine takeL (i := 4) (v := ?t16v4) (some 33) rfl rfl (by kernel_rfl) (by kernel_rfl) (by kernel_rfl) (by kernel_rfl) (by kernel_rfl) (fun _ _ _ h => h) (Or.inl ⟨by rfl, ?t16h4⟩) (by assumption) ?t16r4
  case t16h4 => (intro y hSu; (try dsimp only at hSu); go_simp; first | done | with_reducible rfl)
  (try simp only [Act.put, List.setIfInBounds_toArray, List.set_cons_zero, List.set_cons_succ])
  refine takeL (i := 5) (v := ?t16v5) (some 34) rfl rfl (by kernel_rfl) (by kernel_rfl) (by kernel_rfl) (by kernel_rfl) (by kernel_rfl) (fun _ _ _ h => h) (Or.inl ⟨by rfl, ?t16h5⟩) (by assumption) ?t16r5
  case t16h5 => (intro y hSu; (try dsimp only at hSu); go_simp; first | done | with_reducible rfl)
  (try simp only [Act.put, List.setIfInBounds_toArray, List.set_cons_zero, List.set_cons_succ])
  refine takeL (i := 6) (v := ?t16v6) (some 35) rfl rfl (by kernel_rfl) (by kernel_rfl) (by kernel_rfl) (by kernel_rfl) (by kernel_rfl) (fun _ _ _ h => h) (Or.inl ⟨by rfl, ?t16h6⟩) (by assumption) ?t16r6
  case t16h6 => (intro y hSu; (try dsimp only at hSu); go_simp; first | done | with_reducible rfl)
  (try simp only [Act.put, List.setIfInBounds_toArray, List.set_cons_zero, List.set_cons_succ])
  refine takeL (i := 7) (v := ?t16v7) (some 36) rfl rfl (by kernel_rfl) (by kernel_rfl) (by kernel_rfl) (by kernel_rfl) (by kernel_rfl) (fun _ _ _ h => h) (Or.inl ⟨by rfl, ?t16h7⟩) (by assumption) ?t16r7
  case t16h7 => (intro y hSu; (try dsimp only at hSu); go_simp; first | done | with_reducible rfl)
  (try simp only [Act.put, List.setIfInBounds_toArray, List.set_cons_zero, List.set_cons_succ])
  refine readyL (i := 8) (by kernel_rfl) rfl (fun K hK => ?_)
  go_simp
  refine hK.out _ _ (fun h => by cases h) ?_
  clear hK K
  (try simp only [Act.put, List.setIfInBounds_toArray, List.set_cons_zero, List.set_cons_succ])
  refine doneL (by kernel_rfl) ?_ _
  refine NoPanic.normal ?_
  clear hHeld t2 o3 f0 ff
  go_wp2_with fail
  go_end0
  exact ⟨rfl, HE⟩
end Go.Proofs.Ytijgeoegeeejcaa
