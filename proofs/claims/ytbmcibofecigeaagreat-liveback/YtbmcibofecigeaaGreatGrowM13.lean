/- grow: what Pop, offer and lead leave. -/
import Derived.Test.YtbmcibofecigeaaGreatGrow13
namespace Go.Proofs.YtbmcibofecigeaaGreat

section
open Go.RowKit Go.Maps
attribute [local go_sem] run_storeF
def oWy (e : Int) (t c : Nat) : Obj := .cells #[.int .i64 e, .int .i64 (t : Nat), .float .f32 c] 130
theorem cellsWy {w : World} {b : Nat} {e : Int} {t c : Nat} (h : w.heap[b]? = some (oWy e t c)) : w.cell? ⟨b, 0, none⟩ = some (.int .i64 e) ∧ w.cell? ⟨b, 1, none⟩ = some (.int .i64 (t : Nat)) ∧ w.cell? ⟨b, 2, none⟩ = some (.float .f32 c) :=
  ⟨(cell_of_row _ _ 0 _ _ (0, 0) h).trans rfl, (cell_of_row _ _ 1 _ _ (0, 0) h).trans rfl, (cell_of_row _ _ 2 _ _ (0, 0) h).trans rfl⟩
theorem cell_set13 {W : World} {x : Addr} {u v : Value} {b o : Nat} (hb : ¬ b = x.block) (h : W.cell? ⟨b, o, none⟩ = some v) : (W.setCell x u).cell? ⟨b, o, none⟩ = some v := by
  have := heap_setCell_other W x b u hb
  unfold World.cell? at h ⊢
  rw [this]; exact h
set_option maxHeartbeats 2000000 in
set_option maxRecDepth 100000 in
theorem leadS [Inhabited EntF] {w W : World} {p : Nat} {s : Int} {ph g m c q gf_ mf cf_ wt : Nat} {ds : List DiV} {fs : List Int} {ms : List EntF} {nn : Nat} {v e0 e at_ : Int} {fa : Bool} {b0 cst : Nat} (h : GM w p s (.slice (some ⟨g, 0, none⟩) m c) (.slice (some ⟨gf_, 0, none⟩) mf cf_) ph ds fs ms nn W) (hq : ds[q]? = some (v, fa, b0, e0)) (hqf : q < fs.length) (hc : cst ≤ 2139095040) :
    Calls Tryz.prog 80 #[.pointer (some ⟨p, 0, none⟩), .int .i64 at_, .agg #[.int .i64 e, .int .i64 (q : Nat), .float .f32 wt], .float .f32 cst] W fun r w' => r = .returned (.tuple #[]) ∧ Hid (GM w p s (.slice (some ⟨g, 0, none⟩) m c) (.slice (some ⟨gf_, 0, none⟩) mf cf_) ph (ds.set q (v, false, cst, e)) (fs.set q at_) ms nn w') := by
  have hb := below_new W (oWy e q wt)
  obtain ⟨o0, o1, -⟩ := cellsWy (heap_alloc_new W (oWy e q wt))
  have h1 := h.below hb
  obtain ⟨W1, hW1⟩ : ∃ W1, W1 = W.alloc (oWy e q wt) := ⟨_, rfl⟩
  rw [← hW1] at o0 o1 h1
  obtain ⟨wb, hwb⟩ : ∃ wb, wb = W.heap.size := ⟨_, rfl⟩
  rw [← hwb] at o0 o1
  have HD : Hid (∀ n, GM w p s (.slice (some ⟨g, 0, none⟩) m c) (.slice (some ⟨gf_, 0, none⟩) mf cf_) ph (ds.set q (v, false, cst, e)) fs ms nn ((((W1.drewN n).setCell ⟨g, q * 4 + 1, none⟩ (.bool false)).setCell ⟨g, q * 4 + 2, none⟩ (.int .u32 (cst : Nat))).setCell ⟨g, q * 4 + 3, none⟩ (.int .i64 e))) := fun n => lead_ds (h1.below (below_drewN (Below.refl _ _) n)) hq
  have HQF := hide hqf
  obtain ⟨t0, t1, t2, tf⟩ := cellsT h1.tr.box
  obtain ⟨k0, k1, k2, k3⟩ := drow_at h1.tr.ds_ hq
  have kf := rrow_frozen h1.tr.ds_ (by have := (List.getElem?_eq_some_iff.1 hq).1; omega)
  have z1 : (q : Int) < (m : Int) := by have := rrow_len h.tr.ds_; have := (List.getElem?_eq_some_iff.1 hq).1; omega
  have z2 : (q : Int) < (mf : Int) := by
    obtain ⟨a', c', e, -⟩ := brow_shape h1.tr.fs_
    injection e with e1 e2; omega
  have n1 : ¬ g = gf_ := fun z => h.tr.ne3 g rfl (by rw [z]; rfl)
  have n1' : ¬ gf_ = g := fun z => n1 z.symm
  have n2 : ¬ g = p := fun z => h.tr.ne1 (by rw [← z]; rfl)
  have n2' : ¬ p = g := fun z => n2 z.symm
  have n3 : ¬ g = wb := fun z => by have := (h.tr.lt (.inr (.inl (show (Value.slice (some ⟨g, 0, none⟩) m c).ownBlock = some g from rfl)))).2; omega
  have n3' : ¬ wb = g := fun z => n3 z.symm
  have CB : Hid (∀ W, Calls Tryz.prog 43 #[.float .f32 cst] W fun e w' => e = .returned (.int .u32 (cst : Int)) ∧ w' = W) := fun W => bits_nat hc W
  have HW1 := hide hW1
  have HWB := hide hwb
  clear h hb h1 hW1 hwb hq hqf hc
  go_enter Tryz.func80, Tryz.ntmps80
  go_upto_region 1 with fail
  rw [show W.alloc (.cells #[.int .i64 e, .int .i64 (q : Nat), .float .f32 wt] 130) = W1 from (unhide HW1).symm, ← unhide HWB]
  clear HW1 HWB
  go_quiet (fail)
  go_upto_region 2 with fail
  refine wp_region_noPanic ?_
  refine regionL [] (fun y => y.cell? ⟨wb, 0, none⟩ = some (.int .i64 e)) (by kernel_rfl) o0 (fun hHeld => ?_)
  refine takeL (i := 0) (v := ?t2v0) (some 16) rfl rfl (by kernel_rfl) (by kernel_rfl) (by kernel_rfl) (by kernel_rfl) (by kernel_rfl) (fun _ _ _ h => h) (Or.inl ⟨by rfl, ?t2h0⟩) (by assumption) ?t2r0
  case t2h0 => (intro y hSu; (try dsimp only at hSu); go_simp; first | done | with_reducible rfl)
  (try simp only [Act.put, List.setIfInBounds_toArray, List.set_cons_zero, List.set_cons_succ])
  refine takeL (i := 1) (v := ?t2v1) (some 17) rfl rfl (by kernel_rfl) (by kernel_rfl) (by kernel_rfl) (by kernel_rfl) (by kernel_rfl) (fun _ _ _ h => h) (Or.inl ⟨by rfl, ?t2h1⟩) (by assumption) ?t2r1
  case t2h1 => (intro y hSu; (try dsimp only at hSu); go_simp; first | done | with_reducible rfl)
  (try simp only [Act.put, List.setIfInBounds_toArray, List.set_cons_zero, List.set_cons_succ])
  refine takeL (i := 2) (v := ?t2v2) (some 18) rfl rfl (by kernel_rfl) (by kernel_rfl) (by kernel_rfl) (by kernel_rfl) (by kernel_rfl) (fun _ _ _ h => h) (Or.inl ⟨by rfl, ?t2h2⟩) (by assumption) ?t2r2
  case t2h2 => (intro y hSu; (try dsimp only at hSu); go_simp; first | done | with_reducible rfl)
  (try simp only [Act.put, List.setIfInBounds_toArray, List.set_cons_zero, List.set_cons_succ])
  refine takeL (i := 3) (v := ?t2v3) (some 19) rfl rfl (by kernel_rfl) (by kernel_rfl) (by kernel_rfl) (by kernel_rfl) (by kernel_rfl) (fun _ _ _ h => h) (Or.inl ⟨by rfl, ?t2h3⟩) (by assumption) ?t2r3
  case t2h3 => (intro y hSu; (try dsimp only at hSu); go_simp; first | done | with_reducible rfl)
  (try simp only [Act.put, List.setIfInBounds_toArray, List.set_cons_zero, List.set_cons_succ])
  refine takeL (i := 5) (v := ?t2v5) (some 21) rfl rfl (by kernel_rfl) (by kernel_rfl) (by kernel_rfl) (by kernel_rfl) (by kernel_rfl) (fun _ _ _ h => h) (Or.inl ⟨by rfl, ?t2h5⟩) (by assumption) ?t2r5
  case t2h5 => (intro y hSu; (try dsimp only at hSu); go_simp; first | done | with_reducible rfl)
  (try simp only [Act.put, List.setIfInBounds_toArray, List.set_cons_zero, List.set_cons_succ])
  refine takeL (i := 6) (v := ?t2v6) (some 22) rfl rfl (by kernel_rfl) (by kernel_rfl) (by kernel_rfl) (by kernel_rfl) (by kernel_rfl) (fun _ _ _ h => h) (Or.inl ⟨by rfl, ?t2h6⟩) (by assumption) ?t2r6
  case t2h6 => (intro y hSu; (try dsimp only at hSu); go_simp; first | done | with_reducible rfl)
  (try simp only [Act.put, List.setIfInBounds_toArray, List.set_cons_zero, List.set_cons_succ])
  refine readyL (i := 4) (by kernel_rfl) rfl (fun K hK => ?_)
  go_simp
  refine (unhide CB _).mono ?_
  rintro e1 w1 ⟨rfl, hw1⟩
  rw [hw1]
  clear hw1 w1
  (try dsimp only)
  refine hK.out _ _ (fun _ => o0) ?_
  clear hK K
  (try simp only [Act.put, List.setIfInBounds_toArray, List.set_cons_zero, List.set_cons_succ])
  have hH4 := o0
  refine takeL (i := 7) (v := ?t5v7) (some 23) rfl rfl (by kernel_rfl) (by kernel_rfl) (by kernel_rfl) (by kernel_rfl) (by kernel_rfl) (fun _ _ _ h => h) (Or.inl ⟨by rfl, ?t5h7⟩) (by assumption) ?t5r7
  case t5h7 => (intro y hSu; (try dsimp only at hSu); go_simp; first | done | with_reducible rfl)
  (try simp only [Act.put, List.setIfInBounds_toArray, List.set_cons_zero, List.set_cons_succ])
  refine takeL (i := 8) (v := ?t5v8) (some 24) rfl rfl (by kernel_rfl) (by kernel_rfl) (by kernel_rfl) (by kernel_rfl) (by kernel_rfl) (fun _ _ _ h => h) (Or.inl ⟨by rfl, ?t5h8⟩) (by assumption) ?t5r8
  case t5h8 => (intro y hSu; (try dsimp only at hSu); go_simp; first | done | with_reducible rfl)
  (try simp only [Act.put, List.setIfInBounds_toArray, List.set_cons_zero, List.set_cons_succ])
  refine readyL (i := 9) (by kernel_rfl) rfl (fun K hK => ?_)
  go_simp
  refine hK.out _ _ (fun _ => (cell_set13 (W := W1.drewN (nq + 1)) (x := ⟨g, q * 4 + 1, none⟩) (u := .bool false) n3' o0)) ?_
  clear hK K
  (try simp only [Act.put, List.setIfInBounds_toArray, List.set_cons_zero, List.set_cons_succ])
  have hH7 := (cell_set13 (W := W1.drewN (nq + 1)) (x := ⟨g, q * 4 + 1, none⟩) (u := .bool false) n3' o0)
  refine takeL (i := 10) (v := ?t8v10) (some 25) rfl rfl (by kernel_rfl) (by kernel_rfl) (by kernel_rfl) (by kernel_rfl) (by kernel_rfl) (fun _ _ _ h => h) (Or.inl ⟨by rfl, ?t8h10⟩) (by assumption) ?t8r10
  case t8h10 => (intro y hSu; (try dsimp only at hSu); go_simp; first | done | with_reducible rfl)
  (try simp only [Act.put, List.setIfInBounds_toArray, List.set_cons_zero, List.set_cons_succ])
  refine takeL (i := 11) (v := ?t8v11) (some 26) rfl rfl (by kernel_rfl) (by kernel_rfl) (by kernel_rfl) (by kernel_rfl) (by kernel_rfl) (fun _ _ _ h => h) (Or.inl ⟨by rfl, ?t8h11⟩) (by assumption) ?t8r11
  case t8h11 => (intro y hSu; (try dsimp only at hSu); go_simp; first | done | with_reducible rfl)
  (try simp only [Act.put, List.setIfInBounds_toArray, List.set_cons_zero, List.set_cons_succ])
  refine readyL (i := 12) (by kernel_rfl) rfl (fun K hK => ?_)
  go_simp
  refine hK.out _ _ (fun _ => (cell_set13 (W := (W1.drewN (nq + 1)).setCell ⟨g, q * 4 + 1, none⟩ (.bool false)) (x := ⟨g, q * 4 + 2, none⟩) (u := .int .u32 (cst : Nat)) n3' (cell_set13 (W := W1.drewN (nq + 1)) (x := ⟨g, q * 4 + 1, none⟩) (u := .bool false) n3' o0))) ?_
  clear hK K
  (try simp only [Act.put, List.setIfInBounds_toArray, List.set_cons_zero, List.set_cons_succ])
  have hH10 := (cell_set13 (W := (W1.drewN (nq + 1)).setCell ⟨g, q * 4 + 1, none⟩ (.bool false)) (x := ⟨g, q * 4 + 2, none⟩) (u := .int .u32 (cst : Nat)) n3' (cell_set13 (W := W1.drewN (nq + 1)) (x := ⟨g, q * 4 + 1, none⟩) (u := .bool false) n3' o0))
  refine takeL (i := 13) (v := ?t11v13) (some 27) rfl rfl (by kernel_rfl) (by kernel_rfl) (by kernel_rfl) (by kernel_rfl) (by kernel_rfl) (fun _ _ _ h => h) (Or.inl ⟨by rfl, ?t11h13⟩) (by assumption) ?t11r13
  case t11h13 => (intro y hSu; (try dsimp only at hSu); go_simp; first | done | with_reducible rfl)
  (try simp only [Act.put, List.setIfInBounds_toArray, List.set_cons_zero, List.set_cons_succ])
  refine takeL (i := 14) (v := ?t11v14) (some 28) rfl rfl (by kernel_rfl) (by kernel_rfl) (by kernel_rfl) (by kernel_rfl) (by kernel_rfl) (fun _ _ _ h => h) (Or.inl ⟨by rfl, ?t11h14⟩) (by assumption) ?t11r14
  case t11h14 => (intro y hSu; (try dsimp only at hSu); go_simp; first | done | with_reducible rfl)
  (try simp only [Act.put, List.setIfInBounds_toArray, List.set_cons_zero, List.set_cons_succ])
  refine readyL (i := 15) (by kernel_rfl) rfl (fun K hK => ?_)
  go_simp
  refine hK.out _ _ (fun _ => (cell_set13 (W := ((W1.drewN (nq + 1)).setCell ⟨g, q * 4 + 1, none⟩ (.bool false)).setCell ⟨g, q * 4 + 2, none⟩ (.int .u32 (cst : Nat))) (x := ⟨g, q * 4 + 3, none⟩) (u := .int .i64 e) n3' (cell_set13 (W := (W1.drewN (nq + 1)).setCell ⟨g, q * 4 + 1, none⟩ (.bool false)) (x := ⟨g, q * 4 + 2, none⟩) (u := .int .u32 (cst : Nat)) n3' (cell_set13 (W := W1.drewN (nq + 1)) (x := ⟨g, q * 4 + 1, none⟩) (u := .bool false) n3' o0)))) ?_
  clear hK K
  (try simp only [Act.put, List.setIfInBounds_toArray, List.set_cons_zero, List.set_cons_succ])
  have hH13 := (cell_set13 (W := ((W1.drewN (nq + 1)).setCell ⟨g, q * 4 + 1, none⟩ (.bool false)).setCell ⟨g, q * 4 + 2, none⟩ (.int .u32 (cst : Nat))) (x := ⟨g, q * 4 + 3, none⟩) (u := .int .i64 e) n3' (cell_set13 (W := (W1.drewN (nq + 1)).setCell ⟨g, q * 4 + 1, none⟩ (.bool false)) (x := ⟨g, q * 4 + 2, none⟩) (u := .int .u32 (cst : Nat)) n3' (cell_set13 (W := W1.drewN (nq + 1)) (x := ⟨g, q * 4 + 1, none⟩) (u := .bool false) n3' o0)))
  refine doneL (by kernel_rfl) ?_ _
  refine NoPanic.normal ?_
  have h3 := unhide HD (nq + 1)
  have o3 := cell_set13 (W := ((W1.drewN (nq + 1)).setCell ⟨g, q * 4 + 1, none⟩ (.bool false)).setCell ⟨g, q * 4 + 2, none⟩ (.int .u32 (cst : Nat))) (x := ⟨g, q * 4 + 3, none⟩) (u := .int .i64 e) n3' (cell_set13 (W := (W1.drewN (nq + 1)).setCell ⟨g, q * 4 + 1, none⟩ (.bool false)) (x := ⟨g, q * 4 + 2, none⟩) (u := .int .u32 (cst : Nat)) n3' (cell_set13 (W := W1.drewN (nq + 1)) (x := ⟨g, q * 4 + 1, none⟩) (u := .bool false) n3' o1))
  clear hHeld HD o0 o1 t0 t1 t2 tf k0 k1 k2 k3 kf CB n1 n1' n2 n2' n3 n3'
  generalize (((W1.drewN (nq + 1)).setCell ⟨g, q * 4 + 1, none⟩ (.bool false)).setCell ⟨g, q * 4 + 2, none⟩ (.int .u32 (cst : Nat))).setCell ⟨g, q * 4 + 3, none⟩ (.int .i64 e) = W3 at *
  obtain ⟨-, -, t2, -⟩ := cellsT h3.tr.box
  obtain ⟨y, hy⟩ : ∃ y, fs[q]? = some y := ⟨_, List.getElem?_eq_getElem (unhide HQF)⟩
  have f0 := brow_at h3.tr.fs_ hy
  have ff := (brow_set h3.tr.fs_ 0 (show q < mf by omega)).1
  have HE : Hid (GM w p s (.slice (some ⟨g, 0, none⟩) m c) (.slice (some ⟨gf_, 0, none⟩) mf cf_) ph (ds.set q (v, false, cst, e)) (fs.set q at_) ms nn (W3.drew.setCell ⟨gf_, q, none⟩ (.int .i64 at_))) := lead_fs (h3.below (W' := W3.drew) (below_drewN (Below.refl _ _) 1)) (unhide HQF)
  clear h3 hy HQF
  go_upto_region 3 with fail
  refine wp_region_noPanic ?_
  refine regionL [8] (fun y => y.cell? ⟨p, 2, none⟩ = some (.slice (some ⟨gf_, 0, none⟩) mf cf_) ∧ y.cell? ⟨wb, 1, none⟩ = some (.int .i64 (q : Nat))) (by kernel_rfl) ⟨t2, o3⟩ (fun hHeld => ?_)
  refine takeL (i := 0) (v := ?t16v0) (some 29) rfl rfl (by kernel_rfl) (by kernel_rfl) (by kernel_rfl) (by kernel_rfl) (by kernel_rfl) (fun _ _ _ h => h) (Or.inl ⟨by rfl, ?t16h0⟩) (by assumption) ?t16r0
  case t16h0 => (intro y hSu; (try dsimp only at hSu); go_simp; first | done | with_reducible rfl)
  (try simp only [Act.put, List.setIfInBounds_toArray, List.set_cons_zero, List.set_cons_succ])
  refine takeL (i := 1) (v := ?t16v1) (some 30) rfl rfl (by kernel_rfl) (by kernel_rfl) (by kernel_rfl) (by kernel_rfl) (by kernel_rfl) (fun _ _ _ h => h) (Or.inl ⟨by rfl, ?t16h1⟩) (by assumption) ?t16r1
  case t16h1 => (intro y hSu; (try dsimp only at hSu); go_simp; first | done | with_reducible rfl)
  (try simp only [Act.put, List.setIfInBounds_toArray, List.set_cons_zero, List.set_cons_succ])
  refine takeL (i := 2) (v := ?t16v2) (some 31) rfl rfl (by kernel_rfl) (by kernel_rfl) (by kernel_rfl) (by kernel_rfl) (by kernel_rfl) (fun _ _ _ h => h) (Or.inl ⟨by rfl, ?t16h2⟩) (by assumption) ?t16r2
  case t16h2 => (intro y hSu; (try dsimp only at hSu); go_simp; first | done | with_reducible rfl)
  (try simp only [Act.put, List.setIfInBounds_toArray, List.set_cons_zero, List.set_cons_succ])
  refine takeL (i := 3) (v := ?t16v3) (some 32) rfl rfl (by kernel_rfl) (by kernel_rfl) (by kernel_rfl) (by kernel_rfl) (by kernel_rfl) (fun _ _ _ h => h) (Or.inl ⟨by rfl, ?t16h3⟩) (by assumption) ?t16r3
  case t16h3 => (intro y hSu; (try dsimp only at hSu); go_simp; first | done | with_reducible rfl)
  (try simp only [Act.put, List.setIfInBounds_toArray, List.set_cons_zero, List.set_cons_succ])
  refine takeL (i := 4) (v := ?t16v4) (some 33) rfl rfl (by kernel_rfl) (by kernel_rfl) (by kernel_rfl) (by kernel_rfl) (by kernel_rfl) (fun _ _ _ h => h) (Or.inl ⟨by rfl, ?t16h4⟩) (by assumption) ?t16r4
  case t16h4 => (intro y hSu; (try dsimp only at hSu); go_simp; first | done | with_reducible rfl)
  (try simp only [Act.put, List.setIfInBounds_toArray, List.set_cons_zero, List.set_cons_succ])
  refine takeL (i := 5) (v := ?t16v5) (some 34) rfl rfl (by kernel_rfl) (by kernel_rfl) (by kernel_rfl) (by kernel_rfl) (by kernel_rfl) (fun _ _ _ h => h) (Or.inl ⟨by rfl, ?t16h5⟩) (by assumption) ?t16r5
  case t16h5 => (intro y hSu; (try dsimp only at hSu); go_simp; first | done | with_reducible rfl)
  (try simp only [Act.put, List.setIfInBounds_toArray, List.set_cons_zero, List.set_cons_succ])
  refine takeL (i := 6) (v := ?t16v6) (some 35) rfl rfl (by kernel_rfl) (by kernel_rfl) (by kernel_rfl) (by kernel_rfl) (by kernel_rfl) (fun _ _ _ h => h) (Or.inl ⟨by rfl, ?t16h6⟩) (by assumption) ?t16r6
  case t16h6 => (intro y hSu; (try dsimp only at hSu); go_simp; first | done | with_reducible rfl)
  (try simp only [Act.put, List.setIfInBounds_toArray, List.set_cons_zero, List.set_cons_succ])
  refine takeL (i := 7) (v := ?t16v7) (some 36) rfl rfl (by kernel_rfl) (by kernel_rfl) (by kernel_rfl) (by kernel_rfl) (by kernel_rfl) (fun _ _ _ h => h) (Or.inl ⟨by rfl, ?t16h7⟩) (by assumption) ?t16r7
  case t16h7 => (intro y hSu; (try dsimp only at hSu); go_simp; first | done | with_reducible rfl)
  (try simp only [Act.put, List.setIfInBounds_toArray, List.set_cons_zero, List.set_cons_succ])
  refine readyL (i := 8) (by kernel_rfl) rfl (fun K hK => ?_)
  go_simp
  refine hK.out _ _ (fun h => by cases h) ?_
  clear hK K
  (try simp only [Act.put, List.setIfInBounds_toArray, List.set_cons_zero, List.set_cons_succ])
  refine doneL (by kernel_rfl) ?_ _
  refine NoPanic.normal ?_
  clear hHeld t2 o3 f0 ff
  go_wp2_with fail
  go_end0
  exact ⟨rfl, HE⟩
end

section
open Go.RowKit Go.Maps
theorem nodup_lt13 : ∀ {N : Nat} {l : List Nat}, l.Nodup → (∀ x ∈ l, x < N) → l.length ≤ N
  | 0, l, _, hl => by
    cases l with
    | nil => exact Nat.le_refl _
    | cons x l => exact absurd (hl x (by simp)) (Nat.not_lt_zero _)
  | N + 1, l, hd, hl => by
    by_cases h : N ∈ l
    · have h1 := nodup_lt13 (N := N) (hd.erase N) (fun x hx => by
        have h2 := (hd.mem_erase_iff).1 hx
        have := hl x h2.2
        have := h2.1
        omega)
      rw [List.length_erase_of_mem h] at h1
      omega
    · have := nodup_lt13 (N := N) hd (fun x hx => by
        have := hl x hx
        have : x ≠ N := fun e => h (by rw [← e]; exact hx)
        omega)
      omega
theorem Dj.ordl {n : Nat} {Wy : Nat → List WyV} {st : Nat} {ys : List Int} {ds : List DiV} {fs : List Int} {ord : List Nat} {ms : List EntF} {at_ k : Nat} (h : Dj n Wy st ys ds fs ord ms at_ k) : ord.length ≤ n := nodup_lt13 h.nd (fun x hx => (h.oin x hx).1)
theorem lessB : LessF (.func (.func 48) #[] #[]) gf := ⟨48, #[], rfl, enters_of Tryz.func48 (by kernel_rfl) rfl, fun x y w => by
  have h := before_cost (a := cfl x) (b := cfl y) (Nat.min_le_right _ _) (Nat.min_le_right _ _) w
  have e : decide (cfl x < cfl y) = decide (gf x < gf y) := by unfold gf; exact decide_eq_decide.2 (by omega)
  rw [e] at h
  exact h⟩
theorem okF {n : Nat} (h : n ≤ 1000000) : KeyOkF (n : Int) := WalkArith.wf_i64 (by omega)
/-- What is always so of a graph that is searched. -/
structure GK (ys : List Int) (Wy : Nat → List WyV) : Prop where
  len : ys.length ≤ 1000
  rise : ys.Pairwise (· < ·)
  wl : ∀ p, (Wy p).length ≤ 1000
  win : ∀ p, ∀ y ∈ Wy p, y.2.1 < ys.length ∧ y.2.2 ≤ 2139095040
/-- Between two places. -/
structure GD [Inhabited EntF] (w : World) (p : Nat) (s : Int) (dv fv : Value) (ph : Nat) (ys : List Int) (Wy : Nat → List WyV) (st : Nat) (ds : List DiV) (fs : List Int) (ord : List Nat) (ms : List EntF) (nn : Nat) (W : World) : Prop where
  gm : GM w p s dv fv ph ds fs ms nn W
  dj : Dj ys.length Wy st ys ds fs ord ms ys.length 0
  nb : nn ≤ 1 + 1001 * ord.length
/-- At a place of which k ways are gone. -/
structure GS [Inhabited EntF] (w : World) (p : Nat) (s : Int) (dv fv : Value) (ph : Nat) (ys : List Int) (Wy : Nat → List WyV) (st : Nat) (ds : List DiV) (fs : List Int) (ord : List Nat) (ms : List EntF) (nn at_ k c : Nat) (W : World) : Prop where
  gm : GM w p s dv fv ph ds fs ms nn W
  dj : Dj ys.length Wy st ys ds fs ord ms at_ k
  an : at_ < ys.length
  ao : at_ ∈ ord
  cst : bitsAt ds at_ = c
  nb : nn + 1001 ≤ 1 + 1001 * ord.length + k
section
variable [Inhabited EntF] {w W W' : World} {p : Nat} {s : Int} {dv fv : Value} {ph : Nat} {ys : List Int} {Wy : Nat → List WyV} {st : Nat} {ds : List DiV} {fs : List Int} {ord : List Nat} {ms : List EntF} {nn at_ k c : Nat}
theorem GS.below (h : GS w p s dv fv ph ys Wy st ds fs ord ms nn at_ k c W) (hb : Below W.heap.size W W') : GS w p s dv fv ph ys Wy st ds fs ord ms nn at_ k c W' := ⟨h.gm.below hb, h.dj, h.an, h.ao, h.cst, h.nb⟩
/-- All ways of the place are gone. -/
theorem GS.done (h : GS w p s dv fv ph ys Wy st ds fs ord ms nn at_ k c W) (hk : (Wy at_).length ≤ k) (hk2 : k ≤ 1000) : GD w p s dv fv ph ys Wy st ds fs ord ms nn W := ⟨h.gm, h.dj.done hk, by have := h.nb; omega⟩
/-- What Pop answers. -/
def PopAns (w : World) (p : Nat) (s : Int) (dv fv : Value) (ph : Nat) (ys : List Int) (Wy : Nat → List WyV) (st : Nat) (g : Nat) (a : Int) (c : Nat) (b : Bool) (W : World) : Prop :=
  (b = true ∧ ∃ at_ : Nat, a = (at_ : Int) ∧ ∃ ds fs ord ms nn, GS w p s dv fv ph ys Wy st ds fs ord ms nn at_ 0 c W ∧ ys.length + 1 ≤ ord.length + g) ∨ (b = false ∧ ∃ ds fs ord nn, GD w p s dv fv ph ys Wy st ds fs ord [] nn W)
theorem popT (h : GD w p s dv fv ph ys Wy st ds fs ord ms nn W) (hG : GK ys Wy) {g : Nat} (hg : ys.length ≤ ord.length + g) :
    Calls Tryz.prog 77 #[.pointer (some ⟨ph, 0, none⟩)] W fun e w' => ∃ a c b, e = .returned (.tuple #[.int .i64 a, .float .f32 c, .bool b]) ∧ Hid (PopAns w p s dv fv ph ys Wy st g a c b w') := by
  obtain ⟨F, ho, hF⟩ := h.gm.on
  have hol := h.dj.ordl
  have := hG.len
  cases hm : ms with
  | nil =>
    subst hm
    refine ho.popNone.mono ?_
    rintro e w' ⟨rfl, rfl⟩
    exact ⟨_, _, _, rfl, .inr ⟨rfl, ds, fs, ord, nn, h⟩⟩
  | cons m0 mr =>
    have hl := h.gm.ml
    have hnb := h.nb
    refine (ho.pop (by rw [hm]; simp) (by omega)).mono ?_
    rintro e w' ⟨x, hx, rfl, hle, F', g1, g2, g3⟩
    obtain ⟨q, hq, hk, hb, hr, hno, hD⟩ := h.dj.pop hx hle
    rw [cfl_eq hr, hk]
    refine ⟨_, _, _, rfl, .inl ⟨rfl, q, rfl, ds, fs, ord ++ [q], without x.key ms, nn, ⟨h.gm.heap hF g1 g2 g3 (Nat.le_trans (List.length_filter_le _ _) hl), hD, hq, by simp, hb, by rw [List.length_append, List.length_singleton]; omega⟩, by rw [List.length_append, List.length_singleton]; omega⟩⟩
/-- What offer answers of the k-th way y. -/
def OffAns (w : World) (p : Nat) (s : Int) (dv fv : Value) (ph : Nat) (st : Nat) (ds : List DiV) (fs : List Int) (ord : List Nat) (ms : List EntF) (nn q c : Nat) (r : Bool) (W : World) : Prop :=
  (r = true ∧ q ∉ ord ∧ q ≠ st ∧ (farAt ds q = false → c ≤ bitsAt ds q) ∧ ∃ ms' nn', GM w p s dv fv ph ds fs ms' nn' W ∧ nn' ≤ nn + 1 ∧ (∀ x ∈ ms', (x.key = (q : Int) ∧ x.rank = c) ∨ (x.key ≠ (q : Int) ∧ x ∈ ms)) ∧ (∃ x ∈ ms', x.key = (q : Int)) ∧ ∀ x ∈ ms, x.key ≠ (q : Int) → ∃ z ∈ ms', z.key = x.key) ∨
  (r = false ∧ GM w p s dv fv ph ds fs ms nn W ∧ farAt ds q = false ∧ bitsAt ds q ≤ c)
theorem offT {g m cp q cc : Nat} (h : GS w p s (.slice (some ⟨g, 0, none⟩) m cp) fv ph ys Wy st ds fs ord ms nn at_ k c W) (hG : GK ys Wy) (hb : Below W.heap.size W W') {y : WyV} (hy : (Wy at_)[k]? = some y) (eq_ : y.2.1 = q) (ec : cc = M.addC c y.2.2) :
    Calls Tryz.prog 79 #[.pointer (some ⟨p, 0, none⟩), .pointer (some ⟨ph, 0, none⟩), .int .i64 (q : Nat), .float .f32 cc] W' fun e w' => ∃ r, e = .returned (.bool r) ∧ Hid (OffAns w p s (.slice (some ⟨g, 0, none⟩) m cp) fv ph st ds fs ord ms nn q cc r w' ∧ ∀ b, W.heap.size ≤ b → b < W'.heap.size → w'.heap[b]? = W'.heap[b]?) := by
  obtain ⟨F, ho, hF⟩ := h.gm.on
  have h' := h.gm.below hb
  have ho' := ho.kept (fun j hj => hb.block j (ho.lt hj))
  have hlt : ∀ j, F j → j < W.heap.size := fun j hj => ho.lt hj
  have hyin := hG.win at_ y (List.mem_of_getElem? hy)
  rw [eq_] at hyin
  have hcI : cc ≤ 2139095040 := by rw [ec, ← h.cst]; exact M.addC_le (h.dj.le_ at_) hyin.2
  have hn := hG.len
  have hol := h.dj.ordl
  have hnb := h.nb
  have hml := h.gm.ml
  have hwl := hG.wl at_
  have hkl := (List.getElem?_eq_some_iff.1 hy).1
  obtain ⟨d, hd⟩ : ∃ d, ds[q]? = some d := ⟨_, List.getElem?_eq_getElem (by rw [h.dj.dl]; exact hyin.1)⟩
  have hdd : ds.getD q d0 = d := by rw [List.getD_eq_getElem?_getD, hd]; rfl
  have ok : KeyOkF (q : Int) := okF (by omega)
  have hsnap : ∀ (w' : World) , Turned F W' w' → ∀ b, W.heap.size ≤ b → b < W'.heap.size → w'.heap[b]? = W'.heap[b]? := fun w' ht b h1 h2 => ht.block b h2 (fun z => by have := hlt b z; omega)
  cases hf : d.2.1 with
  | true =>
    have hfar : farAt ds q = true := by unfold farAt; rw [hdd]; exact hf
    have hnin : ∀ x ∈ ms, x.key ≠ (q : Int) := fun x hx e => by
      obtain ⟨p2, -, e2, e3, -⟩ := h.dj.min_ x hx
      have : p2 = q := by rw [e] at e2; exact_mod_cast e2.symm
      rw [this, hfar] at e3; cases e3
    have C := ho'.push (q : Int) cc ok hnin (by omega) (by omega)
    rw [cfl_eq hcI] at C
    refine (offerS (r := true) (Q := fun w' => OffAns w p s (.slice (some ⟨g, 0, none⟩) m cp) fv ph st ds fs ord ms nn q cc true w' ∧ ∀ b, W.heap.size ≤ b → b < W'.heap.size → w'.heap[b]? = W'.heap[b]?) h'.tr hd (fun _ => C.mono ?_) (fun z => by rw [hf] at z; cases z)).mono (fun _ _ ⟨e1, e2⟩ => ⟨_, e1, e2⟩)
    rintro e w' ⟨rfl, F', g1, g2, g3⟩
    refine ⟨rfl, .inl ⟨rfl, fun z => ?_, fun z => ?_, fun z => ?_, ms ++ [⟨(q : Int), cc, nn⟩], nn + 1, h'.heap hF g1 g2 g3 (by rw [List.length_append, List.length_singleton]; omega), Nat.le_refl _, fun x hx => ?_, ⟨⟨(q : Int), cc, nn⟩, by simp, rfl⟩, fun x hx _ => ⟨x, List.mem_append.2 (.inl hx), rfl⟩⟩, hsnap _ g2⟩
    · have := (h.dj.oin q z).2.1
      rw [hfar] at this; cases this
    · have := h.dj.src.2.1
      rw [← z, hfar] at this; cases this
    · rw [hfar] at z; cases z
    · rcases List.mem_append.1 hx with z | z
      · exact .inr ⟨hnin x z, z⟩
      · rw [List.mem_singleton.1 z]; exact .inl ⟨rfl, rfl⟩
  | false =>
    have hfar : farAt ds q = false := by unfold farAt; rw [hdd]; exact hf
    rcases h.dj.cov q hyin.1 hfar with hord | ⟨x, hx, hxk⟩
    · have hnin : ∀ x ∈ ms, x.key ≠ (q : Int) := (h.dj.oin q hord).2.2
      have C := ho'.lowerOut (q : Int) cc ok hnin
      rw [cfl_eq hcI] at C
      refine (offerS (r := false) (Q := fun w' => OffAns w p s (.slice (some ⟨g, 0, none⟩) m cp) fv ph st ds fs ord ms nn q cc false w' ∧ ∀ b, W.heap.size ≤ b → b < W'.heap.size → w'.heap[b]? = W'.heap[b]?) h'.tr hd (fun z => by rw [hf] at z; cases z) (fun _ => C.mono ?_)).mono (fun _ _ ⟨e1, e2⟩ => ⟨_, e1, e2⟩)
      rintro e w' ⟨rfl, q1, rfl⟩
      refine ⟨rfl, .inr ⟨rfl, h'.below (below_drewN (Below.refl _ _) q1), hfar, ?_⟩, fun b _ _ => rfl⟩
      have := h.dj.settled h.an hord hyin.2
      rw [h.cst] at this
      rw [ec]; exact this
    · have C := ho'.lower hx cc (by omega)
      rw [cfl_eq hcI, hxk] at C
      obtain ⟨p2, -, e2, -, e4⟩ := h.dj.min_ x hx
      have hp2 : p2 = q := by rw [hxk] at e2; exact_mod_cast e2.symm
      rw [hp2] at e4
      have hxr : x.rank ≤ 2139095040 := by rw [← e4]; exact h.dj.le_ q
      have hgf : gf cc < gf x.rank ↔ cc < x.rank := by unfold gf; rw [cfl_eq hcI, cfl_eq hxr]; omega
      have hnq : q ∉ ord := fun z => (h.dj.oin q z).2.2 x hx hxk
      refine (offerS (r := decide (gf cc < gf x.rank)) (Q := fun w' => OffAns w p s (.slice (some ⟨g, 0, none⟩) m cp) fv ph st ds fs ord ms nn q cc (decide (gf cc < gf x.rank)) w' ∧ ∀ b, W.heap.size ≤ b → b < W'.heap.size → w'.heap[b]? = W'.heap[b]?) h'.tr hd (fun z => by rw [hf] at z; cases z) (fun _ => C.mono ?_)).mono (fun _ _ ⟨e1, e2⟩ => ⟨_, e1, e2⟩)
      rintro e w' ⟨rfl, g1, g2⟩
      refine ⟨rfl, ?_, hsnap _ g2⟩
      by_cases hc : gf cc < gf x.rank
      · rw [if_pos hc] at g1
        rw [decide_eq_true hc]
        have hc2 := hgf.1 hc
        refine .inl ⟨rfl, hnq, fun z => ?_, fun _ => by omega, lowered (q : Int) cc ms, nn, h'.heap hF g1 g2 (fun _ => .inl) (by unfold lowered; rw [List.length_map]; exact hml), by omega, fun z hz => ?_, ?_, fun z hz _ => lowered_mem hz⟩
        · have := h.dj.src.2.2.1
          rw [← z] at this; omega
        · obtain ⟨v, hv, v1, v2, v3⟩ := mem_lowered hz
          by_cases e : v.key = (q : Int)
          · exact .inl ⟨v1.trans e, v2 e⟩
          · exact .inr ⟨by rw [v1]; exact e, by rw [v3 e]; exact hv⟩
        · obtain ⟨z, hz, hzk⟩ := lowered_mem (k := (q : Int)) (r := cc) hx
          exact ⟨z, hz, hzk.trans hxk⟩
      · rw [if_neg hc] at g1
        rw [decide_eq_false hc]
        have hc2 := fun z => hc (hgf.2 z)
        exact .inr ⟨rfl, h'.heap hF g1 g2 (fun _ => .inl) hml, hfar, by omega⟩
/-- A way that leads no nearer. -/
theorem GS.skip (h : GS w p s dv fv ph ys Wy st ds fs ord ms nn at_ k c W) {y : WyV} {q cc : Nat} (hy : (Wy at_)[k]? = some y) (eq_ : y.2.1 = q) (ec : cc = M.addC c y.2.2) (hm : GM w p s dv fv ph ds fs ms nn W') (hf : farAt ds q = false) (hb : bitsAt ds q ≤ cc) : GS w p s dv fv ph ys Wy st ds fs ord ms nn at_ (k + 1) c W' :=
  ⟨hm, h.dj.skip hy (by rw [eq_]; exact hf) (by rw [eq_, h.cst, ← ec]; exact hb), h.an, h.ao, h.cst, by have := h.nb; omega⟩
/-- lead, behind an offer that was taken. -/
theorem leadT {g m cp gf_ mf cf_ q cc wt : Nat} {e : Int} (h : GS w p s (.slice (some ⟨g, 0, none⟩) m cp) (.slice (some ⟨gf_, 0, none⟩) mf cf_) ph ys Wy st ds fs ord ms nn at_ k c W) (hG : GK ys Wy) (hy : (Wy at_)[k]? = some (e, q, wt)) (ec : cc = M.addC c wt) (ho : OffAns w p s (.slice (some ⟨g, 0, none⟩) m cp) (.slice (some ⟨gf_, 0, none⟩) mf cf_) ph st ds fs ord ms nn q cc true W') :
    Calls Tryz.prog 80 #[.pointer (some ⟨p, 0, none⟩), .int .i64 (at_ : Nat), .agg #[.int .i64 e, .int .i64 (q : Nat), .float .f32 wt], .float .f32 cc] W' fun r w' => r = .returned (.tuple #[]) ∧ Hid (∃ ds' fs' ms' nn', GS w p s (.slice (some ⟨g, 0, none⟩) m cp) (.slice (some ⟨gf_, 0, none⟩) mf cf_) ph ys Wy st ds' fs' ord ms' nn' at_ (k + 1) c w') := by
  obtain ⟨-, hqo, hqs, hlow, ms', nn', hgm, hnn, m1, m2, m3⟩ | ⟨hx, -⟩ := ho
  · have hyin := hG.win at_ _ (List.mem_of_getElem? hy)
    have hcI : cc ≤ 2139095040 := by rw [ec, ← h.cst]; exact M.addC_le (h.dj.le_ at_) hyin.2
    obtain ⟨⟨v, fa, b0, e0⟩, hd⟩ : ∃ d, ds[q]? = some d := ⟨_, List.getElem?_eq_getElem (by rw [h.dj.dl]; exact hyin.1)⟩
    have hdd : ds.getD q d0 = (v, fa, b0, e0) := by rw [List.getD_eq_getElem?_getD, hd]; rfl
    refine (leadS (at_ := (at_ : Int)) (e := e) (wt := wt) hgm hd (by rw [h.dj.fl]; exact hyin.1) hcI).mono ?_
    rintro r w' ⟨rfl, hg2⟩
    have hD := h.dj.lead (ms' := ms') (v := v) h.an h.ao hy hyin.1 hyin.2 hqo hqs (by rw [h.cst, ← ec]; exact hlow) (by rw [hdd]) (by rw [h.cst, ← ec]; exact m1) m2 m3
    rw [h.cst, ← ec] at hD
    refine ⟨rfl, _, _, ms', nn', unhide hg2, hD, h.an, h.ao, ?_, by have := h.nb; omega⟩
    have hql : q < ds.length := (List.getElem?_eq_some_iff.1 hd).1
    have hne : at_ ≠ q := fun z => hqo (by rw [← z]; exact h.ao)
    rw [← h.cst]
    unfold bitsAt
    rw [getD_set hql, if_neg hne]
  · cases hx
end
end

end Go.Proofs.YtbmcibofecigeaaGreat
