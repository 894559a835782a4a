/- Decode: what is read, or the error where the reader gives up. -/
import Derived.Test.YtagibmgbjhemkaaGreatWi16
import Derived.Defers
import Derived.Recover
namespace Go.Proofs.YtagibmgbjhemkaaGreat.W16
open Go.RowKit Go.Maps
def oE (e : Int) : Obj := .cells #[.int .i64 e] 36
theorem catchPanics (p q : Nat) (a b c d : Value) (x : Int) (w : World) (hp : w.heap[p]? = some (.cells #[a, b, c, d] 35 (0, 0))) (hq : w.heap[q]? = some (oE x)) (_ : p ≠ q) :
    CallsD Tryz.prog 52 #[.pointer (some ⟨p, 0, none⟩), .pointer (some ⟨q, 0, none⟩)] (.panicking gaveUp) w fun e u' w' =>
      e = .returned (.tuple #[]) ∧ u' = .panicking [{ v := .iface 36 (.int .i64 160), recovered := true }] ∧ w' = (set4 w p (.int .i64 0) (.int .i64 0) (.int .u32 0) (.slice none 0 0)).setCell ⟨q, 0, none⟩ (.int .i64 160) := by
  unfold gaveUp oE set4 at *
  have c0 := (cell_of_row _ _ 0 _ _ (0, 0) hp).trans (show #[a, b, c, d][0]? = some a from rfl)
  have c1 := (cell_of_row _ _ 1 _ _ (0, 0) hp).trans (show #[a, b, c, d][1]? = some b from rfl)
  have c2 := (cell_of_row _ _ 2 _ _ (0, 0) hp).trans (show #[a, b, c, d][2]? = some c from rfl)
  have c3 := (cell_of_row _ _ 3 _ _ (0, 0) hp).trans (show #[a, b, c, d][3]? = some d from rfl)
  have f0 := frozen_of_row _ _ 0 _ _ hp
  have f1 := frozen_of_row _ _ 1 _ _ hp
  have f2 := frozen_of_row _ _ 2 _ _ hp
  have f3 := frozen_of_row _ _ 3 _ _ hp
  have d0 := (cell_of_row _ _ 0 _ _ (0, 0) hq).trans (show #[Value.int .i64 x][0]? = some (.int .i64 x) from rfl)
  have g0 := frozen_of_row _ _ 0 _ _ hq
  refine callsD_of_wpS Tryz.func52 rfl fun c₀ cs hu => ?_
  apply wpS_seq
  apply wpS_region
  simp [wpOpsS, go_sem, recoverD, hu, Tryz.ntmps52, Exit.thenS]
  refine wpS_cond (t := true) (by simp [Act.eval, Array.replicate]) ?_
  simp only [if_true]
  apply wpS_region
  simp [wpOpsS, go_sem, c0, c1, c2, c3, f0, f1, f2, f3, d0, g0, bodyPostS, results, Tryz.results52]
theorem catchIdle (p q : Addr) (w : World) :
    CallsD Tryz.prog 52 #[.pointer (some p), .pointer (some q)] .returning w fun e u' w' => e = .returned (.tuple #[]) ∧ u' = .returning ∧ w' = w := by
  refine callsD_of_wpS Tryz.func52 rfl fun c₀ cs hu => ?_
  apply wpS_seq
  apply wpS_region
  simp [wpOpsS, go_sem, recoverD, hu, Tryz.ntmps52, Exit.thenS]
  refine wpS_cond (t := false) (by simp [Act.eval, Array.replicate]) ?_
  simp only [Bool.false_eq_true, if_false]
  refine wpS_of_wp (wp_skip ?_)
  cases c₀
  simp_all [bodyPostS, results, Tryz.results52]
theorem loadE (w : World) (g : Nat) (x : Int) (h : w.heap[g]? = some (oE x)) : (loadVar 36 ⟨g, 0, none⟩).run Tryz.prog w = .ok (.int .i64 x) w := by
  have c0 := (cell_of_row _ _ 0 _ _ (0, 0) h).trans (show #[Value.int .i64 x][0]? = some (.int .i64 x) from rfl)
  simp [go_sem, c0]
theorem three_boxes (w : World) (v : Value) : ((((w.alloc (oW 0 0 0 (.slice none 0 0))).alloc (oE 0)).alloc (.cells #[v] 109)).heap[w.heap.size]? = some (oW 0 0 0 (.slice none 0 0)) ∧ (((w.alloc (oW 0 0 0 (.slice none 0 0))).alloc (oE 0)).alloc (.cells #[v] 109)).heap[w.heap.size + 1]? = some (oE 0)) ∧
    (((w.alloc (oW 0 0 0 (.slice none 0 0))).alloc (oE 0)).alloc (.cells #[v] 109)).heap[w.heap.size + 2]? = some (.cells #[v] 109 (0, 0)) ∧ Below w.heap.size w (((w.alloc (oW 0 0 0 (.slice none 0 0))).alloc (oE 0)).alloc (.cells #[v] 109)) := by
  have s1 : (w.alloc (oW 0 0 0 (.slice none 0 0))).heap.size = w.heap.size + 1 := by simp
  have s2 : ((w.alloc (oW 0 0 0 (.slice none 0 0))).alloc (oE 0)).heap.size = w.heap.size + 2 := by simp
  have b1 := below_new w (oW 0 0 0 (.slice none 0 0))
  have b2 := below_new (w.alloc (oW 0 0 0 (.slice none 0 0))) (oE 0)
  have b3 := below_new ((w.alloc (oW 0 0 0 (.slice none 0 0))).alloc (oE 0)) (.cells #[v] 109)
  refine ⟨⟨(b3.block _ (by omega)).trans ((b2.block _ (by omega)).trans (heap_alloc_new _ _)), (b3.block _ (by omega)).trans ?_⟩, ?_, (b1.trans (b2.mono (by omega))).trans (b3.mono (by omega))⟩
  · have := heap_alloc_new (w.alloc (oW 0 0 0 (.slice none 0 0))) (oE 0)
    rwa [s1] at this
  · have := heap_alloc_new ((w.alloc (oW 0 0 0 (.slice none 0 0))).alloc (oE 0)) (.cells #[v] 109)
    rwa [s2] at this
/-- What is left when the reader has given up. -/
theorem dec_none_mem {w w3 w4 : World} {p q r : Nat} (hp : w3.heap[p]? = some (oW 0 0 0 (.slice none 0 0))) (hq : w3.heap[q]? = some (oE 0)) (hpq : p ≠ q) (hpr : p ≠ r) (hqr : q ≠ r) (hb : Below w.heap.size w w3) (hr : Reads r w3 w4) (h1 : w.heap.size ≤ p) (h2 : w.heap.size ≤ q) (h3 : w.heap.size ≤ r) :
    (w4.heap[p]? = some (oW 0 0 0 (.slice none 0 0)) ∧ w4.heap[q]? = some (oE 0)) ∧
    (loadVar 35 ⟨p, 0, none⟩).run Tryz.prog ((set4 w4 p (.int .i64 0) (.int .i64 0) (.int .u32 0) (.slice none 0 0)).setCell ⟨q, 0, none⟩ (.int .i64 160)) = .ok (.agg #[.int .i64 0, .int .i64 0, .int .u32 0, .slice none 0 0]) ((set4 w4 p (.int .i64 0) (.int .i64 0) (.int .u32 0) (.slice none 0 0)).setCell ⟨q, 0, none⟩ (.int .i64 160)) ∧
    (loadVar 36 ⟨q, 0, none⟩).run Tryz.prog ((set4 w4 p (.int .i64 0) (.int .i64 0) (.int .u32 0) (.slice none 0 0)).setCell ⟨q, 0, none⟩ (.int .i64 160)) = .ok (.int .i64 160) ((set4 w4 p (.int .i64 0) (.int .i64 0) (.int .u32 0) (.slice none 0 0)).setCell ⟨q, 0, none⟩ (.int .i64 160)) ∧
    Below w.heap.size w ((set4 w4 p (.int .i64 0) (.int .i64 0) (.int .u32 0) (.slice none 0 0)).setCell ⟨q, 0, none⟩ (.int .i64 160)) := by
  have e1 := (hr.block p (heap_lt hp) hpr).trans hp
  have e2 := (hr.block q (heap_lt hq) hqr).trans hq
  have hqp : q ≠ p := fun e => hpq e.symm
  have e3 := set4_at e1 (.int .i64 0) (.int .i64 0) (.int .u32 0) (.slice none 0 0)
  have e4 := (set4_other (w := w4) hqp (.int .i64 0) (.int .i64 0) (.int .u32 0) (.slice none 0 0)).trans e2
  refine ⟨⟨e1, e2⟩, loadW _ _ _ _ _ _ ((heap_setCell_other _ _ _ _ hpq).trans e3), loadE _ _ _ ((heap_setCell_same _ _ _ _ _ _ e4).trans rfl), ?_⟩
  have hw4 : Below w.heap.size w w4 := hb.trans (hr.below hb.size (fun k e => by omega))
  have h5 : Below w.heap.size w4 (set4 w4 p (.int .i64 0) (.int .i64 0) (.int .u32 0) (.slice none 0 0)) := (set4_turned (S := fun b => b = p) w4 rfl _ _ _ _).below hw4.size (fun k e => by omega)
  exact (hw4.trans h5).setCell (by exact h2) _
theorem dec_some_mem {w w3 w4 : World} {p q r : Nat} {F T : Int} {u : Nat} {ev : Value} {es : List Int} (hp : w3.heap[p]? = some (oW 0 0 0 (.slice none 0 0))) (hq : w3.heap[q]? = some (oE 0)) (hpq : p ≠ q) (hpr : p ≠ r) (hqr : q ≠ r) (hb : Below w.heap.size w w3) (hr : Reads r w3 w4) (h1 : w.heap.size ≤ p) (h2 : w.heap.size ≤ q) (h3 : w.heap.size ≤ r) (hn : NRow w3.heap.size w4 ev es) :
    (w4.heap[p]? = some (oW 0 0 0 (.slice none 0 0)) ∧ w4.heap[q]? = some (oE 0)) ∧
    (loadVar 35 ⟨p, 0, none⟩).run Tryz.prog ((set4 w4 p (.int .i64 F) (.int .i64 T) (.int .u32 (u : Nat)) ev).setCell ⟨q, 0, none⟩ (.int .i64 0)) = .ok (.agg #[.int .i64 F, .int .i64 T, .int .u32 (u : Nat), ev]) ((set4 w4 p (.int .i64 F) (.int .i64 T) (.int .u32 (u : Nat)) ev).setCell ⟨q, 0, none⟩ (.int .i64 0)) ∧
    (loadVar 36 ⟨q, 0, none⟩).run Tryz.prog ((set4 w4 p (.int .i64 F) (.int .i64 T) (.int .u32 (u : Nat)) ev).setCell ⟨q, 0, none⟩ (.int .i64 0)) = .ok (.int .i64 0) ((set4 w4 p (.int .i64 F) (.int .i64 T) (.int .u32 (u : Nat)) ev).setCell ⟨q, 0, none⟩ (.int .i64 0)) ∧
    Below w.heap.size w ((set4 w4 p (.int .i64 F) (.int .i64 T) (.int .u32 (u : Nat)) ev).setCell ⟨q, 0, none⟩ (.int .i64 0)) ∧ NRow w.heap.size ((set4 w4 p (.int .i64 F) (.int .i64 T) (.int .u32 (u : Nat)) ev).setCell ⟨q, 0, none⟩ (.int .i64 0)) ev es := by
  have e1 := (hr.block p (heap_lt hp) hpr).trans hp
  have e2 := (hr.block q (heap_lt hq) hqr).trans hq
  have hqp : q ≠ p := fun e => hpq e.symm
  have e3 := set4_at e1 (.int .i64 F) (.int .i64 T) (.int .u32 (u : Nat)) ev
  have e4 := (set4_other (w := w4) hqp (.int .i64 F) (.int .i64 T) (.int .u32 (u : Nat)) ev).trans e2
  have hw4 : Below w.heap.size w w4 := hb.trans (hr.below hb.size (fun k e => by omega))
  have h5 : Below w.heap.size w4 (set4 w4 p (.int .i64 F) (.int .i64 T) (.int .u32 (u : Nat)) ev) := (set4_turned (S := fun b => b = p) w4 rfl _ _ _ _).below hw4.size (fun k e => by omega)
  have l1 := heap_lt hp
  have l2 := heap_lt hq
  refine ⟨⟨e1, e2⟩, loadW _ _ _ _ _ _ ((heap_setCell_other _ _ _ _ hpq).trans e3), loadE _ _ _ ((heap_setCell_same _ _ _ _ _ _ e4).trans rfl), (hw4.trans h5).setCell (by exact h2) _, rrow_low (rrow_kept hn (fun b e => ?_)) hb.size⟩
  have := (hn.lt b e).1
  exact (heap_setCell_other _ _ _ _ (by show b ≠ q; omega)).trans (set4_other (by omega) _ _ _ _)
set_option maxHeartbeats 4000000 in
set_option maxRecDepth 100000 in
theorem decodeS {w : World} {v : Value} {bs : List Nat} (h : Lies u8v w v bs) (hb : ∀ x ∈ bs, x < 256) (hl : bs.length ≤ 140737488355328) (ho : ∀ g, v.ownBlock = some g → g < w.heap.size) :
    Calls Tryz.prog 27 #[v] w fun e w' => Hid (DecAns w (decV bs) e w') := by
  have hmf : ∀ (fn : Fn) (first cap : Array Value) (w : World), (Instr.makeFunc fn first cap).run Tryz.prog w = .ok (.func fn first cap) w := fun _ _ _ _ => rfl
  obtain ⟨a, c, rfl⟩ := lies_shape h
  obtain ⟨⟨k1, k2⟩, k3, k4⟩ := three_boxes w (.slice a bs.length c)
  have hrd : RdAt (((w.alloc (oW 0 0 0 (.slice none 0 0))).alloc (oE 0)).alloc (.cells #[.slice a bs.length c] 109)) (w.heap.size + 2) (.slice a bs.length c) bs := ⟨k3, lies_below h k4, fun e => by have := ho _ e; omega⟩
  have CW := hide (witnessS hrd hb hl (fun g e => Nat.lt_of_lt_of_le (ho g e) k4.size))
  have HK := hide (And.intro k1 (And.intro k2 k4))
  generalize bs.length = n at *
  obtain ⟨p0, hp0⟩ : ∃ p0, p0 = w.heap.size := ⟨_, rfl⟩
  have HP := hide hp0
  clear h hrd hb hl ho k1 k2 k3 k4 hp0
  unfold oW oE at *
  go_enter_defers Tryz.func27, Tryz.ntmps27
  go_upto_region 3 with fail
  have e2 : w.heap.size + 1 + 1 = w.heap.size + 2 := rfl
  rw [e2]
  generalize (((w.alloc (Obj.cells #[Value.int IntKind.i64 0, Value.int IntKind.i64 0, Value.int IntKind.u32 0, Value.slice none 0 0] 35)).alloc (Obj.cells #[Value.int IntKind.i64 0] 36)).alloc (Obj.cells #[Value.slice a n c] 109)) = w3 at *
  obtain ⟨k1, k2, k4⟩ := unhide HK
  rw [← unhide HP]
  rw [← unhide HP] at k1 k2 k4 CW
  cases hd : dec bs with
  | none =>
    rw [hd] at CW
    go_wp2_with fail
    refine (unhide CW).mono ?_
    intro e w4 HA
    obtain ⟨rfl, hr⟩ : e = .panicked gaveUp ∧ Reads (p0 + 2) w3 w4 := unhide HA
    have hs := unhide HP
    obtain ⟨⟨q1, q2⟩, q3, q4, q5⟩ := dec_none_mem (w := w) (p := p0) (q := p0 + 1) k1 k2 (by omega) (by omega) (by omega) (by rw [← hs]; exact k4) hr (by omega) (by omega) (by omega)
    have HG : Hid (DecAns w (decV bs) (.returned (.tuple #[.agg #[.int .i64 0, .int .i64 0, .int .u32 0, .slice none 0 0], .int .i64 160])) ((set4 w4 p0 (.int .i64 0) (.int .i64 0) (.int .u32 0) (.slice none 0 0)).setCell ⟨p0 + 1, 0, none⟩ (.int .i64 160))) := by
      show DecAns _ _ _ _
      unfold decV
      rw [hd]
      exact ⟨_, rfl, ⟨rfl, .inl ⟨rfl, rfl⟩⟩, q5⟩
    refine leaves_cons (f := 52) (args := #[.pointer (some ⟨p0, 0, none⟩), .pointer (some ⟨p0 + 1, 0, none⟩)]) (by simp) (by simp [go_sem]) ?_
    refine (catchPanics p0 (p0 + 1) _ _ _ _ 0 w4 q1 q2 (by omega)).mono ?_
    rintro e u' w5 ⟨rfl, rfl, rfl⟩
    exact ⟨_, results_cell_cell rfl _ _ _ ⟨p0, 0, none⟩ ⟨p0 + 1, 0, none⟩ _ _ rfl rfl q3 q4, HG⟩
  | some x =>
    rw [hd] at CW
    go_wp2_with fail
    refine (unhide CW).mono ?_
    intro e w4 HA
    obtain ⟨ev, rfl, hn, hr⟩ := unhide HA
    have hs := unhide HP
    obtain ⟨⟨q1, q2⟩, q3, q4, q5, q6⟩ := dec_some_mem (w := w) (p := p0) (q := p0 + 1) (F := x.1) (T := x.2.1) (u := x.2.2.1) k1 k2 (by omega) (by omega) (by omega) (by rw [← hs]; exact k4) hr (by omega) (by omega) (by omega) hn
    have HG : Hid (DecAns w (decV bs) (.returned (.tuple #[.agg #[.int .i64 x.1, .int .i64 x.2.1, .int .u32 (x.2.2.1 : Nat), ev], .int .i64 0])) ((set4 w4 p0 (.int .i64 x.1) (.int .i64 x.2.1) (.int .u32 (x.2.2.1 : Nat)) ev).setCell ⟨p0 + 1, 0, none⟩ (.int .i64 0))) := by
      show DecAns _ _ _ _
      unfold decV
      rw [hd]
      exact ⟨_, rfl, q6, q5⟩
    obtain ⟨ea, ec, rfl⟩ := rrow_shape hn
    obtain ⟨⟨c0, c1, c2, c3⟩, f0, f1, f2, f3⟩ := oW_cells q1
    have d0 := (cell_of_row _ _ 0 _ _ (0, 0) q2).trans (show #[Value.int .i64 0][0]? = some (.int .i64 0) from rfl)
    have g0 := frozen_of_row _ _ 0 _ _ q2
    have H3 := hide q3
    have H4 := hide q4
    have np : ¬ p0 + 1 = p0 := by omega
    clear CW HA hn hr hs q1 q2 q3 q4 q5 q6 HK k1 k2 k4 HP hd
    obtain ⟨F, T, u, es⟩ := x
    simp only at *
    generalize es.length = en at *
    go_wp2_with fail
    refine leaves_cons (f := 52) (args := #[.pointer (some ⟨p0, 0, none⟩), .pointer (some ⟨p0 + 1, 0, none⟩)]) (by simp) (by simp [go_sem]) ?_
    refine (catchIdle ⟨p0, 0, none⟩ ⟨p0 + 1, 0, none⟩ _).mono ?_
    rintro e u' w5 ⟨rfl, rfl, rfl⟩
    exact ⟨_, results_cell_cell rfl _ _ _ ⟨p0, 0, none⟩ ⟨p0 + 1, 0, none⟩ _ _ rfl rfl (unhide H3) (unhide H4), HG⟩
end Go.Proofs.YtagibmgbjhemkaaGreat.W16
