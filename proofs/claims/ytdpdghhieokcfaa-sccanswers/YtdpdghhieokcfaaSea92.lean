/- The search: enter, tryArc. -/
import Derived.Test.YtdpdghhieokcfaaSea9
import Derived.BigRegion
namespace Go.Proofs.Ytdpdghhieokcfaa
open Go.RowKit Go.Maps T9
section
variable {F : SF} {L : Nat → Nat} {s : St} {kv ov : Value} {w w' : World}
/-- All that enter does to memory. -/
theorem SMem.entered (h : SMem F L s kv ov w) {p : Nat} (hp : p < F.n) (hk : s.tl.length ≤ 1000000) (ho : s.op.length ≤ 1000000) :
    ∃ gt ct gl cl, F.tv = .slice (some ⟨gt, 0, none⟩) F.n ct ∧ F.lv = .slice (some ⟨gl, 0, none⟩) F.n cl ∧ ∃ w3 ka kn kc w4 oa on oc w6,
      w3 = (((w.setCell ⟨F.sb, 5, none⟩ (.int .i64 (s.turn + 1 : Nat))).setCell ⟨gt, p, none⟩ (.int .i64 (s.turn + 1 : Nat))).setCell ⟨gl, p, none⟩ (.int .i64 (s.turn + 1 : Nat))).drew ∧
      (w.setCell ⟨F.sb, 5, none⟩ (.int .i64 (s.turn + 1 : Nat))).heap[F.sb]? = some (oS F.nv F.hv F.tv F.lv F.rv (s.turn + 1) kv ov) ∧
      ((∀ o, (w.setCell ⟨F.sb, 5, none⟩ (.int .i64 (s.turn + 1 : Nat))).frozen? ⟨gt, o, none⟩ = false) ∧ (∀ o, (w.setCell ⟨F.sb, 5, none⟩ (.int .i64 (s.turn + 1 : Nat))).frozen? ⟨gl, o, none⟩ = false)) ∧
      ((w.setCell ⟨F.sb, 5, none⟩ (.int .i64 (s.turn + 1 : Nat))).cell? ⟨gt, p, none⟩ = some (.int .i64 (s.tu p : Nat)) ∧ (w.setCell ⟨F.sb, 5, none⟩ (.int .i64 (s.turn + 1 : Nat))).cell? ⟨gl, p, none⟩ = some (.int .i64 (s.lo p : Nat)) ∧ gt ≠ F.sb ∧ gl ≠ F.sb ∧ gt ≠ gl) ∧
      w3.heap[F.sb]? = some (oS F.nv F.hv F.tv F.lv F.rv (s.turn + 1) kv ov) ∧
      (∀ ty, (Builtin.append_ #[22, 22] ty #[kv, .slice (some ⟨w3.heap.size, 0, none⟩) 1 1]).run Try.prog (w3.alloc (.cells #[.int .i64 (p : Nat)] 3)) = .ok (.slice ka kn kc) w4) ∧
      w4.heap[F.sb]? = some (oS F.nv F.hv F.tv F.lv F.rv (s.turn + 1) kv ov) ∧
      (w4.setCell ⟨F.sb, 6, none⟩ (.slice ka kn kc)).heap[F.sb]? = some (oS F.nv F.hv F.tv F.lv F.rv (s.turn + 1) (.slice ka kn kc) ov) ∧
      (∀ ty, (Builtin.append_ #[22, 22] ty #[ov, .slice (some ⟨(w4.setCell ⟨F.sb, 6, none⟩ (.slice ka kn kc)).heap.size, 0, none⟩) 1 1]).run Try.prog ((w4.setCell ⟨F.sb, 6, none⟩ (.slice ka kn kc)).alloc (.cells #[.int .i64 (p : Nat)] 3)) = .ok (.slice oa on oc) w6) ∧
      w6.heap[F.sb]? = some (oS F.nv F.hv F.tv F.lv F.rv (s.turn + 1) (.slice ka kn kc) ov) ∧
      SM F (s.enter p) (w6.setCell ⟨F.sb, 7, none⟩ (.slice oa on oc)) := by
  obtain ⟨gt, ct, et, ft⟩ := row_slice h.tr (by omega)
  obtain ⟨gl, cl, el, fl⟩ := row_slice h.lr (by omega)
  have h1 := h.setTurn (s.turn + 1)
  have h2 := h1.setT et hp (s.turn + 1)
  have h3 := (h2.setL el hp (s.turn + 1)).drew 1
  have eL3 := h.l3 gt (by rw [et]; rfl)
  have eL4 := h.l4 gl (by rw [el]; rfl)
  have eL1 := h.l1
  obtain ⟨ka, kn, kc, w4, r4, b4, t4, n4⟩ := run_app8 (p : Int) h3.kr h3.size (by rw [bk_len]; show s.tl.length ≤ _; omega)
  rw [← bk_cons] at b4
  obtain ⟨k4, -, h5⟩ := h3.appK b4 t4 n4
  obtain ⟨oa, on, oc, w6, r6, b6, t6, n6⟩ := run_app8 (p : Int) h5.or_ h5.size (by rw [bk_len]; show s.op.length ≤ _; omega)
  rw [← bk_cons] at b6
  obtain ⟨k6, h7⟩ := h5.appO b6 t6 n6
  exact ⟨gt, ct, gl, cl, et, el, _, ka, kn, kc, w4, oa, on, oc, w6, rfl, h1.box, ⟨(ft _ h1.tr).1, (fl _ h1.lr).1⟩, ⟨(ft _ h1.tr).2 p hp, (fl _ h1.lr).2 p hp, fun e => by rw [e, eL1] at eL3; omega, fun e => by rw [e, eL1] at eL4; omega, fun e => by rw [e, eL4] at eL3; omega⟩, h3.box, r4, k4, h5.box, r6, k6, h7⟩

set_option maxHeartbeats 4000000 in
set_option maxRecDepth 100000 in
theorem enterS (h : SMem F L s kv ov w) {p : Nat} (hp : p < F.n) (_hn : F.n ≤ 1000000) (ht : s.turn ≤ 1000000) (hk : s.tl.length ≤ 1000000) (ho : s.op.length ≤ 1000000) :
    Calls Try.prog 62 #[.pointer (some ⟨F.sb, 0, none⟩), .int .i64 p] w fun r w' => r = .returned (.tuple #[]) ∧ Hid (SM F (s.enter p) w') := by
  obtain ⟨gt, ct, gl, cl, et, el, w3, ka, kn, kc, w4, oa, on, oc, w6, e3, k1, ⟨ft, fl⟩, ⟨q1, q2, q3, q4, q5⟩, k3, r4, k4, k5, r6, k6, hG⟩ := h.entered hp hk ho
  have HR4 := hide r4
  have HR6 := hide r6
  have HG := hide hG
  obtain ⟨-, -, -, -, -, c5, -, -, cf⟩ := cellsS h.box
  rw [et, el] at k1 k3 k4 k5 k6
  obtain ⟨-, -, d2, d3, -, d5, -, -, df⟩ := cellsS k1
  obtain ⟨-, -, -, -, -, -, x6, -, xf⟩ := cellsS k3
  obtain ⟨-, -, -, -, -, -, y6, -, yf⟩ := cellsS k4
  obtain ⟨-, -, -, -, -, -, -, z7, zf⟩ := cellsS k5
  obtain ⟨-, -, -, -, -, -, -, u7, uf⟩ := cellsS k6
  have hw1 : wrap64 ((s.turn : Int) + 1) = ((s.turn + 1 : Nat) : Int) := by unfold wrap64; omega
  have hq3 : ¬ gt = F.sb := q3
  have hq4 : ¬ gl = F.sb := q4
  have hq5 : ¬ gt = gl := q5
  have hq3' : ¬ F.sb = gt := fun e => q3 e.symm
  have hq4' : ¬ F.sb = gl := fun e => q4 e.symm
  have hq5' : ¬ gl = gt := fun e => q5 e.symm
  have hpn : (p : Int) < (F.n : Int) := by omega
  have hp0 : (0 : Int) ≤ (p : Int) := by omega
  generalize F.n = n at *
  generalize F.sb = sb at *
  generalize s.turn + 1 = t1 at *
  generalize s.turn = t0 at *
  have E3 := hide e3
  clear h hp _hn ht hk ho r4 r6 hG k1 k3 k4 k5 k6 q3 q4 q5 et el e3
  go_enter Try.func62, Try.ntmps62
  go_upto_region 1 with fail
  clear c5 cf hw1
  generalize w.setCell ⟨sb, 5, none⟩ (.int .i64 (t1 : Nat)) = w1 at *
  go_region
  clear q1 q2 ft fl
  rw [← unhide E3]
  clear d2 d3 d5 df E3
  go_upto_region 3 with (at_builtin; refine Lib.wpList_append_run _ rfl _ _ 22 22 rfl _ _ rfl rfl _ _ (unhide HR4 _) ?_)
  clear HR4 x6 xf y6 yf
  generalize w4.setCell ⟨sb, 6, none⟩ (.slice ka kn kc) = w5 at *
  go_wp2_with (at_builtin; refine Lib.wpList_append_run _ rfl _ _ 22 22 rfl _ _ rfl rfl _ _ (unhide HR6 _) ?_)
  go_end0
  exact ⟨rfl, HG⟩
end
end Go.Proofs.Ytdpdghhieokcfaa
