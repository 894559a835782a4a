/- The search: leave. -/
import Derived.Test.YtdpdghhieokcfaaSea94
namespace Go.Proofs.Ytdpdghhieokcfaa
open Go.RowKit Go.Maps T9
section
variable {L : Nat → Nat} {s : St} {kv ov nv hv tv lv rv : Value} {w w' w0 : World} {nx : Nat → List Nat} {sb n : Nat}
theorem SMem.trailAt {F : SF} (h : SMem F L s kv ov w) {rest : List Nat} {a : Nat} (e : s.tl = a :: rest) : ∃ gk ck, kv = .slice (some ⟨gk, 0, none⟩) (rest.length + 1) ck ∧ rest.length + 1 ≤ ck ∧ w.cell? ⟨gk, rest.length, none⟩ = some (.int .i64 (a : Nat)) := by
  have hr := h.kr
  rw [e] at hr
  obtain ⟨x, ck, ev, hc⟩ := brow_shape hr
  rw [bk_len] at ev hc
  rw [ev] at hr
  obtain ⟨gk, rfl⟩ := brow_some hr (by rw [bk_len]; simp)
  exact ⟨gk, ck, by rw [ev]; rfl, by simpa using hc, brow_at hr (bk_top a rest)⟩
theorem SMem.cutTrail {F : SF} {gk m ck : Nat} (h : SMem F L s (.slice (some ⟨gk, 0, none⟩) m ck) ov w) {rest : List Nat} {a : Nat} (e : s.tl = a :: rest) (hm : rest.length ≤ m) : SMem F L { s with tl := rest } (.slice (some ⟨gk, 0, none⟩) rest.length ck) ov (w.setCell ⟨F.sb, 6, none⟩ (.slice (some ⟨gk, 0, none⟩) rest.length ck)) := by
  have hr := h.kr
  rw [e] at hr
  have h2 := brow_take hr hm
  rw [bk_take] at h2
  exact h.setK h2 (fun b eb => h.l6 b eb)
set_option maxHeartbeats 4000000 in
set_option maxRecDepth 100000 in
theorem leaveShut {F : SF} (h : SMem F L s kv ov w) {a : Nat} {rest l1 op' : List Nat} (ht : s.tl = a :: rest) (e : s.op = l1 ++ a :: op') (hla : s.lo a = s.tu a) (ha : a ∉ l1) (hb : ∀ p ∈ s.op, p < F.n) (hn : F.n ≤ 1000000) (ho : s.op.length ≤ 1000000) (hk : s.tl.length ≤ 1000000) :
    Calls Try.prog 64 #[.pointer (some ⟨F.sb, 0, none⟩), .int .i64 a] w fun r w' => r = .returned (.tuple #[]) ∧ Hid (∃ m, m ∈ l1 ++ [a] ∧ (∀ x ∈ l1 ++ [a], m ≤ x) ∧ SM F (s.close m rest (l1 ++ [a]) op') w') := by
  have han : a < F.n := hb a (by rw [e]; simp)
  obtain ⟨sb, nv, gh, ch, gt, ct, gl, cl, gr, cr, n, w0, rfl⟩ := SF.shape h (by omega)
  obtain ⟨gk, ck, rfl, hck, -⟩ := h.trailAt ht
  obtain ⟨w1, E3⟩ : ∃ w1, w1 = (w.setCell ⟨sb, 6, none⟩ (.slice (some ⟨gk, 0, none⟩) rest.length ck)).drew := ⟨_, rfl⟩
  have h1 : SMem ⟨sb, nv, .slice (some ⟨gh, 0, none⟩) n ch, .slice (some ⟨gt, 0, none⟩) n ct, .slice (some ⟨gl, 0, none⟩) n cl, .slice (some ⟨gr, 0, none⟩) n cr, n, w0⟩ L { s with tl := rest } (.slice (some ⟨gk, 0, none⟩) rest.length ck) ov w1 := by rw [E3]; exact (h.cutTrail ht (by omega)).drew 1
  dsimp only at han hn hb ⊢
  have hn0 : 0 < n := by omega
  obtain ⟨-, -, -, -, -, -, c6, -, cf⟩ := h.cells
  have CC : Hid (∀ q, Calls Try.prog 75 #[.pointer (some ⟨sb, 0, none⟩), .int .i64 a] (w1.drewN q) fun r w' => r = .returned (.tuple #[]) ∧ Hid (ClAns ⟨sb, nv, .slice (some ⟨gh, 0, none⟩) n ch, .slice (some ⟨gt, 0, none⟩) n ct, .slice (some ⟨gl, 0, none⟩) n cl, .slice (some ⟨gr, 0, none⟩) n cr, n, w0⟩ { s with tl := rest } l1 op' a w')) := fun q => closeFromS (h1.drew q) e ha hb hn ho
  have zr : rest.length + 1 ≤ 1000000 := by rw [ht] at hk; simpa using hk
  obtain ⟨R1, hR1⟩ : ∃ R1, R1 = rest.length + 1 := ⟨_, rfl⟩
  have hw1 : IntKind.i64.wrap ((R1 : Int) - 1) = (rest.length : Int) := by rw [IntKind.wrap_i64]; omega
  have z1 : (rest.length : Int) ≤ (ck : Int) := by omega
  have z2 : (a : Int) < (n : Int) := by omega
  rw [← hR1] at c6
  obtain ⟨-, -, d2, d3, -, -, -, -, df⟩ := h1.cells
  have t1 : w1.cell? ⟨gt, a, none⟩ = some (.int .i64 (s.tu a : Nat)) := (h1.atT hn0).2.1 a han
  have l1' : w1.cell? ⟨gl, a, none⟩ = some (.int .i64 (s.lo a : Nat)) := (h1.atL hn0).2.1 a han
  rw [hla] at l1'
  generalize s.tu a = ta at *
  generalize rest.length = R at *
  have HE3 := hide E3
  clear h h1 ht e hla ha hb hn ho hk han hck hn0 zr hR1 E3
  go_enter Try.func64, Try.ntmps64
  go_wp2_with fail
  go_region
  rw [← unhide HE3]
  clear c6 cf hw1
  go_wp2_with fail
  go_quiet (fail)
  go_wp2_with fail
  refine (unhide CC _).mono ?_
  rintro r w2 ⟨rfl, hh⟩
  go_wp2_with fail
  refine bodyPost_ret (results_none rfl _ _ _) rfl ?_
  obtain ⟨m, m1, m2, m3⟩ := unhide hh
  exact ⟨rfl, m, m1, m2, m3⟩
set_option maxHeartbeats 4000000 in
set_option maxRecDepth 100000 in
theorem leaveBack {F : SF} (h : SMem F L s kv ov w) {a b : Nat} {rest : List Nat} (ht : s.tl = a :: b :: rest) (hla : s.lo a ≠ s.tu a) (ha : a < F.n) (hb : b < F.n) (hn : F.n ≤ 1000000) (hk : s.tl.length ≤ 1000000) :
    Calls Try.prog 64 #[.pointer (some ⟨F.sb, 0, none⟩), .int .i64 a] w fun r w' => r = .returned (.tuple #[]) ∧ Hid (SM F (s.back b (min (s.lo b) (s.lo a)) rest) w') := by
  obtain ⟨sb, nv, gh, ch, gt, ct, gl, cl, gr, cr, n, w0, rfl⟩ := SF.shape h (by omega)
  obtain ⟨gk, ck, rfl, hck, -⟩ := h.trailAt ht
  obtain ⟨w1, E3⟩ : ∃ w1, w1 = (w.setCell ⟨sb, 6, none⟩ (.slice (some ⟨gk, 0, none⟩) (b :: rest).length ck)).drew := ⟨_, rfl⟩
  have h1 : SMem ⟨sb, nv, .slice (some ⟨gh, 0, none⟩) n ch, .slice (some ⟨gt, 0, none⟩) n ct, .slice (some ⟨gl, 0, none⟩) n cl, .slice (some ⟨gr, 0, none⟩) n cr, n, w0⟩ L { s with tl := b :: rest } (.slice (some ⟨gk, 0, none⟩) (b :: rest).length ck) ov w1 := by rw [E3]; exact (h.cutTrail ht (by omega)).drew 1
  obtain ⟨_, _, e1, -, x1⟩ := h1.trailAt (a := b) (rest := rest) rfl
  injection e1 with e1 e2 e3
  injection e1 with e1
  injection e1 with e1
  subst e1 e3
  dsimp only at ha hb hn ⊢
  have hn0 : 0 < n := by omega
  obtain ⟨-, -, -, -, -, -, c6, -, cf⟩ := h.cells
  have zr : rest.length + 2 ≤ 1000000 := by rw [ht] at hk; simpa using hk
  obtain ⟨R1, hR1⟩ : ∃ R1, R1 = (b :: rest).length := ⟨_, rfl⟩
  obtain ⟨R2, hR2⟩ : ∃ R2, R2 = R1 + 1 := ⟨_, rfl⟩
  have hR1' : R1 = rest.length + 1 := by rw [hR1]; rfl
  have hw1 : IntKind.i64.wrap ((R2 : Int) - 1) = (R1 : Int) := by rw [IntKind.wrap_i64]; omega
  have hw2 : IntKind.i64.wrap ((R1 : Int) - 1) = (rest.length : Int) := by rw [IntKind.wrap_i64]; omega
  have z1 : (R1 : Int) ≤ (ck : Int) := by omega
  have z2 : (a : Int) < (n : Int) := by omega
  have z3 : (b : Int) < (n : Int) := by omega
  have z4 : (rest.length : Int) < (R1 : Int) := by omega
  rw [← hR1, ← hR2] at c6
  rw [← hR1] at h1 E3
  obtain ⟨-, -, d2, d3, -, -, d6, -, df⟩ := h1.cells
  obtain ⟨y1, y2, y3⟩ := h1.atL hn0
  have t1 : w1.cell? ⟨gt, a, none⟩ = some (.int .i64 (s.tu a : Nat)) := (h1.atT hn0).2.1 a ha
  have l1' : w1.cell? ⟨gl, a, none⟩ = some (.int .i64 (s.lo a : Nat)) := y2 a ha
  have hz : (((s.lo a : Nat) : Int) == ((s.tu a : Nat) : Int)) = false := by simp; omega
  have H1 := hide h1
  have HB := hide (And.intro ha (And.intro hb hn0))
  have HM : Hid (min ((s.lo b : Nat) : Int) ((s.lo a : Nat) : Int) = ((min (s.lo b) (s.lo a) : Nat) : Int)) := by show min ((s.lo b : Nat) : Int) ((s.lo a : Nat) : Int) = ((min (s.lo b) (s.lo a) : Nat) : Int); omega
  obtain ⟨R, hR⟩ : ∃ R, R = rest.length := ⟨_, rfl⟩
  rw [← hR] at hw2 z4 x1
  generalize hmm : min (s.lo b) (s.lo a) = mm at *
  have HE3 := hide E3
  clear h h1 ht hla hn hk hck hn0 zr hR1 hR1' hR2 y1 y2 y3 e2 hR E3
  go_enter Try.func64, Try.ntmps64
  go_wp2_with fail
  go_region
  rw [← unhide HE3]
  clear c6 cf hw1
  go_wp2_with fail
  go_quiet (fail)
  go_wp2_with fail
  have h2 := (unhide H1).drew nq
  have x2 : (w1.drewN nq).cell? ⟨gk, R, none⟩ = some (.int .i64 (b : Nat)) := x1
  clear H1 x1 d2 d3 d6 df t1 l1' hz HE3
  generalize w1.drewN nq = w2 at *
  obtain ⟨-, -, -, -, -, -, d6, -, -⟩ := h2.cells
  have H2 := hide h2
  clear h2
  go_quiet (fail)
  have h3 := (unhide H2).drew nq
  clear H2 x2 d6 hw2
  generalize w2.drewN nq = w3 at *
  obtain ⟨ha, hb, hn0⟩ := unhide HB
  obtain ⟨-, -, -, d3, -, -, -, -, df⟩ := h3.cells
  obtain ⟨y1, y2, y3⟩ := h3.atL hn0
  have ya : w3.cell? ⟨gl, a, none⟩ = some (.int .i64 (s.lo a : Nat)) := y2 a ha
  have yb : w3.cell? ⟨gl, b, none⟩ = some (.int .i64 (s.lo b : Nat)) := y2 b hb
  have HG := hide ((h3.setL (g := gl) (m := n) (c := cl) rfl hb mm).drew 1)
  generalize s.lo a = la at *
  generalize s.lo b = lb at *
  clear h3 ha hb hn0 y2 HB z4 hmm
  go_wp2_with fail
  go_region
  go_wp2_with fail
  go_end0
  exact ⟨rfl, by rw [unhide HM]; exact ⟨_, _, _, unhide HG⟩⟩
end
end Go.Proofs.Ytdpdghhieokcfaa
