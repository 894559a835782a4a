/- The search: closeFrom. -/
import Derived.Test.YtdpdghhieokcfaaSea93
namespace Go.Proofs.Ytdpdghhieokcfaa
open Go.RowKit Go.Maps T9
theorem bk_split (l1 : List Nat) (a : Nat) (op' : List Nat) : bk (l1 ++ a :: op') = bk op' ++ pl (a :: l1.reverse) := by simp [bk, pl]
/-- The least of some places. -/
theorem minOf_pl (a : Nat) (l : List Nat) : ∃ m, Lib.minOf (pl (a :: l)) = (m : Nat) ∧ m ∈ a :: l ∧ ∀ x ∈ a :: l, m ≤ x := by
  have key : ∀ (l : List Nat) (a : Nat), ∃ m : Nat, (pl l).foldl min (a : Int) = (m : Nat) ∧ m ∈ a :: l ∧ ∀ x ∈ a :: l, m ≤ x := by
    intro l
    induction l with
    | nil => intro a; exact ⟨a, rfl, by simp, fun x hx => by rw [List.mem_singleton.1 hx]; exact Nat.le_refl _⟩
    | cons y l ih =>
      intro a
      obtain ⟨m, e, hm, hl⟩ := ih (min a y)
      refine ⟨m, ?_, ?_, ?_⟩
      · show (pl l).foldl min (min (a : Int) (y : Int)) = _
        rw [show min (a : Int) (y : Int) = ((min a y : Nat) : Int) by omega]
        exact e
      · rcases List.mem_cons.1 hm with q | q
        · rcases Nat.le_total a y with g | g
          · rw [Nat.min_eq_left g] at q; rw [q]; simp
          · rw [Nat.min_eq_right g] at q; rw [q]; simp
        · simp [q]
      · intro x hx
        have h0 := hl (min a y) (by simp)
        rcases List.mem_cons.1 hx with q | q
        · rw [q]; omega
        · rcases List.mem_cons.1 q with q | q
          · rw [q]; omega
          · exact hl x (by simp [q])
  obtain ⟨m, e, hm, hl⟩ := key (a :: l) a
  refine ⟨m, e, ?_, fun x hx => hl x (by simp [hx])⟩
  rcases List.mem_cons.1 hm with q | q
  · rw [q]; simp
  · exact q
/-- The first k of Z have the head m. -/
def _root_.Go.Proofs.Ytdpdghhieokcfaa.T9.St.headed (s : St) (Z : List Nat) (m : Nat) : St := { s with hd := fun x => if x ∈ Z then some m else s.hd x }
section
variable {L : Nat → Nat} {s : St} {kv ov nv hv tv lv rv : Value} {w w' w0 : World} {nx : Nat → List Nat} {sb n : Nat}
theorem SMem.headed0 {F : SF} (h : SMem F L s kv ov w) (m : Nat) : SMem F L (s.headed [] m) kv ov w := by
  have e : s.headed [] m = s := by unfold St.headed; simp
  rw [e]; exact h
theorem SMem.headed1 {F : SF} {Z : List Nat} {m x : Nat} (h : SMem F L (s.headed Z m) kv ov w) {g k c : Nat} (e : F.hv = .slice (some ⟨g, 0, none⟩) k c) (hx : x < F.n) : SMem F L (s.headed (Z ++ [x]) m) kv ov (w.setCell ⟨g, x, none⟩ (.int .i64 (m : Nat))) := by
  have h2 : SMem F L { s with hd := fun y => if y = x then some m else if y ∈ Z then some m else s.hd y } kv ov (w.setCell ⟨g, x, none⟩ (.int .i64 (m : Nat))) := h.setH e hx m
  have ef : (fun y => if y = x then some m else if y ∈ Z then some m else s.hd y) = fun y => if y ∈ Z ++ [x] then some m else s.hd y := funext fun y => by
    by_cases q : y = x
    · rw [if_pos q, if_pos (by simp [q])]
    · rw [if_neg q]
      by_cases q2 : y ∈ Z
      · rw [if_pos q2, if_pos (by simp [q2])]
      · rw [if_neg q2, if_neg (by simp [q, q2])]
  rw [ef] at h2
  exact h2
/-- The open places as they lie. -/
theorem SMem.opens {F : SF} (h : SMem F L s kv ov w) {l1 op' : List Nat} {a : Nat} (e : s.op = l1 ++ a :: op') : ∃ go co, ov = .slice (some ⟨go, 0, none⟩) (op'.length + (l1.length + 1)) co ∧ op'.length + (l1.length + 1) ≤ co := by
  have hr := h.or_
  rw [e, bk_split] at hr
  obtain ⟨x, co, ev, hc⟩ := brow_shape hr
  have el : (bk op' ++ pl (a :: l1.reverse)).length = op'.length + (l1.length + 1) := by simp [bk_len, pl_len]
  rw [ev] at hr
  obtain ⟨go, rfl⟩ := brow_some hr (by rw [el]; omega)
  rw [el] at ev hc
  exact ⟨go, co, ev, hc⟩
theorem SMem.openAt {F : SF} {go m co : Nat} (h : SMem F L s kv (.slice (some ⟨go, 0, none⟩) m co) w) {l1 op' : List Nat} {a : Nat} (e : s.op = l1 ++ a :: op') {j z : Nat} (hj : (a :: l1.reverse)[j]? = some z) : w.cell? ⟨go, op'.length + j, none⟩ = some (.int .i64 (z : Nat)) := by
  have hr := h.or_
  rw [e, bk_split] at hr
  refine brow_at hr ?_
  rw [List.getElem?_append_right (by rw [bk_len]; omega), bk_len, Nat.add_sub_cancel_left]
  exact pl_at hj
/-- What closeFrom leaves. -/
def ClAns (F : SF) (s : St) (l1 op' : List Nat) (a : Nat) (w' : World) : Prop := ∃ m, m ∈ l1 ++ [a] ∧ (∀ x ∈ l1 ++ [a], m ≤ x) ∧ SM F (s.close m s.tl (l1 ++ [a]) op') w'
theorem clAns {F : SF} {l1 op' : List Nat} {a m go co N : Nat} (h : SMem F L (s.headed (a :: l1.reverse) m) kv (.slice (some ⟨go, 0, none⟩) N co) w) (e : s.op = l1 ++ a :: op') (hm : m ∈ a :: l1.reverse) (hl : ∀ x ∈ a :: l1.reverse, m ≤ x) :
    ClAns F s l1 op' a (w.setCell ⟨F.sb, 7, none⟩ (.slice (some ⟨go, 0, none⟩) op'.length co)) := by
  have hmem : ∀ x, x ∈ l1 ++ [a] ↔ x ∈ a :: l1.reverse := fun x => by simp [or_comm]
  have hr : BRow F.w0.heap.size w (.slice (some ⟨go, 0, none⟩) N co) (bk s.op) := h.or_
  rw [e, bk_split] at hr
  have hN : op'.length ≤ N := by
    obtain ⟨_, _, e2, -⟩ := brow_shape hr
    injection e2 with _ e3 _
    rw [e3, List.length_append, bk_len]; omega
  have h2 := brow_take hr hN
  rw [List.take_left' (bk_len op')] at h2
  have h3 : SMem F L { s with op := op', hd := fun x => if x ∈ a :: l1.reverse then some m else s.hd x } kv (.slice (some ⟨go, 0, none⟩) op'.length co) (w.setCell ⟨F.sb, 7, none⟩ (.slice (some ⟨go, 0, none⟩) op'.length co)) := h.setO (l := op') h2 (fun b eb => h.l7 b eb)
  have ef : (fun x => if x ∈ a :: l1.reverse then some m else s.hd x) = fun x => if x ∈ l1 ++ [a] then some m else s.hd x := funext fun x => by
    by_cases q : x ∈ a :: l1.reverse
    · rw [if_pos q, if_pos ((hmem x).2 q)]
    · rw [if_neg q, if_neg (fun g => q ((hmem x).1 g))]
  rw [ef] at h3
  exact ⟨m, (hmem m).2 hm, fun x hx => hl x ((hmem x).1 hx), L, kv, _, h3⟩
set_option maxHeartbeats 4000000 in
set_option maxRecDepth 100000 in
theorem closeFromS {F : SF} (h : SMem F L s kv ov w) {l1 op' : List Nat} {a : Nat} (e : s.op = l1 ++ a :: op') (ha : a ∉ l1) (hb : ∀ p ∈ s.op, p < F.n) (hn : F.n ≤ 1000000) (ho : s.op.length ≤ 1000000) :
    Calls Try.prog 75 #[.pointer (some ⟨F.sb, 0, none⟩), .int .i64 a] w fun r w' => r = .returned (.tuple #[]) ∧ Hid (ClAns F s l1 op' a w') := by
  have han : a < F.n := hb a (by rw [e]; simp)
  obtain ⟨sb, nv, gh, ch, gt, ct, gl, cl, gr, cr, n, w0, rfl⟩ := SF.shape h (by omega)
  dsimp only at hb hn han ⊢
  obtain ⟨go, co, rfl, hco⟩ := h.opens e
  obtain ⟨Z, hZ⟩ : ∃ Z, Z = a :: l1.reverse := ⟨_, rfl⟩
  have hZ0 : Z[0]? = some a := by rw [hZ]; rfl
  have hZk : ∀ j z, Z[j]? = some z → 0 < j → ¬ z = a := fun j z hz h0 q => by
    rw [hZ] at hz
    obtain ⟨k, rfl⟩ : ∃ k, j = k + 1 := ⟨j - 1, by omega⟩
    have := List.mem_of_getElem? hz
    rw [List.getElem?_cons_succ] at hz
    exact ha (by rw [← q]; exact List.mem_reverse.1 (List.mem_of_getElem? hz))
  have hZn : ∀ z ∈ Z, z < n := fun z hz => hb z (by rw [e]; rw [hZ] at hz; simp at hz ⊢; rcases hz with q | q <;> simp [q])
  have hZl : Z.length = l1.length + 1 := by rw [hZ]; simp
  obtain ⟨m, hm1, hm2, hm3⟩ := minOf_pl a l1.reverse
  rw [← hZ] at hm1 hm2 hm3
  have HAT : Hid (∀ st W, st.op = s.op → SMem ⟨sb, nv, .slice (some ⟨gh, 0, none⟩) n ch, .slice (some ⟨gt, 0, none⟩) n ct, .slice (some ⟨gl, 0, none⟩) n cl, .slice (some ⟨gr, 0, none⟩) n cr, n, w0⟩ L st kv (.slice (some ⟨go, 0, none⟩) (op'.length + (l1.length + 1)) co) W → ∀ j z, Z[j]? = some z → W.cell? ⟨go, op'.length + j, none⟩ = some (.int .i64 (z : Nat))) := fun st W hst hW j z hz => hW.openAt (by rw [hst]; exact e) (by rw [← hZ]; exact hz)
  have HEND : Hid (∀ W, SMem ⟨sb, nv, .slice (some ⟨gh, 0, none⟩) n ch, .slice (some ⟨gt, 0, none⟩) n ct, .slice (some ⟨gl, 0, none⟩) n cl, .slice (some ⟨gr, 0, none⟩) n cr, n, w0⟩ L (s.headed Z m) kv (.slice (some ⟨go, 0, none⟩) (op'.length + (l1.length + 1)) co) W → ClAns ⟨sb, nv, .slice (some ⟨gh, 0, none⟩) n ch, .slice (some ⟨gt, 0, none⟩) n ct, .slice (some ⟨gl, 0, none⟩) n cl, .slice (some ⟨gr, 0, none⟩) n cr, n, w0⟩ s l1 op' a (W.setCell ⟨sb, 7, none⟩ (.slice (some ⟨go, 0, none⟩) op'.length co))) := fun W hW => by
    rw [hZ] at hW hm2 hm3
    exact clAns hW e hm2 hm3
  have CM : Hid (Calls Try.prog 77 #[.slice (some ⟨go, op'.length, none⟩) (l1.length + 1) (co - op'.length)] w fun r w' => r = .returned (.int .i64 (m : Nat)) ∧ w' = w) := by
    refine (Try.slices_Min_int go op'.length (l1.length + 1) (co - op'.length) (pl Z) w (by omega) (by rw [pl_len]; omega) (by rw [e] at ho; simp at ho; omega) (fun j hj => ?_)).mono ?_
    · rw [pl_len] at hj
      have hz : Z[j]? = some Z[j] := List.getElem?_eq_getElem hj
      rw [List.getD_eq_getElem?_getD, pl_at hz]
      exact unhide HAT s w rfl h j _ hz
    · rintro r w' ⟨rfl, rfl⟩
      refine ⟨?_, rfl⟩
      rw [← hZl, ← pl_len, List.take_length, hm1]
  have hK : op'.length + (l1.length + 1) ≤ 1000000 := by rw [e] at ho; simp at ho; omega
  have H := hide h
  have HS := hide (h.headed0 m)
  have HZ := hide (And.intro hZ0 (And.intro hZk (And.intro hZn hZl)))
  obtain ⟨K, hKe⟩ : ∃ K, K = l1.length + 1 := ⟨_, rfl⟩
  obtain ⟨b0, hb0⟩ : ∃ b0, b0 = op'.length := ⟨_, rfl⟩
  rw [← hKe] at HAT HEND CM HS HZ hco hK H
  rw [← hb0] at HAT HEND CM HS hco hK H
  obtain ⟨N, hNe⟩ : ∃ N, N = b0 + K := ⟨_, rfl⟩
  rw [← hNe] at HAT HEND HS hco hK H
  have HN := hide (And.intro hNe (And.intro hco (And.intro hK (show 0 < K by omega))))
  obtain ⟨-, c1, -, -, -, -, -, c7, -⟩ := (unhide H).cells
  clear h e ha hb hn ho han hco hZ hZ0 hZk hZn hZl hm1 hm2 hm3 hKe hb0 hNe hK
  obtain ⟨N1, hN1⟩ : ∃ N1, N1 = N - 1 := ⟨_, rfl⟩
  have zN : Hid (wrap64 ((N : Int) - 1) = (N1 : Int)) := by have := unhide HN; show wrap64 ((N : Int) - 1) = (N1 : Int); unfold wrap64; omega
  have HN1 := hide hN1
  clear hN1
  have zo : (N : Int) ≤ (co : Int) := by have := unhide HN; omega
  go_enter Try.func75, Try.ntmps75
  go_upto_region 1 with fail
  go_loopw [4] (fun s4 wr => wr = w ∧ ∃ b : Nat, s4 = .int .i64 (b : Nat) ∧ b0 ≤ b ∧ b < N) (fun s4 _ => (intOf s4).toNat)
  case atStart => exact ⟨rfl, N1, by rw [unhide zN], by have := unhide HN; have := unhide HN1; omega, by have := unhide HN; have := unhide HN1; omega⟩
  case round =>
    obtain ⟨rfl, b, rfl, hb1, hb2⟩ := hrel
    obtain ⟨hZ0, hZk, hZn, hZl⟩ := unhide HZ
    by_cases h0 : b = b0
    · subst h0
      have hc := unhide HAT s wr rfl (unhide H) 0 _ hZ0
      rw [Nat.add_zero] at hc
      have z1 : (b : Int) < (N : Int) := by omega
      have z2 : (b : Int) < (co : Int) := by omega
      have z3 : ¬ b = co := by omega
      have z4 : N - b = K := by have := unhide HN; omega
      clear hZ0 hZk hZn hZl hb1 hb2
      go_upto_region 3 with fail
      go_wp2_with fail
      refine (unhide CM).mono ?_
      rintro r w' ⟨rfl, rfl⟩
      go_upto_region 5 with fail
      clear hc CM c1 c7 z4 z1 z3
      have zc : (b : Int) ≤ (co : Int) := by omega
      go_loopw [39] (fun s39 wr => ∃ k : Nat, s39 = .int .i64 (k : Nat) ∧ k ≤ K ∧ Hid (SMem ⟨sb, nv, .slice (some ⟨gh, 0, none⟩) n ch, .slice (some ⟨gt, 0, none⟩) n ct, .slice (some ⟨gl, 0, none⟩) n cl, .slice (some ⟨gr, 0, none⟩) n cr, n, w0⟩ L (s.headed (Z.take k) m) kv (.slice (some ⟨go, 0, none⟩) N co) wr)) (fun s39 _ => K - (intOf s39).toNat)
      case atStart => exact ⟨0, rfl, Nat.zero_le _, HS⟩
      case round =>
        obtain ⟨k, rfl, hk, hW⟩ := hrel
        obtain ⟨hZ0, hZk, hZn, hZl⟩ := unhide HZ
        obtain ⟨-, c1, -, -, -, -, -, c7, cf⟩ := (unhide hW).cells
        by_cases hlt : k < K
        · have hz : Z[k]? = some Z[k] := List.getElem?_eq_getElem (by omega)
          have hzn := hZn Z[k] (List.mem_of_getElem? hz)
          have hc := unhide HAT _ wr (show (s.headed (Z.take k) m).op = s.op from rfl) (unhide hW) k _ hz
          have h3 := (unhide hW).headed1 (g := gh) (k := n) (c := ch) rfl hzn
          rw [show Z.take k ++ [Z[k]] = Z.take (k + 1) from (List.take_append_getElem (by omega))] at h3
          obtain ⟨f1, f2, f3⟩ := (unhide hW).atH (by omega)
          obtain ⟨x0, f2⟩ : ∃ x0 : Int, wr.cell? ⟨gh, Z[k], none⟩ = some (.int .i64 x0) := ⟨_, f2 _ hzn⟩
          have H3 := hide h3
          have z5 : (k : Int) < (K : Int) := by omega
          have z6 : ((Z[k] : Nat) : Int) < (n : Int) := by omega
          obtain ⟨k1, hk1⟩ : ∃ k1, k1 = k + 1 := ⟨_, rfl⟩
          have zw : Hid (wrap64 ((k : Int) + 1) = (k1 : Int)) := by have := unhide HN; show wrap64 ((k : Int) + 1) = (k1 : Int); unfold wrap64; omega
          rw [← hk1] at H3
          have HJ : Hid (k1 ≤ K ∧ K - k1 < K - k) := ⟨by omega, by omega⟩
          generalize Z[k] = zk at *
          clear h3 hz hzn hZ0 hZk hZn hZl hW hk hlt hk1 HS c7
          go_wp2_with fail
          rw [unhide zw]
          exact ⟨⟨k1, rfl, (unhide HJ).1, H3⟩, by have := (unhide HJ).2; simp [intOf]; omega⟩
        · have z5 : ¬ (k : Int) < (K : Int) := by omega
          obtain rfl : k = K := by omega
          rw [List.take_of_length_le (by omega)] at hW
          have HG := hide (unhide HEND wr (unhide hW))
          clear hZ0 hZk hZn hZl hW hk hlt HS HEND c1
          go_wp2_with fail
          go_end0
          exact ⟨rfl, HG⟩
    · obtain ⟨j, hj⟩ : ∃ j, b = b0 + j := ⟨b - b0, by omega⟩
      have hjl : j < Z.length := by have := unhide HN; omega
      have hz : Z[j]? = some Z[j] := List.getElem?_eq_getElem hjl
      have hc := unhide HAT s wr rfl (unhide H) j _ hz
      rw [← hj] at hc
      have z1 : (b : Int) < (N : Int) := by omega
      have hza := hZk j _ hz (by omega)
      have z2' : (((Z[j] : Nat) : Int) == (a : Int)) = false := by simp; omega
      obtain ⟨b1, hb1'⟩ : ∃ b1, b1 = b - 1 := ⟨_, rfl⟩
      have zw : Hid (wrap64 ((b : Int) - 1) = (b1 : Int)) := by have := unhide HN; show wrap64 ((b : Int) - 1) = (b1 : Int); unfold wrap64; omega
      have HJ : Hid (b0 ≤ b1 ∧ b1 < N ∧ b1 < b) := ⟨by omega, by omega, by omega⟩
      generalize Z[j] = zj at *
      clear hz hza hjl hZ0 hZk hZn hZl hb1 hb2 h0 hj hb1'
      go_wp2_with fail
      rw [unhide zw]
      exact ⟨⟨trivial, b1, rfl, (unhide HJ).1, (unhide HJ).2.1⟩, by have := (unhide HJ).2.2; simp [intOf]; omega⟩
end
end Go.Proofs.Ytdpdghhieokcfaa
