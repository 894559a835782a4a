/- put, remove: walked. -/
import Derived.Test.YtbmcibofecigeaaLvF14
import Derived.Test.YtbmcibofecigeaaLvO14
import Derived.Test.YtbmcibofecigeaaLvW14
namespace Go.Proofs.Ytbmcibofecigeaa
open Go.RowKit Go.Maps
attribute [local go_sem] run_storeF run_fieldE0 run_fieldE1
section
variable {L : Lab} {w : World} {p mv me : Nat} {s tc : Int} {V : Int → Option Nat} {nv : Nat} {E : L14.Es} {ne : Nat} {T : L14.Tr} {O I : Int → List Int} {vs : List Int} {N : Nat}
theorem LvS.draw (h : LvS L w p mv me s tc V nv E ne T O I) (n : Nat) : LvS L (w.drewN n) p mv me s tc V nv E ne T O I := h.below (below_drewN (Below.refl _ _) n)
/-- What is read of two vertices, at a world and behind a draw. -/
theorem LvS.look2 (h : LvS L w p mv me s tc V nv E ne T O I) (hG : ∀ v ∈ vs, okN v) {v : Int} {b : Nat} (hv : v ∈ vs) (hb : V v = some b) (n : Nat) : (Instr.lookup 48 (.map (some mv)) (.int .i64 v) false).run Try.prog (w.drewN n) = .ok (.pointer (some ⟨b, 0, none⟩)) (w.drewN n) := by
  have := (h.draw n).at_.lookV (hG v hv)
  rw [hb] at this
  exact this
/-- What put leaves. -/
def PutA (L : Lab) (w : World) (p mv me : Nat) (s tc : Int) (V : Int → Option Nat) (nv : Nat) (E : L14.Es) (ne : Nat) (T : L14.Tr) (O I : Int → List Int) (w' : World) : Prop := ∃ L', LvS L' w' p mv me s tc V nv E ne T O I ∧ ChL L w L' w'
set_option maxHeartbeats 4000000 in
set_option maxRecDepth 100000 in
theorem vputT (h : LvS L w p mv me s tc V nv E ne T O I) (hG : GL V E O I vs N) (hN : N ≤ 200) (hne : ne < 1000000) {e u v : Int} {c : Nat} (he : E e = none) (oe : okN e) (hu : u ∈ vs) (hv : v ∈ vs) :
    Calls Try.prog 31 #[.pointer (some ⟨p, 0, none⟩), .int .i64 e, .agg #[.int .i64 u, .int .i64 v, .float .f32 c]] w fun r w' => r = .returned (.tuple #[]) ∧ Hid (PutA L w p mv me s tc V nv (putG E e (some (u, v, c))) (ne + 1) T (updO O u (insL (O u) e)) (updO I v (insL (I v) e)) w') := by
  have hb := below_new w (oEg u v c)
  have hblk := heap_alloc_new w (oEg u v c)
  obtain ⟨W1, hW1⟩ : ∃ W1, W1 = w.alloc (oEg u v c) := ⟨_, rfl⟩
  obtain ⟨wb, hwb⟩ : ∃ wb, wb = w.heap.size := ⟨_, rfl⟩
  rw [← hW1] at hb hblk
  rw [← hwb] at hblk
  have hlb : L wb = none := h.fr wb (by omega)
  obtain ⟨bu, hbu⟩ := hG.at_ hu
  obtain ⟨bv, hbv⟩ := hG.at_ hv
  obtain ⟨w2, r2, h2, c2⟩ := ((h.below hb).draw 1).putE hne oe u v c
  rw [he] at h2
  have h2' : LvS L w2 p mv me s tc V nv (putG E e (some (u, v, c))) (ne + 1) T O I := h2
  have hbw : w2.heap[wb]? = some (oEg u v c) := (c2.tur.block wb (heap_lt hblk) (by rw [hlb]; exact fun z => z rfl)).trans hblk
  obtain ⟨y0, y1, y2⟩ := cellsEg hblk
  obtain ⟨z0, z1, z2⟩ := cellsEg hbw
  obtain ⟨-, -, p1, -, -⟩ := cellsL (h.below hb).at_.box
  obtain ⟨-, p2, -, -, -⟩ := cellsL h2.at_.box
  have l1 : (Instr.lookup 48 (.map (some mv)) (.int .i64 u) false).run Try.prog w2.drew = .ok (.pointer (some ⟨bu, 0, none⟩)) w2.drew := h2'.look2 hG.okV hu hbu 1
  have l2 : (Instr.lookup 48 (.map (some mv)) (.int .i64 v) false).run Try.prog w2.drew = .ok (.pointer (some ⟨bv, 0, none⟩)) w2.drew := h2'.look2 hG.okV hv hbv 1
  obtain ⟨ov, k1, C1⟩ := (h2'.draw 1).outWith (e := e) hbu (hG.ro u) (by have := hG.lo u; omega)
  have HC1 := hide C1
  have HI : Hid (∀ L' w3, LvS L' w3 p mv me s tc V nv (putG E e (some (u, v, c))) (ne + 1) T (updO O u (insL (O u) e)) I → ∃ iv, w3.cell? ⟨bv, 1, none⟩ = some iv ∧ Calls Try.prog 47 #[iv, .int .i64 e] w3 fun r w' => ∃ a n k, r = .returned (.slice a n k) ∧ Hid ((w'.frozen? ⟨bv, 1, none⟩ = false ∧ w'.cell? ⟨bv, 1, none⟩ = some iv) ∧ ∃ L2, LvS L2 (w'.setCell ⟨bv, 1, none⟩ (.slice a n k)) p mv me s tc V nv (putG E e (some (u, v, c))) (ne + 1) T (updO O u (insL (O u) e)) (updO I v (insL (I v) e)) ∧ ChL L' w3 L2 (w'.setCell ⟨bv, 1, none⟩ (.slice a n k)))) := fun L' w3 h3 => h3.inWith hbv (hG.ri v) (by have := hG.li v; omega)
  have HCH : Hid (ChL L w L w2.drew) := (ChL.below (below_drewN hb 1)).trans (c2.trans (ChL.below (below_drewN (Below.refl _ _) 1)))
  have HW1 := hide hW1
  have HWB := hide hwb
  clear h hG hb hblk hW1 hwb hlb hbu hbv h2 h2' c2 hbw C1 he oe hu hv hN hne z2
  go_enter Try.func31, Try.ntmps31
  go_upto_region 1 with fail
  rw [show w.alloc (.cells #[.int .i64 u, .int .i64 v, .float .f32 c] 73) = W1 from (unhide HW1).symm, ← unhide HWB]
  clear HW1 HWB
  refine wp_region_noPanic ?_
  refine regionL [6] (fun y => y.cell? ⟨p, 2, none⟩ = some (.map (some me)) ∧ y.cell? ⟨wb, 0, none⟩ = some (.int .i64 u) ∧ y.cell? ⟨wb, 1, none⟩ = some (.int .i64 v) ∧ y.cell? ⟨wb, 2, none⟩ = some (.float .f32 c)) (by kernel_rfl) ⟨p1, y0, y1, y2⟩ (fun hHeld => ?_)
  refine takeL (i := 0) (v := ?t2v0) (some 8) rfl rfl (by kernel_rfl) (by kernel_rfl) (by kernel_rfl) (by kernel_rfl) (by kernel_rfl) (fun _ _ _ h => h) (Or.inl ⟨by rfl, ?t2h0⟩) (by assumption) ?t2r0
  case t2h0 => (intro y hSu; (try dsimp only at hSu); go_simp; first | done | with_reducible rfl)
  (try simp only [Act.put, List.setIfInBounds_toArray, List.set_cons_zero, List.set_cons_succ])
  refine takeL (i := 1) (v := ?t2v1) (some 9) rfl rfl (by kernel_rfl) (by kernel_rfl) (by kernel_rfl) (by kernel_rfl) (by kernel_rfl) (fun _ _ _ h => h) (Or.inl ⟨by rfl, ?t2h1⟩) (by assumption) ?t2r1
  case t2h1 => (intro y hSu; (try dsimp only at hSu); go_simp; first | done | with_reducible rfl)
  (try simp only [Act.put, List.setIfInBounds_toArray, List.set_cons_zero, List.set_cons_succ])
  refine takeL (i := 2) (v := ?t2v2) (some 10) rfl rfl (by kernel_rfl) (by kernel_rfl) (by kernel_rfl) (by kernel_rfl) (by kernel_rfl) (fun _ _ _ h => h) (Or.inl ⟨by rfl, ?t2h2⟩) (by assumption) ?t2r2
  case t2h2 => (intro y hSu; (try dsimp only at hSu); go_simp; first | done | with_reducible rfl)
  (try simp only [Act.put, List.setIfInBounds_toArray, List.set_cons_zero, List.set_cons_succ])
  refine takeL (i := 3) (v := ?t2v3) (some 11) rfl rfl (by kernel_rfl) (by kernel_rfl) (by kernel_rfl) (by kernel_rfl) (by kernel_rfl) (fun _ _ _ h => h) (Or.inl ⟨by rfl, ?t2h3⟩) (by assumption) ?t2r3
  case t2h3 => (intro y hSu; (try dsimp only at hSu); go_simp; first | done | with_reducible rfl)
  (try simp only [Act.put, List.setIfInBounds_toArray, List.set_cons_zero, List.set_cons_succ])
  refine takeL (i := 4) (v := ?t2v4) (some 12) rfl rfl (by kernel_rfl) (by kernel_rfl) (by kernel_rfl) (by kernel_rfl) (by kernel_rfl) (fun _ _ _ h => h) (Or.inl ⟨by rfl, ?t2h4⟩) (by assumption) ?t2r4
  case t2h4 => (intro y hSu; (try dsimp only at hSu); go_simp; first | done | with_reducible rfl)
  (try simp only [Act.put, List.setIfInBounds_toArray, List.set_cons_zero, List.set_cons_succ])
  refine takeL (i := 5) (v := ?t2v5) (some 13) rfl rfl (by kernel_rfl) (by kernel_rfl) (by kernel_rfl) (by kernel_rfl) (by kernel_rfl) (fun _ _ _ h => h) (Or.inl ⟨by rfl, ?t2h5⟩) (by assumption) ?t2r5
  case t2h5 => (intro y hSu; (try dsimp only at hSu); go_simp; first | done | with_reducible rfl)
  (try simp only [Act.put, List.setIfInBounds_toArray, List.set_cons_zero, List.set_cons_succ])
  refine readyL (i := 6) (by kernel_rfl) rfl (fun K hK => ?_)
  refine step_mapUpdate_run rfl (.tmp 11) (.tmp 12) (.tmp 13) 49 rfl _ _ _ (by simp [Act.eval]; first | rfl | done) (by simp [Act.eval]; first | rfl | done) (by simp [Act.eval]; first | rfl | done) _ r2 rfl ?_
  refine hK.out _ _ (fun h => by cases h) ?_
  clear hK K
  (try simp only [Act.put, List.setIfInBounds_toArray, List.set_cons_zero, List.set_cons_succ])
  refine doneL (by kernel_rfl) ?_ _
  refine NoPanic.normal ?_
  clear hHeld p1 y0 y1 y2 r2
  go_upto_region 2 with fail
  refine wp_region_noPanic ?_
  refine regionL [] (fun y => y.cell? ⟨p, 1, none⟩ = some (.map (some mv)) ∧ y.cell? ⟨wb, 0, none⟩ = some (.int .i64 u) ∧ y.cell? ⟨wb, 1, none⟩ = some (.int .i64 v) ∧ (Instr.lookup 48 (.map (some mv)) (.int .i64 u) false).run Try.prog y = .ok (.pointer (some ⟨bu, 0, none⟩)) y ∧ (Instr.lookup 48 (.map (some mv)) (.int .i64 v) false).run Try.prog y = .ok (.pointer (some ⟨bv, 0, none⟩)) y) (by kernel_rfl) ⟨p2, z0, z1, l1, l2⟩ (fun hHeld => ?_)
  refine takeL (i := 0) (v := ?t6v0) (some 14) rfl rfl (by kernel_rfl) (by kernel_rfl) (by kernel_rfl) (by kernel_rfl) (by kernel_rfl) (fun _ _ _ h => h) (Or.inl ⟨by rfl, ?t6h0⟩) (by assumption) ?t6r0
  case t6h0 => (intro y hSu; (try dsimp only at hSu); go_simp; first | done | with_reducible rfl)
  (try simp only [Act.put, List.setIfInBounds_toArray, List.set_cons_zero, List.set_cons_succ])
  refine takeL (i := 1) (v := ?t6v1) (some 15) rfl rfl (by kernel_rfl) (by kernel_rfl) (by kernel_rfl) (by kernel_rfl) (by kernel_rfl) (fun _ _ _ h => h) (Or.inl ⟨by rfl, ?t6h1⟩) (by assumption) ?t6r1
  case t6h1 => (intro y hSu; (try dsimp only at hSu); go_simp; first | done | with_reducible rfl)
  (try simp only [Act.put, List.setIfInBounds_toArray, List.set_cons_zero, List.set_cons_succ])
  refine takeL (i := 2) (v := ?t6v2) (some 16) rfl rfl (by kernel_rfl) (by kernel_rfl) (by kernel_rfl) (by kernel_rfl) (by kernel_rfl) (fun _ _ _ h => h) (Or.inl ⟨by rfl, ?t6h2⟩) (by assumption) ?t6r2
  case t6h2 => (intro y hSu; (try dsimp only at hSu); go_simp; first | done | with_reducible rfl)
  (try simp only [Act.put, List.setIfInBounds_toArray, List.set_cons_zero, List.set_cons_succ])
  refine takeL (i := 3) (v := ?t6v3) (some 17) rfl rfl (by kernel_rfl) (by kernel_rfl) (by kernel_rfl) (by kernel_rfl) (by kernel_rfl) (fun _ _ _ h => h) (Or.inl ⟨by rfl, ?t6h3⟩) (by assumption) ?t6r3
  case t6h3 => (intro y hSu; (try dsimp only at hSu); go_simp; first | done | with_reducible rfl)
  (try simp only [Act.put, List.setIfInBounds_toArray, List.set_cons_zero, List.set_cons_succ])
  refine takeL (i := 4) (v := ?t6v4) (some 18) rfl rfl (by kernel_rfl) (by kernel_rfl) (by kernel_rfl) (by kernel_rfl) (by kernel_rfl) (fun _ _ _ h => h) (Or.inl ⟨by rfl, ?t6h4⟩) (by assumption) ?t6r4
  case t6h4 => (intro y hSu; (try dsimp only at hSu); go_simp; first | done | with_reducible rfl)
  (try simp only [Act.put, List.setIfInBounds_toArray, List.set_cons_zero, List.set_cons_succ])
  refine takeL (i := 5) (v := ?t6v5) (some 19) rfl rfl (by kernel_rfl) (by kernel_rfl) (by kernel_rfl) (by kernel_rfl) (by kernel_rfl) (fun _ _ _ h => h) (Or.inl ⟨by rfl, ?t6h5⟩) (by assumption) ?t6r5
  case t6h5 => (intro y hSu; (try dsimp only at hSu); go_simp; first | done | with_reducible rfl)
  (try simp only [Act.put, List.setIfInBounds_toArray, List.set_cons_zero, List.set_cons_succ])
  refine takeL (i := 6) (v := ?t6v6) (some 20) rfl rfl (by kernel_rfl) (by kernel_rfl) (by kernel_rfl) (by kernel_rfl) (by kernel_rfl) (fun _ _ _ h => h) (Or.inl ⟨by rfl, ?t6h6⟩) (by assumption) ?t6r6
  case t6h6 => (intro y hSu; (try dsimp only at hSu); go_simp; first | done | with_reducible rfl)
  (try simp only [Act.put, List.setIfInBounds_toArray, List.set_cons_zero, List.set_cons_succ])
  refine takeL (i := 7) (v := ?t6v7) (some 21) rfl rfl (by kernel_rfl) (by kernel_rfl) (by kernel_rfl) (by kernel_rfl) (by kernel_rfl) (fun _ _ _ h => h) (Or.inl ⟨by rfl, ?t6h7⟩) (by assumption) ?t6r7
  case t6h7 => (intro y hSu; (try dsimp only at hSu); go_simp; first | done | with_reducible rfl)
  (try simp only [Act.put, List.setIfInBounds_toArray, List.set_cons_zero, List.set_cons_succ])
  refine takeL (i := 8) (v := ?t6v8) (some 22) rfl rfl (by kernel_rfl) (by kernel_rfl) (by kernel_rfl) (by kernel_rfl) (by kernel_rfl) (fun _ _ _ h => h) (Or.inl ⟨by rfl, ?t6h8⟩) (by assumption) ?t6r8
  case t6h8 => (intro y hSu; (try dsimp only at hSu); go_simp; first | done | with_reducible rfl)
  (try simp only [Act.put, List.setIfInBounds_toArray, List.set_cons_zero, List.set_cons_succ])
  refine takeL (i := 9) (v := ?t6v9) (some 23) rfl rfl (by kernel_rfl) (by kernel_rfl) (by kernel_rfl) (by kernel_rfl) (by kernel_rfl) (fun _ _ _ h => h) (Or.inl ⟨by rfl, ?t6h9⟩) (by assumption) ?t6r9
  case t6h9 => (intro y hSu; (try dsimp only at hSu); go_simp; first | done | with_reducible rfl)
  (try simp only [Act.put, List.setIfInBounds_toArray, List.set_cons_zero, List.set_cons_succ])
  refine takeL (i := 10) (v := ?t6v10) (some 24) rfl rfl (by kernel_rfl) (by kernel_rfl) (by kernel_rfl) (by kernel_rfl) (by kernel_rfl) (fun _ _ _ h => h) (Or.inl ⟨by rfl, ?t6h10⟩) (by assumption) ?t6r10
  case t6h10 => (intro y hSu; (try dsimp only at hSu); go_simp; first | done | with_reducible rfl)
  (try simp only [Act.put, List.setIfInBounds_toArray, List.set_cons_zero, List.set_cons_succ])
  refine takeL (i := 11) (v := ?t6v11) (some 25) rfl rfl (by kernel_rfl) (by kernel_rfl) (by kernel_rfl) (by kernel_rfl) (by kernel_rfl) (fun _ _ _ h => h) (Or.inl ⟨by rfl, ?t6h11⟩) (by assumption) ?t6r11
  case t6h11 => (intro y hSu; (try dsimp only at hSu); go_simp; first | done | with_reducible rfl)
  (try simp only [Act.put, List.setIfInBounds_toArray, List.set_cons_zero, List.set_cons_succ])
  refine takeL (i := 12) (v := ?t6v12) (some 26) rfl rfl (by kernel_rfl) (by kernel_rfl) (by kernel_rfl) (by kernel_rfl) (by kernel_rfl) (fun _ _ _ h => h) (Or.inl ⟨by rfl, ?t6h12⟩) (by assumption) ?t6r12
  case t6h12 => (intro y hSu; (try dsimp only at hSu); go_simp; first | done | with_reducible rfl)
  (try simp only [Act.put, List.setIfInBounds_toArray, List.set_cons_zero, List.set_cons_succ])
  refine takeL (i := 13) (v := ?t6v13) (some 27) rfl rfl (by kernel_rfl) (by kernel_rfl) (by kernel_rfl) (by kernel_rfl) (by kernel_rfl) (fun _ _ _ h => h) (Or.inl ⟨by rfl, ?t6h13⟩) (by assumption) ?t6r13
  case t6h13 => (intro y hSu; (try dsimp only at hSu); go_simp; first | done | with_reducible rfl)
  (try simp only [Act.put, List.setIfInBounds_toArray, List.set_cons_zero, List.set_cons_succ])
  refine takeL (i := 14) (v := ?t6v14) (some 6) rfl rfl (by kernel_rfl) (by kernel_rfl) (by kernel_rfl) (by kernel_rfl) (by kernel_rfl) (fun _ _ _ h => h) (Or.inl ⟨by rfl, ?t6h14⟩) (by assumption) ?t6r14
  case t6h14 => (intro y hSu; (try dsimp only at hSu); go_simp; first | done | with_reducible rfl)
  (try simp only [Act.put, List.setIfInBounds_toArray, List.set_cons_zero, List.set_cons_succ])
  refine takeL (i := 15) (v := ?t6v15) (some 7) rfl rfl (by kernel_rfl) (by kernel_rfl) (by kernel_rfl) (by kernel_rfl) (by kernel_rfl) (fun _ _ _ h => h) (Or.inl ⟨by rfl, ?t6h15⟩) (by assumption) ?t6r15
  case t6h15 => (intro y hSu; (try dsimp only at hSu); go_simp; first | done | with_reducible rfl)
  (try simp only [Act.put, List.setIfInBounds_toArray, List.set_cons_zero, List.set_cons_succ])
  refine doneL (by kernel_rfl) ?_ _
  refine NoPanic.normal ?_
  clear hHeld p2 z0 z1 l1 l2
  have k1' : w2.cell? ⟨bu, 0, none⟩ = some ov := k1
  have HC2 : Hid (Calls Try.prog 47 #[ov, .int .i64 e] w2.drew fun r w' => ∃ a n k, r = .returned (.slice a n k) ∧ Hid ((w'.frozen? ⟨bu, 0, none⟩ = false ∧ w'.cell? ⟨bu, 0, none⟩ = some ov) ∧ ∃ L', LvS L' (w'.setCell ⟨bu, 0, none⟩ (.slice a n k)) p mv me s tc V nv (putG E e (some (u, v, c))) (ne + 1) T (updO O u (insL (O u) e)) I ∧ ChL L w2.drew L' (w'.setCell ⟨bu, 0, none⟩ (.slice a n k)))) := HC1
  clear HC1 k1
  go_wp2_with fail
  refine (unhide HC2).mono ?_
  rintro r w3 ⟨xa, xn, xc, rfl, H3⟩
  obtain ⟨⟨f1, f1'⟩, L1, h3, c3⟩ := unhide H3
  obtain ⟨iv, k2, C2⟩ := unhide HI L1 _ h3
  have HC3 := hide C2
  have HCH2 : Hid (ChL L w L1 (w3.setCell ⟨bu, 0, none⟩ (.slice xa xn xc))) := (unhide HCH).trans c3
  clear HC2 H3 HI HCH h3 c3 C2
  go_wp2_with fail
  refine (unhide HC3).mono ?_
  rintro r w4 ⟨ya, yn, yc, rfl, H4⟩
  obtain ⟨⟨f2, f2'⟩, L2, h4, c4⟩ := unhide H4
  have HE : Hid (PutA L w p mv me s tc V nv (putG E e (some (u, v, c))) (ne + 1) T (updO O u (insL (O u) e)) (updO I v (insL (I v) e)) (w4.setCell ⟨bv, 1, none⟩ (.slice ya yn yc))) := ⟨L2, h4, (unhide HCH2).trans c4⟩
  clear HC3 H4 HCH2 h4 c4 k2 f1 f1'
  go_wp2_with fail
  go_end0
  exact ⟨rfl, HE⟩
set_option maxHeartbeats 4000000 in
set_option maxRecDepth 100000 in
theorem vremoveT (h : LvS L w p mv me s tc V nv E (ne + 1) T O I) (hG : GL V E O I vs N) (hN : N ≤ 200) {e u v : Int} {c : Nat} (he : E e = some (u, v, c)) :
    Calls Try.prog 39 #[.pointer (some ⟨p, 0, none⟩), .int .i64 e] w fun r w' => r = .returned (.tuple #[]) ∧ Hid (PutA L w p mv me s tc V nv (putG E e none) ne T (updO O u (cutL (O u) e)) (updO I v (cutL (I v) e)) w') := by
  obtain ⟨oe, hu, hv⟩ := hG.ed e u v c he
  have hq0 := h.at_.lookE oe
  rw [he] at hq0
  have hq : (Instr.lookup 49 (.map (some me)) (.int .i64 e) false).run Try.prog w = .ok (.agg #[.int .i64 u, .int .i64 v, .float .f32 c]) w := hq0
  have hb := below_new w (oEg u v c)
  have hblk := heap_alloc_new w (oEg u v c)
  obtain ⟨W1, hW1⟩ : ∃ W1, W1 = w.alloc (oEg u v c) := ⟨_, rfl⟩
  obtain ⟨wb, hwb⟩ : ∃ wb, wb = w.heap.size := ⟨_, rfl⟩
  rw [← hW1] at hb hblk
  rw [← hwb] at hblk
  have hlb : L wb = none := h.fr wb (by omega)
  obtain ⟨bu, hbu⟩ := hG.at_ hu
  obtain ⟨bv, hbv⟩ := hG.at_ hv
  have h1 := h.below hb
  obtain ⟨y0, y1, y2⟩ := cellsEg hblk
  obtain ⟨-, -, p0, -, -⟩ := cellsL h.at_.box
  obtain ⟨-, p1, -, -, -⟩ := cellsL h1.at_.box
  have l1 : (Instr.lookup 48 (.map (some mv)) (.int .i64 u) false).run Try.prog W1.drew = .ok (.pointer (some ⟨bu, 0, none⟩)) W1.drew := h1.look2 hG.okV hu hbu 1
  have l2 : (Instr.lookup 48 (.map (some mv)) (.int .i64 v) false).run Try.prog W1.drew = .ok (.pointer (some ⟨bv, 0, none⟩)) W1.drew := h1.look2 hG.okV hv hbv 1
  obtain ⟨ov, k1, C1⟩ := (h1.draw 1).outWithout (e := e) hbu (hG.ro u) (by have := hG.lo u; omega) ((hG.out u e).2 ⟨v, c, he⟩)
  have k1' : W1.cell? ⟨bu, 0, none⟩ = some ov := k1
  have HC2 : Hid (Calls Try.prog 55 #[ov, .int .i64 e] W1.drew fun r w' => ∃ a n k, r = .returned (.slice a n k) ∧ Hid ((w'.frozen? ⟨bu, 0, none⟩ = false ∧ w'.cell? ⟨bu, 0, none⟩ = some ov) ∧ ∃ L', LvS L' (w'.setCell ⟨bu, 0, none⟩ (.slice a n k)) p mv me s tc V nv E (ne + 1) T (updO O u (cutL (O u) e)) I ∧ ChL L W1.drew L' (w'.setCell ⟨bu, 0, none⟩ (.slice a n k)))) := C1
  have HI : Hid (∀ L' w3, LvS L' w3 p mv me s tc V nv E (ne + 1) T (updO O u (cutL (O u) e)) I → ∃ iv, w3.cell? ⟨bv, 1, none⟩ = some iv ∧ Calls Try.prog 55 #[iv, .int .i64 e] w3 fun r w' => ∃ a n k, r = .returned (.slice a n k) ∧ Hid ((w'.frozen? ⟨bv, 1, none⟩ = false ∧ w'.cell? ⟨bv, 1, none⟩ = some iv) ∧ ∃ L2, LvS L2 (w'.setCell ⟨bv, 1, none⟩ (.slice a n k)) p mv me s tc V nv E (ne + 1) T (updO O u (cutL (O u) e)) (updO I v (cutL (I v) e)) ∧ ChL L' w3 L2 (w'.setCell ⟨bv, 1, none⟩ (.slice a n k)))) := fun L' w3 h3 => h3.inWithout hbv (hG.ri v) (by have := hG.li v; omega) ((hG.inn v e).2 ⟨u, c, he⟩)
  have HD : Hid (∀ L' w4, LvS L' w4 p mv me s tc V nv E (ne + 1) T (updO O u (cutL (O u) e)) (updO I v (cutL (I v) e)) → w4.cell? ⟨p, 2, none⟩ = some (.map (some me)) ∧ ∃ w5, (∀ ty, (Builtin.delete_ #[49, 3] ty #[.map (some me), .int .i64 e]).run Try.prog w4 = .ok (.tuple #[]) w5) ∧ LvS L' w5 p mv me s tc V nv (putG E e none) ne T (updO O u (cutL (O u) e)) (updO I v (cutL (I v) e)) ∧ ChL L' w4 L' w5) := fun L' w4 h4 => ⟨(cellsL h4.at_.box).2.2.1, h4.delE oe (by rw [he]; rfl)⟩
  have HCH : Hid (ChL L w L W1.drew) := ChL.below (below_drewN hb 1)
  have HW1 := hide hW1
  have HWB := hide hwb
  clear h h1 hG hb hblk hW1 hwb hlb hbu hbv C1 he oe hu hv hN hq0 y2 k1
  go_enter Try.func39, Try.ntmps39
  go_upto_region 1 with fail
  rw [show w.alloc (.cells #[.int .i64 u, .int .i64 v, .float .f32 c] 73) = W1 from (unhide HW1).symm, ← unhide HWB]
  clear HW1 HWB p0 hq
  refine wp_region_noPanic ?_
  refine regionL [] (fun y => y.cell? ⟨p, 1, none⟩ = some (.map (some mv)) ∧ y.cell? ⟨wb, 0, none⟩ = some (.int .i64 u) ∧ y.cell? ⟨wb, 1, none⟩ = some (.int .i64 v) ∧ (Instr.lookup 48 (.map (some mv)) (.int .i64 u) false).run Try.prog y = .ok (.pointer (some ⟨bu, 0, none⟩)) y ∧ (Instr.lookup 48 (.map (some mv)) (.int .i64 v) false).run Try.prog y = .ok (.pointer (some ⟨bv, 0, none⟩)) y) (by kernel_rfl) ⟨p1, y0, y1, l1, l2⟩ (fun hHeld => ?_)
  refine takeL (i := 0) (v := ?t9v0) (some 13) rfl rfl (by kernel_rfl) (by kernel_rfl) (by kernel_rfl) (by kernel_rfl) (by kernel_rfl) (fun _ _ _ h => h) (Or.inl ⟨by rfl, ?t9h0⟩) (by assumption) ?t9r0
  case t9h0 => (intro y hSu; (try dsimp only at hSu); go_simp; first | done | with_reducible rfl)
  (try simp only [Act.put, List.setIfInBounds_toArray, List.set_cons_zero, List.set_cons_succ])
  refine takeL (i := 1) (v := ?t9v1) (some 14) rfl rfl (by kernel_rfl) (by kernel_rfl) (by kernel_rfl) (by kernel_rfl) (by kernel_rfl) (fun _ _ _ h => h) (Or.inl ⟨by rfl, ?t9h1⟩) (by assumption) ?t9r1
  case t9h1 => (intro y hSu; (try dsimp only at hSu); go_simp; first | done | with_reducible rfl)
  (try simp only [Act.put, List.setIfInBounds_toArray, List.set_cons_zero, List.set_cons_succ])
  refine takeL (i := 2) (v := ?t9v2) (some 15) rfl rfl (by kernel_rfl) (by kernel_rfl) (by kernel_rfl) (by kernel_rfl) (by kernel_rfl) (fun _ _ _ h => h) (Or.inl ⟨by rfl, ?t9h2⟩) (by assumption) ?t9r2
  case t9h2 => (intro y hSu; (try dsimp only at hSu); go_simp; first | done | with_reducible rfl)
  (try simp only [Act.put, List.setIfInBounds_toArray, List.set_cons_zero, List.set_cons_succ])
  refine takeL (i := 3) (v := ?t9v3) (some 16) rfl rfl (by kernel_rfl) (by kernel_rfl) (by kernel_rfl) (by kernel_rfl) (by kernel_rfl) (fun _ _ _ h => h) (Or.inl ⟨by rfl, ?t9h3⟩) (by assumption) ?t9r3
  case t9h3 => (intro y hSu; (try dsimp only at hSu); go_simp; first | done | with_reducible rfl)
  (try simp only [Act.put, List.setIfInBounds_toArray, List.set_cons_zero, List.set_cons_succ])
  refine takeL (i := 4) (v := ?t9v4) (some 17) rfl rfl (by kernel_rfl) (by kernel_rfl) (by kernel_rfl) (by kernel_rfl) (by kernel_rfl) (fun _ _ _ h => h) (Or.inl ⟨by rfl, ?t9h4⟩) (by assumption) ?t9r4
  case t9h4 => (intro y hSu; (try dsimp only at hSu); go_simp; first | done | with_reducible rfl)
  (try simp only [Act.put, List.setIfInBounds_toArray, List.set_cons_zero, List.set_cons_succ])
  refine takeL (i := 5) (v := ?t9v5) (some 18) rfl rfl (by kernel_rfl) (by kernel_rfl) (by kernel_rfl) (by kernel_rfl) (by kernel_rfl) (fun _ _ _ h => h) (Or.inl ⟨by rfl, ?t9h5⟩) (by assumption) ?t9r5
  case t9h5 => (intro y hSu; (try dsimp only at hSu); go_simp; first | done | with_reducible rfl)
  (try simp only [Act.put, List.setIfInBounds_toArray, List.set_cons_zero, List.set_cons_succ])
  refine takeL (i := 6) (v := ?t9v6) (some 19) rfl rfl (by kernel_rfl) (by kernel_rfl) (by kernel_rfl) (by kernel_rfl) (by kernel_rfl) (fun _ _ _ h => h) (Or.inl ⟨by rfl, ?t9h6⟩) (by assumption) ?t9r6
  case t9h6 => (intro y hSu; (try dsimp only at hSu); go_simp; first | done | with_reducible rfl)
  (try simp only [Act.put, List.setIfInBounds_toArray, List.set_cons_zero, List.set_cons_succ])
  refine takeL (i := 7) (v := ?t9v7) (some 20) rfl rfl (by kernel_rfl) (by kernel_rfl) (by kernel_rfl) (by kernel_rfl) (by kernel_rfl) (fun _ _ _ h => h) (Or.inl ⟨by rfl, ?t9h7⟩) (by assumption) ?t9r7
  case t9h7 => (intro y hSu; (try dsimp only at hSu); go_simp; first | done | with_reducible rfl)
  (try simp only [Act.put, List.setIfInBounds_toArray, List.set_cons_zero, List.set_cons_succ])
  refine takeL (i := 8) (v := ?t9v8) (some 21) rfl rfl (by kernel_rfl) (by kernel_rfl) (by kernel_rfl) (by kernel_rfl) (by kernel_rfl) (fun _ _ _ h => h) (Or.inl ⟨by rfl, ?t9h8⟩) (by assumption) ?t9r8
  case t9h8 => (intro y hSu; (try dsimp only at hSu); go_simp; first | done | with_reducible rfl)
  (try simp only [Act.put, List.setIfInBounds_toArray, List.set_cons_zero, List.set_cons_succ])
  refine takeL (i := 9) (v := ?t9v9) (some 22) rfl rfl (by kernel_rfl) (by kernel_rfl) (by kernel_rfl) (by kernel_rfl) (by kernel_rfl) (fun _ _ _ h => h) (Or.inl ⟨by rfl, ?t9h9⟩) (by assumption) ?t9r9
  case t9h9 => (intro y hSu; (try dsimp only at hSu); go_simp; first | done | with_reducible rfl)
  (try simp only [Act.put, List.setIfInBounds_toArray, List.set_cons_zero, List.set_cons_succ])
  refine takeL (i := 10) (v := ?t9v10) (some 23) rfl rfl (by kernel_rfl) (by kernel_rfl) (by kernel_rfl) (by kernel_rfl) (by kernel_rfl) (fun _ _ _ h => h) (Or.inl ⟨by rfl, ?t9h10⟩) (by assumption) ?t9r10
  case t9h10 => (intro y hSu; (try dsimp only at hSu); go_simp; first | done | with_reducible rfl)
  (try simp only [Act.put, List.setIfInBounds_toArray, List.set_cons_zero, List.set_cons_succ])
  refine takeL (i := 11) (v := ?t9v11) (some 24) rfl rfl (by kernel_rfl) (by kernel_rfl) (by kernel_rfl) (by kernel_rfl) (by kernel_rfl) (fun _ _ _ h => h) (Or.inl ⟨by rfl, ?t9h11⟩) (by assumption) ?t9r11
  case t9h11 => (intro y hSu; (try dsimp only at hSu); go_simp; first | done | with_reducible rfl)
  (try simp only [Act.put, List.setIfInBounds_toArray, List.set_cons_zero, List.set_cons_succ])
  refine takeL (i := 12) (v := ?t9v12) (some 25) rfl rfl (by kernel_rfl) (by kernel_rfl) (by kernel_rfl) (by kernel_rfl) (by kernel_rfl) (fun _ _ _ h => h) (Or.inl ⟨by rfl, ?t9h12⟩) (by assumption) ?t9r12
  case t9h12 => (intro y hSu; (try dsimp only at hSu); go_simp; first | done | with_reducible rfl)
  (try simp only [Act.put, List.setIfInBounds_toArray, List.set_cons_zero, List.set_cons_succ])
  refine takeL (i := 13) (v := ?t9v13) (some 26) rfl rfl (by kernel_rfl) (by kernel_rfl) (by kernel_rfl) (by kernel_rfl) (by kernel_rfl) (fun _ _ _ h => h) (Or.inl ⟨by rfl, ?t9h13⟩) (by assumption) ?t9r13
  case t9h13 => (intro y hSu; (try dsimp only at hSu); go_simp; first | done | with_reducible rfl)
  (try simp only [Act.put, List.setIfInBounds_toArray, List.set_cons_zero, List.set_cons_succ])
  refine takeL (i := 14) (v := ?t9v14) (some 5) rfl rfl (by kernel_rfl) (by kernel_rfl) (by kernel_rfl) (by kernel_rfl) (by kernel_rfl) (fun _ _ _ h => h) (Or.inl ⟨by rfl, ?t9h14⟩) (by assumption) ?t9r14
  case t9h14 => (intro y hSu; (try dsimp only at hSu); go_simp; first | done | with_reducible rfl)
  (try simp only [Act.put, List.setIfInBounds_toArray, List.set_cons_zero, List.set_cons_succ])
  refine takeL (i := 15) (v := ?t9v15) (some 6) rfl rfl (by kernel_rfl) (by kernel_rfl) (by kernel_rfl) (by kernel_rfl) (by kernel_rfl) (fun _ _ _ h => h) (Or.inl ⟨by rfl, ?t9h15⟩) (by assumption) ?t9r15
  case t9h15 => (intro y hSu; (try dsimp only at hSu); go_simp; first | done | with_reducible rfl)
  (try simp only [Act.put, List.setIfInBounds_toArray, List.set_cons_zero, List.set_cons_succ])
  refine doneL (by kernel_rfl) ?_ _
  refine NoPanic.normal ?_
  clear hHeld p1 y0 y1 l1 l2
  go_wp2_with fail
  refine (unhide HC2).mono ?_
  rintro r w3 ⟨xa, xn, xc, rfl, H3⟩
  obtain ⟨⟨f1, f1'⟩, L1, h3, c3⟩ := unhide H3
  obtain ⟨iv, k2, C2⟩ := unhide HI L1 _ h3
  have HC3 := hide C2
  have HCH2 : Hid (ChL L w L1 (w3.setCell ⟨bu, 0, none⟩ (.slice xa xn xc))) := (unhide HCH).trans c3
  clear HC2 H3 HI HCH h3 c3 C2 k1'
  go_wp2_with fail
  refine (unhide HC3).mono ?_
  rintro r w4 ⟨ya, yn, yc, rfl, H4⟩
  obtain ⟨⟨f2, f2'⟩, L2, h4, c4⟩ := unhide H4
  obtain ⟨p5, w5, r5, h5, c5⟩ := unhide HD L2 _ h4
  have HE : Hid (PutA L w p mv me s tc V nv (putG E e none) ne T (updO O u (cutL (O u) e)) (updO I v (cutL (I v) e)) w5) := ⟨L2, h5, (unhide HCH2).trans (c4.trans c5)⟩
  clear HC3 H4 HCH2 h4 c4 k2 f1 f1' h5 c5 HD
  go_upto_region 4 with fail
  generalize w4.setCell ⟨bv, 1, none⟩ (.slice ya yn yc) = w6 at *
  go_wp2_with fail
  go_end0
  exact ⟨rfl, HE⟩
end
end Go.Proofs.Ytbmcibofecigeaa
