/- awake: the fixed fact. -/
import Derived.Test.YtijgeoegeeejcaaDom13
namespace Go.Proofs.Ytijgeoegeeejcaa
open Go.RowKit Go.Maps
def eA : List EdV := [(3, 1, 2, 1065353216)]
theorem faultA : faultC [1, 2] eA 1 = 0 := by decide
theorem wA0 : wyF [1, 2] eA 0 = [(3, 1, 1065353216)] := by decide
theorem wA1 : wyF [1, 2] eA 1 = [] := by decide
theorem awake_tree {B : Nat} {W : World} {p : Nat} {ds : List DiV} {fs : List Int} (h : TreeAt B W p 1 [1, 2] eA ds fs) :
    askC [1, 2] ds 2 = 0 ∧ askB [1, 2] ds 2 = 1065353216 ∧ askE [1, 2] ds 2 = 3 ∧ ∀ l, Back ds fs (plc [1, 2] 2) l → l = [3] := by
  obtain ⟨ord, hd⟩ := h.dj
  have hst : plc [1, 2] 1 = 0 := by decide
  have hp2 : plc [1, 2] 2 = 1 := by decide
  have hs := hd.src
  rw [hst] at hs
  have h0 : (0 : Nat) ∈ ord := by
    rcases hd.cov 0 (by decide) hs.2.1 with q | ⟨x, hx, -⟩
    · exact q
    · cases hx
  have h1 := (hd.han 0 h0 0 (3, 1, 1065353216) (by rw [wA0]; rfl) (fun e => by cases e)).1
  obtain ⟨pp, k1, y, k2, k3, k4, k5, k6, -⟩ := hd.hang 1 (by decide) h1 (by rw [hst]; decide)
  have hpp : pp < 2 := (hd.oin pp k1).1
  have hpp0 : pp = 0 := by
    by_cases e : pp = 1
    · subst e; rw [wA1] at k2; cases k2
    · omega
  subst hpp0
  rw [wA0] at k2
  have hy : y = (3, 1, 1065353216) := by simpa using k2
  subst hy
  rw [hs.2.2.1, M.addC_comm (by omega) (by decide), M.addC_zero (by decide)] at k5
  have ha : askC [1, 2] ds 2 = 0 := ask_ok.2 ⟨by decide, by rw [hp2]; exact h1⟩
  refine ⟨ha, by unfold askB; rw [if_pos ha, hp2]; exact k5, by unfold askE; rw [if_pos ha, hp2]; exact k4.symm, fun l hl => ?_⟩
  rw [hp2] at hl
  cases l with
  | nil => have : edgeAt ds 1 = 0 := hl; rw [← k4] at this; cases this
  | cons e l =>
    obtain ⟨e1, -, q, e3, e4⟩ := hl
    rw [k6] at e3
    have hq : q = 0 := by have := Option.some.inj e3; exact_mod_cast this.symm
    subst hq
    have he : e = 3 := by rw [e1, ← k4]
    subst he
    cases l with
    | nil => rfl
    | cons e' l' =>
      obtain ⟨f1, f2, -⟩ := e4
      rw [hs.2.2.2] at f1
      exact absurd f1 f2
set_option maxHeartbeats 4000000 in
set_option maxRecDepth 100000 in
theorem awakeS [Inhabited EntF] (w : World) : Calls Try.prog 8 #[] w fun e w' => e = .returned (.bool true) ∧ Hid (Below w.heap.size w w') := by
  have hb1 := below_new w (.cells #[.int .i64 1, .int .i64 2] 3)
  have r1 := row_new w #[.int .i64 1, .int .i64 2] [1, 2] rfl (by decide)
  have hb2 := below_new (w.alloc (.cells #[.int .i64 1, .int .i64 2] 3)) (.cells #[.int .i64 3, .int .i64 1, .int .i64 2, .int .u32 1065353216] 42)
  have r2 := erow_new (w.alloc (.cells #[.int .i64 1, .int .i64 2] 3)) #[.int .i64 3, .int .i64 1, .int .i64 2, .int .u32 1065353216] eA rfl (by decide)
  have hs1 : (w.alloc (.cells #[.int .i64 1, .int .i64 2] 3)).heap.size = w.heap.size + 1 := by simp
  have hB := hb1.trans (hb2.mono hb1.size)
  have C1 := hide (buildS (s := 1) (brow_at0 (brow_kept r1 (fun b e => hb2.block b (r1.lt b e).2))) (rrow_low r2 (Nat.zero_le _)) (by decide) (by decide))
  rw [hs1] at C1
  have HB := hide hB
  clear hb1 hb2 r1 r2 hs1 hB
  obtain ⟨W0, hW0⟩ : ∃ W0, W0 = (w.alloc (.cells #[.int .i64 1, .int .i64 2] 3)).alloc (.cells #[.int .i64 3, .int .i64 1, .int .i64 2, .int .u32 1065353216] 42) := ⟨_, rfl⟩
  rw [← hW0] at C1 HB
  have C1' : Hid (Calls Try.prog 10 #[.slice (some ⟨w.heap.size, 0, none⟩) 2 2, .slice (some ⟨w.heap.size + 1, 0, none⟩) 1 1, .int .i64 1] W0 fun e w' => ∃ po er, e = .returned (.tuple #[.pointer po, .int .i64 er]) ∧ Hid (BuildAns W0 [1, 2] eA 1 po er w')) := unhide C1
  clear C1
  have HW0 := hide hW0
  clear hW0
  go_enter Try.func8, Try.ntmps8
  go_wp2_with fail
  rw [← unhide HW0]
  refine (unhide C1').mono ?_
  rintro e w3 ⟨po, er, rfl, H3⟩
  obtain ⟨p, ds, fs, rfl, rfl, HT⟩ : ∃ p ds fs, po = some ⟨p, 0, none⟩ ∧ er = 0 ∧ Hid (TreeAt W0.heap.size w3 p 1 [1, 2] eA ds fs ∧ Below w.heap.size w w3) := by
    obtain ⟨ys, q1, q2, q3, q4, q5⟩ := unhide H3
    have hys : ys = [1, 2] := srt_eq q1 q2 (by decide)
    subst hys
    rw [faultA] at q4
    rcases q5 with ⟨z, -⟩ | ⟨-, p, ds, fs, e, hT⟩
    · exact absurd q4 z
    · exact ⟨p, ds, fs, e, q4, hT, (unhide HB).trans (q3.mono (unhide HB).size)⟩
  have C2 := hide (distT (unhide HT).1 2)
  rw [(awake_tree (unhide HT).1).1, (awake_tree (unhide HT).1).2.1] at C2
  clear C1' H3 HW0 HB
  go_wp2_with fail
  refine (unhide C2).mono ?_
  rintro e w4 ⟨rfl, hb4⟩
  have hT4 := (unhide HT).1.below (unhide hb4)
  have C3 := hide (pathT hT4 2)
  rw [(awake_tree hT4).1] at C3
  have HT4 : Hid (TreeAt W0.heap.size w4 p 1 [1, 2] eA ds fs ∧ Below w.heap.size w w4) := ⟨hT4, (unhide HT).2.trans ((unhide hb4).mono (unhide HT).2.size)⟩
  clear C2 hb4 hT4 HT
  go_wp2_with fail
  refine (unhide C3).mono ?_
  rintro e w5 ⟨a, n, c, rfl, H5⟩
  obtain ⟨g, rfl, rfl, k1⟩ : ∃ g, a = some ⟨g, 0, none⟩ ∧ n = 1 ∧ w5.cell? ⟨g, 0, none⟩ = some (.int .i64 3) := by
    obtain ⟨-, -, h5⟩ := unhide H5
    obtain ⟨l, l1, l2, -⟩ := h5 (awake_tree (unhide HT4).1).1
    have hl := (awake_tree (unhide HT4).1).2.2.2 l l1
    subst hl
    obtain ⟨g, rfl⟩ := brow_some l2 (by decide)
    obtain ⟨_, _, e, -⟩ := brow_shape l2
    injection e with _ e2 _
    subst e2
    exact ⟨g, rfl, rfl, brow_at l2 (j := 0) rfl⟩
  have hT5 := (unhide HT4).1.below (unhide H5).1
  have C4 := hide (lastT hT5 2)
  rw [(awake_tree hT5).2.2.1] at C4
  have C5 : Hid (∀ w6, Below w5.heap.size w5 w6 → Calls Try.prog 22 #[.pointer (some ⟨p, 0, none⟩)] w6 fun e w' => e = .returned (.int .i64 1) ∧ w' = w6) := fun w6 hb => sourceT (hT5.below hb)
  have HB5 : Hid (Below w.heap.size w w5) := (unhide HT4).2.trans ((unhide H5).1.mono (unhide HT4).2.size)
  clear C3 H5 hT5 HT4
  go_wp2_with fail
  refine (unhide C4).mono ?_
  rintro e w6 ⟨rfl, hb6⟩
  have C6 := hide (unhide C5 w6 (unhide hb6))
  have HB6 : Hid (Below w.heap.size w w6) := (unhide HB5).trans ((unhide hb6).mono (unhide HB5).size)
  clear C4 C5 hb6 HB5
  go_wp2_with fail
  refine (unhide C6).mono ?_
  rintro e w7 ⟨rfl, hw7⟩
  rw [hw7]
  clear C6 hw7 w7
  go_wp2_with fail
  go_ret
  exact ⟨rfl, HB6⟩
end Go.Proofs.Ytijgeoegeeejcaa
