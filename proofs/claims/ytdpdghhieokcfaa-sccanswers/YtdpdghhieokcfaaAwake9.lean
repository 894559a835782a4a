/- awake: the document's example. -/
import Derived.Test.YtdpdghhieokcfaaSame9
namespace Go.Proofs.Ytdpdghhieokcfaa
open Go.RowKit Go.Maps T9
theorem sorted_ext {l l' : List Int} (h1 : l.Pairwise (· < ·)) (h2 : l'.Pairwise (· < ·)) (h : ∀ x, x ∈ l ↔ x ∈ l') : l = l' := by
  refine rising_ext (lt := fun a b => decide (a < b)) ⟨fun a => by simp, fun a b c h1 h2 => by simp at *; omega, fun a b hab => by simp; omega⟩ (h1.imp (fun q => by simpa using q)) (h2.imp (fun q => by simpa using q)) h
def vA : List Int := [7, 1, 4, 9]
def aA : List (Int × Int) := [(4, 9), (9, 4), (4, 1), (7, 7)]
theorem awake_comps {V : List Int} {h : Nat → Nat} (hp : V.Perm vA) (hs : V.Pairwise (· < ·)) (hH : Heads (nextOf V aA) V.length h) : compsV V h V.length = [[1], [4, 9], [7]] := by
  have hV : V = [1, 4, 7, 9] := sorted_ext hs (by decide) (fun x => by rw [hp.mem_iff]; unfold vA; simp; omega)
  subst hV
  have n0 : nextOf [1, 4, 7, 9] aA 0 = [] := by decide
  have n1 : nextOf [1, 4, 7, 9] aA 1 = [3, 0] := by decide
  have n2 : nextOf [1, 4, 7, 9] aA 2 = [2] := by decide
  have n3 : nextOf [1, 4, 7, 9] aA 3 = [1] := by decide
  have h0 : h 0 = 0 := by have := hH.le (p := 0) (by decide); omega
  have c0 : ∀ q, T9.Reach (nextOf [1, 4, 7, 9] aA) 0 q → q = 0 := fun q hq => Reach.closed (C := fun x => x = 0) (fun p hp q hq => by rw [hp, n0] at hq; cases hq) hq rfl
  have c2 : ∀ q, T9.Reach (nextOf [1, 4, 7, 9] aA) 2 q → q = 2 := fun q hq => Reach.closed (C := fun x => x = 2) (fun p hp q hq => by rw [hp, n2] at hq; simpa using hq) hq rfl
  have h2 : h 2 = 2 := c2 _ (hH 2 (by decide)).1
  have h1 : h 1 = 1 := by
    have hle := hH.le (p := 1) (by decide)
    have hr := (hH 1 (by decide)).2.1
    by_cases e : h 1 = 0
    · rw [e] at hr
      have := c0 _ hr
      omega
    · omega
  have h3 : h 3 = 1 := by
    rw [← h1]
    exact (hH.same (by decide) (by decide)).2 ⟨Reach.arc (by rw [n3]; simp), Reach.arc (by rw [n1]; simp)⟩
  have e : compsTo h 4 = compsTo (fun p => if p = 3 then 1 else p) 4 := compsTo_congr (fun p hp => by
    have : p = 0 ∨ p = 1 ∨ p = 2 ∨ p = 3 := by omega
    rcases this with rfl | rfl | rfl | rfl
    · exact h0
    · exact h1
    · exact h2
    · exact h3)
  show (compsTo h 4).map (cv [1, 4, 7, 9]) = _
  rw [e]
  decide
theorem row_new (w : World) (x : Array Value) (ks : List Int) (h : x.toList = ks.map (Value.int .i64)) (hl : ks.length ≤ 1000000) : BRow w.heap.size (w.alloc (.cells x 3)) (.slice (some ⟨w.heap.size, 0, none⟩) ks.length ks.length) ks := by
  have hs : x.size = ks.length := by rw [← Array.length_toList, h, List.length_map]
  refine ⟨by simp, .inr ⟨w.heap.size, ks.length, x, rfl, Nat.le_refl _, heap_alloc_new _ _, Nat.le_refl _, by unfold maxLen; omega, by omega, ?_⟩⟩
  rw [h, List.take_of_length_le (by simp)]
theorem arow_new (w : World) (x : Array Value) (l : List (Int × Int)) (h : x.toList = encA l) (hl : l.length ≤ 1000000) : (w.alloc (.cells x 47)).ownsRow w.heap.size 47 2 (.slice (some ⟨w.heap.size, 0, none⟩) l.length l.length) l.length (encA l) := by
  have hs : x.size = l.length * 2 := by rw [← Array.length_toList, h, encA_len]
  refine ⟨encA_len l, .inr ⟨w.heap.size, l.length, x, rfl, Nat.le_refl _, heap_alloc_new _ _, Nat.le_refl _, by unfold maxLen; omega, hs, ?_⟩⟩
  rw [h, List.take_of_length_le (by rw [encA_len]; exact Nat.le_refl _)]
theorem arow_zero {B : Nat} {w : World} {v : Value} {l : List (Int × Int)} (h : w.ownsRow B 47 2 v l.length (encA l)) : ARow w v l := ⟨h.1, h.2.imp id (fun ⟨g, cap, cur, e, _, r⟩ => ⟨g, cap, cur, e, Nat.zero_le _, r⟩)⟩
theorem lls_r {w w' : World} {v : Value} {xss : List (List Int)} (h : LLs w v xss w') : LLr w' v xss := by
  obtain ⟨L, lvs, h⟩ := h
  exact h.r
set_option maxHeartbeats 4000000 in
set_option maxRecDepth 100000 in
theorem awakeS (w : World) : Calls Try.prog 8 #[] w fun e w' => e = .returned (.bool true) ∧ Hid (Below w.heap.size w w') := by
  have hb1 := below_new w (.cells #[.int .i64 7, .int .i64 1, .int .i64 4, .int .i64 9] 3)
  have r1 := row_new w #[.int .i64 7, .int .i64 1, .int .i64 4, .int .i64 9] vA rfl (by decide)
  have hb2 := below_new (w.alloc (.cells #[.int .i64 7, .int .i64 1, .int .i64 4, .int .i64 9] 3)) (.cells #[.int .i64 4, .int .i64 9, .int .i64 9, .int .i64 4, .int .i64 4, .int .i64 1, .int .i64 7, .int .i64 7] 47)
  have r2 := arow_new (w.alloc (.cells #[.int .i64 7, .int .i64 1, .int .i64 4, .int .i64 9] 3)) #[.int .i64 4, .int .i64 9, .int .i64 9, .int .i64 4, .int .i64 4, .int .i64 1, .int .i64 7, .int .i64 7] aA rfl (by decide)
  rw [show (w.alloc (.cells #[.int .i64 7, .int .i64 1, .int .i64 4, .int .i64 9] 3)).heap.size = w.heap.size + 1 by simp] at r2
  have CO : Hid (Calls Try.prog 10 #[.slice (some ⟨w.heap.size, 0, none⟩) 4 4, .slice (some ⟨w.heap.size + 1, 0, none⟩) 4 4] ((w.alloc (.cells #[.int .i64 7, .int .i64 1, .int .i64 4, .int .i64 9] 3)).alloc (.cells #[.int .i64 4, .int .i64 9, .int .i64 9, .int .i64 4, .int .i64 4, .int .i64 1, .int .i64 7, .int .i64 7] 47)) fun e w' => Hid (ApAns ((w.alloc (.cells #[.int .i64 7, .int .i64 1, .int .i64 4, .int .i64 9] 3)).alloc (.cells #[.int .i64 4, .int .i64 9, .int .i64 9, .int .i64 4, .int .i64 4, .int .i64 1, .int .i64 7, .int .i64 7] 47)) vA aA (.slice none 0 0) (OfP ((w.alloc (.cells #[.int .i64 7, .int .i64 1, .int .i64 4, .int .i64 9] 3)).alloc (.cells #[.int .i64 4, .int .i64 9, .int .i64 9, .int .i64 4, .int .i64 4, .int .i64 1, .int .i64 7, .int .i64 7] 47))) e w')) := ofS (nrow_below (brow_at0 r1) hb2) (arow_zero r2) (by decide) (by decide)
  have HB : Hid (Below w.heap.size w ((w.alloc (.cells #[.int .i64 7, .int .i64 1, .int .i64 4, .int .i64 9] 3)).alloc (.cells #[.int .i64 4, .int .i64 9, .int .i64 9, .int .i64 4, .int .i64 4, .int .i64 1, .int .i64 7, .int .i64 7] 47))) := hb1.trans (hb2.mono hb1.size)
  clear hb1 r1 hb2 r2
  go_enter Try.func8, Try.ntmps8
  go_wp2_with fail
  refine (unhide CO).mono ?_
  intro r w2 hh
  obtain ⟨hb3, hcase⟩ := unhide hh
  clear CO hh
  rcases hcase with ⟨h1, -⟩ | ⟨-, h2, -⟩ | ⟨-, -, v, V, rfl, hp, hs, h, hH, -, hL⟩
  · exact absurd (show vA.Nodup by decide) h1
  · exact absurd (show okArcs vA aA by unfold okArcs; decide) h2
  · have hc := awake_comps hp hs hH
    rw [hc] at hL
    have hr := lls_r hL
    obtain ⟨vx, vc, ve, -⟩ := id hr
    have ve : v = .slice vx 3 vc := ve
    subst ve
    have HB3 : Hid (Below w.heap.size w w2) := (unhide HB).trans (hb3.mono (unhide HB).size)
    have b1 := below_new w2 (.cells #[.int .i64 1] 3)
    have b2 := below_new (w2.alloc (.cells #[.int .i64 1] 3)) (.cells #[.int .i64 4, .int .i64 9] 3)
    have b3 := below_new ((w2.alloc (.cells #[.int .i64 1] 3)).alloc (.cells #[.int .i64 4, .int .i64 9] 3)) (.cells #[.int .i64 7] 3)
    have b4 := below_new (((w2.alloc (.cells #[.int .i64 1] 3)).alloc (.cells #[.int .i64 4, .int .i64 9] 3)).alloc (.cells #[.int .i64 7] 3)) (.cells #[.slice (some ⟨w2.heap.size, 0, none⟩) 1 1, .slice (some ⟨w2.heap.size + 1, 0, none⟩) 2 2, .slice (some ⟨w2.heap.size + 1 + 1, 0, none⟩) 1 1] 22)
    have q1 := row_new w2 #[.int .i64 1] [1] rfl (by decide)
    have q2 := row_new (w2.alloc (.cells #[.int .i64 1] 3)) #[.int .i64 4, .int .i64 9] [4, 9] rfl (by decide)
    have q3 := row_new ((w2.alloc (.cells #[.int .i64 1] 3)).alloc (.cells #[.int .i64 4, .int .i64 9] 3)) #[.int .i64 7] [7] rfl (by decide)
    have s1 : (w2.alloc (.cells #[.int .i64 1] 3)).heap.size = w2.heap.size + 1 := by simp
    have s2 : ((w2.alloc (.cells #[.int .i64 1] 3)).alloc (.cells #[.int .i64 4, .int .i64 9] 3)).heap.size = w2.heap.size + 1 + 1 := by simp
    have s3 : (((w2.alloc (.cells #[.int .i64 1] 3)).alloc (.cells #[.int .i64 4, .int .i64 9] 3)).alloc (.cells #[.int .i64 7] 3)).heap.size = w2.heap.size + 1 + 1 + 1 := by simp
    have b14 := ((b1.trans (b2.mono b1.size)).trans (b3.mono (by omega))).trans (b4.mono (by omega))
    have b24 := ((b2.trans (b3.mono b2.size))).trans (b4.mono (by omega))
    have b34 := b3.trans (b4.mono b3.size)
    have hc4 : ((((w2.alloc (.cells #[.int .i64 1] 3)).alloc (.cells #[.int .i64 4, .int .i64 9] 3)).alloc (.cells #[.int .i64 7] 3)).alloc (.cells #[.slice (some ⟨w2.heap.size, 0, none⟩) 1 1, .slice (some ⟨w2.heap.size + 1, 0, none⟩) 2 2, .slice (some ⟨w2.heap.size + 1 + 1, 0, none⟩) 1 1] 22)).heap[w2.heap.size + 1 + 1 + 1]? = some (.cells #[.slice (some ⟨w2.heap.size, 0, none⟩) 1 1, .slice (some ⟨w2.heap.size + 1, 0, none⟩) 2 2, .slice (some ⟨w2.heap.size + 1 + 1, 0, none⟩) 1 1] 22) := by rw [← s3]; exact heap_alloc_new _ _
    have l2 : LLr ((((w2.alloc (.cells #[.int .i64 1] 3)).alloc (.cells #[.int .i64 4, .int .i64 9] 3)).alloc (.cells #[.int .i64 7] 3)).alloc (.cells #[.slice (some ⟨w2.heap.size, 0, none⟩) 1 1, .slice (some ⟨w2.heap.size + 1, 0, none⟩) 2 2, .slice (some ⟨w2.heap.size + 1 + 1, 0, none⟩) 1 1] 22)) (.slice (some ⟨w2.heap.size + 1 + 1 + 1, 0, none⟩) 3 3) [[1], [4, 9], [7]] := by
      refine ⟨some ⟨w2.heap.size + 1 + 1 + 1, 0, none⟩, 3, rfl, fun i ks hi => ⟨w2.heap.size + 1 + 1 + 1, ?_⟩⟩
      match i, hi with
      | 0, hi =>
        injection hi with hi
        subst hi
        exact ⟨_, rfl, (cell_of_row _ _ 0 _ _ (0, 0) hc4).trans rfl, nrow_below (brow_at0 q1) b24⟩
      | 1, hi =>
        injection hi with hi
        subst hi
        rw [s1] at q2
        exact ⟨_, rfl, (cell_of_row _ _ 1 _ _ (0, 0) hc4).trans rfl, nrow_below (brow_at0 q2) b34⟩
      | 2, hi =>
        injection hi with hi
        subst hi
        rw [s2] at q3
        exact ⟨_, rfl, (cell_of_row _ _ 2 _ _ (0, 0) hc4).trans rfl, nrow_below (brow_at0 q3) b4⟩
      | i + 3, hi => simp at hi
    have CS : Hid (Calls Try.prog 15 #[.slice vx 3 vc, .slice (some ⟨w2.heap.size + 1 + 1 + 1, 0, none⟩) 3 3] ((((w2.alloc (.cells #[.int .i64 1] 3)).alloc (.cells #[.int .i64 4, .int .i64 9] 3)).alloc (.cells #[.int .i64 7] 3)).alloc (.cells #[.slice (some ⟨w2.heap.size, 0, none⟩) 1 1, .slice (some ⟨w2.heap.size + 1, 0, none⟩) 2 2, .slice (some ⟨w2.heap.size + 1 + 1, 0, none⟩) 1 1] 22)) fun e w' => e = .returned (.bool true) ∧ Hid (Below w.heap.size w w')) := by
      refine (sameLists9 (llr_below hr b14) l2 (by decide) (by decide)).mono ?_
      rintro e w' ⟨he, q, rfl⟩
      have h5 := (unhide HB3).trans (b14.mono (unhide HB3).size)
      exact ⟨by rw [he]; rfl, ⟨h5.os, h5.tape, h5.output, h5.size, h5.block⟩⟩
    clear hc hL hr hp hs hH hb3 HB b1 b2 b3 b4 q1 q2 q3 s1 s2 s3 b14 b24 b34 hc4 l2
    go_wp2_with fail
    refine (unhide CS).mono ?_
    rintro e w3 ⟨rfl, hh⟩
    go_wp2_with fail
    go_ret
    exact ⟨rfl, hh⟩
end Go.Proofs.Ytdpdghhieokcfaa
