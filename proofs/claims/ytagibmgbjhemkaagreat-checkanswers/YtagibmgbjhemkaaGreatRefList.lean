/- The reference's lists: At, Edges, Out, In. -/
import Derived.Test.YtagibmgbjhemkaaGreatRefRead
namespace Go.Proofs.YtagibmgbjhemkaaGreat
open Go.RowKit Go.Maps

/-- The place of the edge e; -1: there is none. -/
def AtIs (es : List EdgeV) (e r : Int) : Prop := (∃ (i : Nat) (a : EdgeV), r = (i : Int) ∧ es[i]? = some a ∧ a.1 = e ∧ ∀ (j : Nat) (b : EdgeV), j < i → es[j]? = some b → b.1 ≠ e) ∨ (r = -1 ∧ ∀ (j : Nat) (b : EdgeV), es[j]? = some b → b.1 ≠ e)

set_option maxHeartbeats 1000000 in
set_option maxRecDepth 100000 in
theorem refAt {w : World} {vv ev : Value} {rd wr : Int} {es : List EdgeV} {B : Nat} (v : Int) (h : GRow B w ev es) (hl : es.length ≤ 1000000) :
    Calls Tryz.prog 38 #[.agg #[vv, ev, .int .i64 rd, .int .i64 wr], .int .i64 v] w fun e w' => ∃ r, e = .returned (.int .i64 r) ∧ Hid (AtIs es v r ∧ Below w.heap.size w w') := by
  have hb := below_new w (oG vv ev rd wr)
  have h1 := grow_below h hb
  obtain ⟨-, c1, -, -, -⟩ := cellsG (heap_alloc_new w (oG vv ev rd wr))
  have HB := hide hb
  have HC : Hid (∀ i, i < es.length → ∃ g c a, es[i]? = some a ∧ ev = .slice (some ⟨g, 0, none⟩) es.length c ∧ (w.alloc (oG vv ev rd wr)).cell? ⟨g, i * 4, none⟩ = some (.int .i64 a.1)) := fun i hi => by
    obtain ⟨g, c, e, hc⟩ := grow_at h1 (by omega)
    exact ⟨g, c, _, List.getElem?_eq_getElem hi, e, (hc i _ (List.getElem?_eq_getElem hi)).1⟩
  obtain ⟨a, n, c, hvv⟩ := grow_shape h1
  have hn : n = es.length := by
    rcases h1.2 with ⟨e, h0⟩ | ⟨g, cap, cur, e, -⟩
    · rw [hvv] at e; cases e; exact h0.symm
    · rw [hvv] at e; cases e; rfl
  have HL := hide hn
  rw [← hn] at HC hl
  have HLB : Hid (n ≤ 1000000) := hl
  clear h h1 hb hl hn
  subst hvv
  go_enter Tryz.func38, Tryz.ntmps38
  go_upto_region 1 with fail
  change Code.wp _ _ _ _ (w.alloc (oG vv (.slice a n c) rd wr))
  generalize w.alloc (oG vv (.slice a n c) rd wr) = wb at *
  generalize hbb : w.heap.size = bb at *
  go_wp2_with fail
  go_loopw [5] (fun s5 wr => ∃ i : Nat, s5 = .int .i64 i ∧ i ≤ n ∧ Hid (∀ (j : Nat) (b : EdgeV), j < i → es[j]? = some b → b.1 ≠ v) ∧ wr = wb) (fun s5 _ => n - (intOf s5).toNat)
  case atStart => exact ⟨0, rfl, by omega, fun j b hj => absurd hj (Nat.not_lt_zero _), rfl⟩
  case round =>
    obtain ⟨i, rfl, hi, hno, rfl⟩ := hrel
    by_cases h : i < n
    · obtain ⟨g, c', x, hx, e, hc⟩ := unhide HC i h
      injection e with e1 e2 e3
      subst e1 e3
      have hz : (i : Int) < (n : Int) := by omega
      obtain ⟨y, hy⟩ : ∃ y, y = x.1 := ⟨_, rfl⟩
      rw [← hy] at hc
      by_cases hxv : y = v
      · have HF : Hid (AtIs es v i) := .inl ⟨i, x, rfl, hx, hy.symm.trans hxv, unhide hno⟩
        clear hx hy
        subst hxv
        go_wp2_with fail
        go_ret
        exact ⟨_, rfl, unhide HF, by first | exact unhide HB | (rw [hbb]; exact unhide HB)⟩
      · have HN : Hid (∀ (j : Nat) (b : EdgeV), j < i + 1 → es[j]? = some b → b.1 ≠ v) := fun j b hj hjb => by
          rcases Nat.lt_or_ge j i with h' | h'
          · exact unhide hno j b h' hjb
          · obtain rfl : j = i := by omega
            rw [hx] at hjb
            cases hjb
            rw [← hy]; exact hxv
        clear hx hy
        go_wp2_with fail
        have hwi : wrap64 ((i : Int) + 1) = ((i + 1 : Nat) : Int) := by have := unhide HLB; unfold wrap64; omega
        (try rw [hwi])
        exact ⟨⟨i + 1, rfl, by omega, HN, by trivial⟩, by simp [intOf]; omega⟩
    · have hz : ¬ (i : Int) < (n : Int) := by omega
      have HF : Hid (AtIs es v (-1)) := .inr ⟨rfl, fun j b hjb => unhide hno j b (by have := (List.getElem?_eq_some_iff.1 hjb).1; have := unhide HL; omega) hjb⟩
      go_wp2_with fail
      go_ret
      exact ⟨_, rfl, unhide HF, by first | exact unhide HB | (rw [hbb]; exact unhide HB)⟩

/-- One number more. -/
theorem run_appI {B : Nat} {w : World} {v : Value} {ks : List Int} (x : Int) (h : BRow B w v ks) (hB : B ≤ w.heap.size) (hl : ks.length ≤ 2000000) :
    ∃ a' n' c' w', (∀ ty, (Builtin.append_ #[25, 25] ty #[v, .slice (some ⟨w.heap.size, 0, none⟩) 1 1]).run Tryz.prog (w.alloc (.cells #[.int .i64 x] 3)) = .ok (.slice a' n' c') w') ∧ BRow B w' (.slice a' n' c') (ks ++ [x]) ∧ Below B w w' := by
  have hb := below_new w (.cells #[.int .i64 x] 3)
  have h2 : NRow (w.alloc (.cells #[.int .i64 x] 3)) (.slice (some ⟨w.heap.size, 0, none⟩) 1 1) [x] := ⟨rfl, .inr ⟨w.heap.size, 1, #[.int .i64 x], rfl, Nat.zero_le _, heap_alloc_new _ _, Nat.le_refl _, by unfold maxLen; omega, rfl, rfl⟩⟩
  have h1 : BRow B (w.alloc (.cells #[.int .i64 x] 3)) v ks := brow_kept h (fun b e => hb.block b (h.lt b e).2)
  obtain ⟨v', w', hr, g1, g2⟩ := run_appN (Nat.le_trans hB hb.size) h1 h2 (by simp; omega)
  obtain ⟨a', c', e, -⟩ := brow_shape g1
  subst e
  refine ⟨a', _, c', w', hr, g1, ⟨g2.os.trans hb.os, g2.tape.trans hb.tape, g2.output.trans hb.output, Nat.le_trans hb.size g2.size, fun k hk => (g2.block k (Nat.lt_of_lt_of_le hk (Nat.le_trans hB hb.size)) (fun e => ?_)).trans (hb.block k (Nat.lt_of_lt_of_le hk hB))⟩⟩
  have := (h.lt k e.symm).1
  omega
end Go.Proofs.YtagibmgbjhemkaaGreat
