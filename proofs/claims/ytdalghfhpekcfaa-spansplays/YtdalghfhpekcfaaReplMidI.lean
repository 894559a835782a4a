/- slices.Replace over runs, in the middle of the list. -/
import Derived.Test.YtdalghfhpekcfaaReplI
namespace Go.Proofs.Ytdalghfhpekcfaa
open Go.RowKit Go.Shelf

set_option maxHeartbeats 1000000 in
set_option maxRecDepth 100000 in
/-- Without room. -/
theorem replGrowI (g c i j q m tot : Nat) (cur news : List Value) (w : World) (hR : Rowed w (some g) g 93 cur w) (hcl : cur.length = c * 2) (gv cv : Nat) (hv : LaidI w gv m news)
    (h0 : 0 < m) (hi : i < j) (hq : 0 < q) (hnc : j + q ≤ c) (htot : Hid (tot = i + m + q)) (hroom : c < tot) (hn : tot ≤ 1099511627780) (h1 : ∀ u ∈ (cur.drop (j * 2)).take (q * 2), u.oneCell' = true) :
    Calls Try.prog 70 #[.slice (some ⟨g, 0, none⟩) (j + q) c, .int .i64 i, .int .i64 j, .slice (some ⟨gv, 0, none⟩) m cv] w fun e w' => ∃ G cap cur1, e = .returned (.slice (some ⟨G, 0, none⟩) tot cap) ∧
      Rowed w none G 93 (splice (splice cur1 (i * 2) news) ((i + m) * 2) ((cur.drop (j * 2)).take (q * 2))) w' ∧ Hid (w.heap.size ≤ G ∧ cur1.length = cap * 2 ∧ cur1.take (i * 2) = cur.take (i * 2) ∧ tot ≤ cap ∧ cap ≤ maxLen) := by
  have ht := htot.out
  have hz1 : ¬ ((i : Int) = (j : Int)) := by omega
  have hz2 : ¬ ((j : Int) = (j : Int) + (q : Int)) := by omega
  have hz3 : ¬ (q = 0) := by omega
  have hw1 : IntKind.i64.wrap ((i : Int) + (m : Int)) = (i : Int) + (m : Int) := by rw [IntKind.wrap_i64]; omega
  have hw2 : IntKind.i64.wrap ((i : Int) + (m : Int) + (q : Int)) = (tot : Int) := by rw [IntKind.wrap_i64]; omega
  obtain ⟨k, hk⟩ : ∃ k : Nat, k = tot - i := ⟨_, rfl⟩
  have hw3 : IntKind.i64.wrap ((tot : Int) - (i : Int)) = (k : Int) := by rw [IntKind.wrap_i64]; omega
  have hn1 : (c : Int) < (tot : Int) := by omega
  have hb1 : (0 : Int) ≤ (i : Int) + (m : Int) := by omega
  have hb5 : (i : Int) ≤ (j : Int) := by omega
  have hb6 : (i : Int) ≤ (j : Int) + (q : Int) := by omega
  have hb7 : (j : Int) ≤ (j : Int) + (q : Int) := by omega
  have hb8 : (j : Int) ≤ (c : Int) := by omega
  have hb4 : ¬ (c = i) := by omega
  have hb4' : ¬ (c = j) := by omega
  have hic : i ≤ c := by omega
  have hjc : j ≤ c := by omega
  have htn : ((i : Int) + (m : Int)).toNat = i + m := by omega
  obtain ⟨i0, hi0, hz0, hzs, hzb⟩ := info_parts infoI
  have HZ : Hid (∀ nq, ∃ G w1 cap cur1, (∀ ty, (Builtin.append_ #[89, 3] ty #[.slice (some ⟨g, 0, none⟩) i c, .int .i64 k]).run Try.prog (w.drewN nq) = .ok (.slice (some ⟨G, 0, none⟩) tot cap) w1) ∧ Rowed w none G 93 cur1 w1 ∧ w.heap.size ≤ G ∧
      cur1.length = cap * 2 ∧ cur1.take (i * 2) = cur.take (i * 2) ∧ tot ≤ cap ∧ cap ≤ maxLen) := fun nq => by
    have hR' : Rowed (w.drewN nq) (some g) g 93 cur (w.drewN nq) := ⟨hR.heap, ⟨rfl, rfl, rfl, Nat.le_refl _, fun _ _ _ => rfl⟩⟩
    obtain ⟨w1, cap, cur1, hrun, hR1, hl1, ht1, hc1, hc2⟩ := run_zeros2 (P := Try.prog) hR' 89 i0 _ Try.underlying89 Try.underlying3 hi0 hz0 hzs rfl i c k (by omega) (by omega) (by omega) (by omega) (by rw [hzb]; omega)
    rw [show i + k = tot by omega] at hrun hc1
    exact ⟨_, w1, cap, cur1, hrun, ⟨hR1.heap, ⟨hR1.grown.os, hR1.grown.tape, hR1.grown.output, hR1.grown.size, hR1.grown.block⟩⟩, Nat.le_refl _, hl1, ht1, hc1, hc2⟩
  have hb11 : i ≤ tot := by omega
  have hb12 : (i : Int) ≤ (tot : Int) := by omega
  have hb13 : (i : Int) + (m : Int) ≤ (tot : Int) := by omega
  have hb14 : i + m ≤ tot := by omega
  obtain ⟨X, hX⟩ : ∃ X, X = (cur.drop (j * 2)).take (q * 2) := ⟨_, rfl⟩
  have lX : X.length = q * 2 := by rw [hX, List.length_take, List.length_drop, hcl]; omega
  have HV := hide hv
  have HX : Hid (X.length = Nat.min q (tot - (i + m)) * 2) := by
    show X.length = _
    rw [lX, show Nat.min q (tot - (i + m)) = q from by show min _ _ = _; omega]
  have e4 : Hid (∀ u ∈ X, u.oneCell' = true) := fun u hu => h1 u (hX ▸ hu)
  have e5 : Hid (∀ t v, X[t]? = some v → w.cell? ⟨g, j * 2 + t, none⟩ = some v) := fun t v hj => by
    rw [hR.cell]
    rw [hX, List.getElem?_take] at hj
    split at hj
    · rwa [List.getElem?_drop] at hj
    · cases hj
  have f1 : Hid (news.length = Nat.min m (tot - i) * 2) := by show _ = _; rw [hv.len, show Nat.min m (tot - i) = m from Nat.min_eq_left (by omega)]
  rw [← hX]
  have HL : Hid (X.length = q * 2 ∧ news.length = m * 2) := ⟨lX, hv.len⟩
  have HT : Hid (i + m < tot) := by show _ < _; omega
  clear hX lX h1 hR hv hn hi0 hcl hk ht
  go_enter Try.func70, Try.ntmps70
  go_wp2_with fail
  go_quiet (fail)
  obtain ⟨G, w1, cap, cur1, hrun, hR1, hG, hl1, ht1, hc1, hc2⟩ := HZ.out nq
  generalize w.drewN nq = W at hrun ⊢
  have hb9 : ¬ (cap = i) := by have := HT.out; omega
  have hb10 : ¬ (cap = i + m) := by have := HT.out; omega
  have f3 : Hid (i * 2 + news.length ≤ cur1.length) := by show _ ≤ _; rw [HL.out.2]; have := HT.out; omega
  have f4 : Hid ((i + m) * 2 + X.length ≤ (splice cur1 (i * 2) news).length) := by show _ ≤ _; rw [length_splice _ _ _ f3.out, HL.out.1]; have := htot.out; omega
  have H := hide (And.intro hG (And.intro hl1 (And.intro ht1 (And.intro hc1 hc2))))
  have HRun := hide hrun
  have hGg : w.heap.size ≤ G := hG
  clear hl1 ht1 hc1 hc2 hrun hG HZ HL HT
  have f2 : Hid (∀ j v, news[j]? = some v → w1.cell? ((⟨gv, 0, none⟩ : Addr).add j) = some v) := fun j v hj => by rw [add_g, Nat.zero_add]; exact hR1.other (HV.out.cells j v hj) (by simp)
  go_wp2_with (first
    | (at_builtin; refine Lib.wpList_append_run _ rfl _ _ 89 3 rfl (.slice (some ⟨g, 0, none⟩) i c) (.int .i64 k) rfl rfl _ _ (HRun.out _) ?_)
    | (refine wpList_copy3 rfl _ _ 89 89 rfl 93 Try.underlying89 sizeI (i * 2) (tot - i) (cap - i) ⟨gv, 0, none⟩ m cv rfl rfl hR1 (.inr hGg) news f1.out f2.out f3.out HV.out.one ?_; intro w4 hR4))
  have hR5 := hR4.drew1
  have f5 : Hid (∀ t v, X[t]? = some v → w4.drew.cell? ((⟨g, j * 2, none⟩ : Addr).add t) = some v) := fun t v hj => by
    rw [add_g]
    exact hR5.other (e5.out t v hj) (by simp)
  go_region_law (refine step_copy3 rfl (.tmp 78) (.tmp 81) 89 89 rfl 93 Try.underlying89 sizeI ((i + m) * 2) (tot - (i + m)) (cap - (i + m)) ⟨g, j * 2, none⟩ q (c - j) (by simp [Act.eval, Act.put]) (by simp [Act.eval, Act.put]) hR5 (.inr hGg) X HX.out f5.out f4.out e4.out ?_; intro w6 hR6)
  go_wp2_with fail
  go_ret
  exact ⟨G, cap, cur1, rfl, hR6, H⟩
end Go.Proofs.Ytdalghfhpekcfaa
