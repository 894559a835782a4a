/- slices.Replace over runs: all its ways in one. -/
import Derived.Test.YtdalghfhpekcfaaInsertK
namespace Go.Proofs.Ytdalghfhpekcfaa

section
open Go.RowKit Go.Shelf
set_option maxHeartbeats 1000000 in
set_option maxRecDepth 100000 in
theorem insertEndK (v : Value) (n m : Nat) (xs news : List Value) (w : World) (hown : w.ownsRow 0 107 2 v n xs) (gv cv : Nat) (hv : LaidK w gv m news) (h0 : 0 < m) (h63 : n + m ≤ 1099511627780) :
    Calls Try.prog 101 #[v, .int .i64 n, .slice (some ⟨gv, 0, none⟩) m cv] w fun e w' => ∃ g' cap', e = .returned (.slice (some ⟨g', 0, none⟩) (n + m) cap') ∧ w'.ownsRow 0 107 2 (.slice (some ⟨g', 0, none⟩) (n + m) cap') (n + m) (xs ++ news) ∧ w.grownBy w' v.ownBlock ∧ Hid (v.ownBlock = some g' ∨ w.heap.size ≤ g') := by
  obtain ⟨i0, hi0, hz0, hzs, hzb⟩ := info_parts infoK
  obtain ⟨g', cap', w1, hrun, h1, h2, h3⟩ := run_append2 (P := Try.prog) 102 102 107 i0 _ Try.underlying102 hi0 hz0 hzs rfl (by rw [hzb]; omega) v n xs hown ⟨gv, 0, none⟩ m cv news hv.len (fun j u hj => by rw [add_g, Nat.zero_add]; exact hv.cells j u hj) hv.one h0 h63
  have hz1 : ¬ ((m : Int) = 0) := by omega
  have HRun := hide hrun
  have H1 := hide h1
  have H2 := hide h2
  rcases hown.2 with ⟨rfl, rfl⟩ | ⟨g, cap, cur, rfl, hbg, hg, hnc, hcm, hcs, htake⟩
  · clear hrun h1 h2 hown hv h63 hi0
    go_enter Try.func101, Try.ntmps101
    go_wp2_with (at_builtin; refine Lib.wpList_append_run _ rfl _ _ 102 102 rfl (.slice none 0 0) (.slice (some ⟨gv, 0, none⟩) m cv) rfl rfl _ _ HRun.out ?_)
    go_ret
    exact ⟨g', cap', by rw [Nat.zero_add]; rfl, H1.out, H2.out, h3⟩
  · clear hrun h1 h2 hown hv h63 hi0 hg hcm hcs htake
    go_enter Try.func101, Try.ntmps101
    go_wp2_with (at_builtin; refine Lib.wpList_append_run _ rfl _ _ 102 102 rfl (.slice (some ⟨g, 0, none⟩) n cap) (.slice (some ⟨gv, 0, none⟩) m cv) rfl rfl _ _ HRun.out ?_)
    all_goals go_ret
    all_goals exact ⟨g', cap', rfl, H1.out, H2.out, h3⟩

set_option maxHeartbeats 1000000 in
set_option maxRecDepth 100000 in
/-- Up to the end, what is put in is no shorter. -/
theorem replEndK (g c i n m : Nat) (xs news : List Value) (w : World) (hown : w.ownsRow 0 107 2 (.slice (some ⟨g, 0, none⟩) i c) i xs) (gv cv : Nat) (hv : LaidK w gv m news) (h0 : 0 < m) (h63 : i + m ≤ 1099511627780) (hi : i < n) (hnc : n ≤ c) (hm : n ≤ i + m) :
    Calls Try.prog 78 #[.slice (some ⟨g, 0, none⟩) n c, .int .i64 i, .int .i64 n, .slice (some ⟨gv, 0, none⟩) m cv] w fun e w' => ∃ g' cap', e = .returned (.slice (some ⟨g', 0, none⟩) (i + m) cap') ∧ w'.ownsRow 0 107 2 (.slice (some ⟨g', 0, none⟩) (i + m) cap') (i + m) (xs ++ news) ∧ w.grownBy w' (some g) ∧ Hid (g' = g ∨ w.heap.size ≤ g') := by
  obtain ⟨i0, hi0, hz0, hzs, hzb⟩ := info_parts infoK
  obtain ⟨g', cap', w1, hrun, h1, h2, h3⟩ := run_append2 (P := Try.prog) 102 102 107 i0 _ Try.underlying102 hi0 hz0 hzs rfl (by rw [hzb]; omega) _ i xs hown ⟨gv, 0, none⟩ m cv news hv.len (fun j u hj => by rw [add_g, Nat.zero_add]; exact hv.cells j u hj) hv.one h0 h63
  have hz1 : ¬ ((i : Int) = (n : Int)) := by omega
  have hz2 : ¬ ((i : Int) + (m : Int) < (n : Int)) := by omega
  have hb4 : ¬ (c = i) := by omega
  have hb5 : (i : Int) ≤ (n : Int) := by omega
  have hb6 : (n : Int) ≤ (c : Int) := by omega
  have hic : i ≤ c := by omega
  have HRun := hide hrun
  have H1 := hide h1
  have H2 := hide h2
  clear hrun h1 h2 hown hv h63 hi0
  go_enter Try.func78, Try.ntmps78
  go_wp2_with (at_builtin; refine Lib.wpList_append_run _ rfl _ _ 102 102 rfl (.slice (some ⟨g, 0, none⟩) i c) (.slice (some ⟨gv, 0, none⟩) m cv) rfl rfl _ _ HRun.out ?_)
  go_ret
  exact ⟨g', cap', rfl, H1.out, H2.out, h3.out.imp (fun h => by simpa [Value.ownBlock, eq_comm] using h) id⟩

set_option maxHeartbeats 1000000 in
set_option maxRecDepth 100000 in
/-- Up to the end, what is put in is shorter. -/
theorem replCutK (g c i n m : Nat) (cur news : List Value) (w : World) (hR : Rowed w (some g) g 107 cur w) (hcl : cur.length = c * 2) (gv cv : Nat) (hv : LaidK w gv m news) (hi : i < n) (hnc : n ≤ c) (hm : i + m < n) (_B : Hid (c ≤ 9223372036854775807)) :
    Calls Try.prog 78 #[.slice (some ⟨g, 0, none⟩) n c, .int .i64 i, .int .i64 n, .slice (some ⟨gv, 0, none⟩) m cv] w fun e w' => e = .returned (.slice (some ⟨g, 0, none⟩) (i + m) c) ∧ ∃ cur', Rowed w (some g) g 107 cur' w' ∧
      Hid (cur'.length = (splice cur (i * 2) news).length ∧ cur'.take ((i + m) * 2) = (splice cur (i * 2) news).take ((i + m) * 2)) := by
  obtain ⟨i0, hi0, hz0, hzs, hzb⟩ := info_parts infoK
  obtain ⟨w1, hrun, hR1⟩ := run_room2 (P := Try.prog) hR 102 102 i0 Try.underlying102 hi0 hzs i c ⟨gv, 0, none⟩ m cv news hv.len (fun j u hj => by rw [add_g, Nat.zero_add]; exact hv.cells j u hj) hv.one (by omega) hcl
  have f1 : Hid ((i + m) * 2 + (n - (i + m)) * 2 ≤ (splice cur (i * 2) news).length) := by
    show _ ≤ _
    rw [length_splice _ _ _ (by rw [hv.len]; omega)]; omega
  have hz1 : ¬ ((i : Int) = (n : Int)) := by omega
  have hz2 : (i : Int) + (m : Int) < (n : Int) := by omega
  have hb4 : ¬ (c = i) := by omega
  have hb4' : ¬ (c = i + m) := by omega
  have hb5 : (i : Int) ≤ (n : Int) := by omega
  have hb6 : (n : Int) ≤ (c : Int) := by omega
  have hb7 : (i : Int) + (m : Int) ≤ (n : Int) := by omega
  have hb8 : (0 : Int) ≤ (i : Int) + (m : Int) := by omega
  have htn : ((i : Int) + (m : Int)).toNat = i + m := by omega
  have hic : i ≤ c := by omega
  have HRun := hide hrun
  clear hrun hv hi0 hR hcl
  go_enter Try.func78, Try.ntmps78
  go_wp2_with (first
    | (at_builtin; refine Lib.wpList_append_run _ rfl _ _ 102 102 rfl (.slice (some ⟨g, 0, none⟩) i c) (.slice (some ⟨gv, 0, none⟩) m cv) rfl rfl _ _ HRun.out ?_)
    | (refine wpList_clear2 rfl _ 102 rfl 107 _ Try.underlying102 Try.zeroValue107 rfl (by simp [Value.cells]; rfl) (some ⟨g, (i + m) * 2, none⟩) (n - (i + m)) (c - (i + m)) ((i + m) * 2) rfl hR1 (.inl rfl) (fun _ => rfl) f1.out ?_; intro w2 cur2 hR2 hC2))
  go_ret
  exact ⟨rfl, cur2, hR2, hC2⟩

set_option maxHeartbeats 1000000 in
set_option maxRecDepth 100000 in
/-- Up to the end, nothing is put in. -/
theorem replCutNilK (g c i n : Nat) (cur : List Value) (w : World) (hR : Rowed w (some g) g 107 cur w) (hown : w.ownsRow 0 107 2 (.slice (some ⟨g, 0, none⟩) i c) i (cur.take (i * 2))) (hcl : cur.length = c * 2) (hi : i < n) (hnc : n ≤ c) (_B : Hid (c ≤ 9223372036854775807)) :
    Calls Try.prog 78 #[.slice (some ⟨g, 0, none⟩) n c, .int .i64 i, .int .i64 n, .slice none 0 0] w fun e w' => e = .returned (.slice (some ⟨g, 0, none⟩) i c) ∧ ∃ cur', Rowed w (some g) g 107 cur' w' ∧
      Hid (cur'.length = cur.length ∧ cur'.take (i * 2) = cur.take (i * 2)) := by
  obtain ⟨i0, hi0, hz0, hzs, hzb⟩ := info_parts infoK
  have hrun := run_append_owned_none (P := Try.prog) (w := w) 0 102 102 107 i0 2 Try.underlying102 hi0 _ i _ hown
  have f1 : Hid (i * 2 + (n - i) * 2 ≤ cur.length) := by show _ ≤ _; omega
  have hz1 : ¬ ((i : Int) = (n : Int)) := by omega
  have hz2 : (i : Int) < (n : Int) := by omega
  have hb4 : ¬ (c = i) := by omega
  have hb5 : (i : Int) ≤ (n : Int) := by omega
  have hb6 : (n : Int) ≤ (c : Int) := by omega
  have hic : i ≤ c := by omega
  have HRun := hide hrun
  clear hrun hi0 hcl hown
  go_enter Try.func78, Try.ntmps78
  go_wp2_with (first
    | (at_builtin; refine Lib.wpList_append_run _ rfl _ _ 102 102 rfl (.slice (some ⟨g, 0, none⟩) i c) (.slice none 0 0) rfl rfl _ _ HRun.out ?_)
    | (refine wpList_clear2 rfl _ 102 rfl 107 _ Try.underlying102 Try.zeroValue107 rfl (by simp [Value.cells]; rfl) (some ⟨g, i * 2, none⟩) (n - i) (c - i) (i * 2) rfl hR (.inl rfl) (fun _ => rfl) f1.out ?_; intro w2 cur2 hR2 hC2))
  go_ret
  exact ⟨rfl, cur2, hR2, hC2⟩
end

section
open Go.RowKit Go.Shelf
set_option maxHeartbeats 1000000 in
set_option maxRecDepth 100000 in
/-- Without room. -/
theorem replGrowK (g c i j q m tot : Nat) (cur news : List Value) (w : World) (hR : Rowed w (some g) g 107 cur w) (hcl : cur.length = c * 2) (gv cv : Nat) (hv : LaidK w gv m news)
    (h0 : 0 < m) (hi : i < j) (hq : 0 < q) (hnc : j + q ≤ c) (htot : Hid (tot = i + m + q)) (hroom : c < tot) (hn : tot ≤ 1099511627780) (h1 : ∀ u ∈ (cur.drop (j * 2)).take (q * 2), u.oneCell' = true) :
    Calls Try.prog 78 #[.slice (some ⟨g, 0, none⟩) (j + q) c, .int .i64 i, .int .i64 j, .slice (some ⟨gv, 0, none⟩) m cv] w fun e w' => ∃ G cap cur1, e = .returned (.slice (some ⟨G, 0, none⟩) tot cap) ∧
      Rowed w none G 107 (splice (splice cur1 (i * 2) news) ((i + m) * 2) ((cur.drop (j * 2)).take (q * 2))) w' ∧ Hid (w.heap.size ≤ G ∧ cur1.length = cap * 2 ∧ cur1.take (i * 2) = cur.take (i * 2) ∧ tot ≤ cap ∧ cap ≤ maxLen) := by
  have ht := htot.out
  have hz1 : ¬ ((i : Int) = (j : Int)) := by omega
  have hz2 : ¬ ((j : Int) = (j : Int) + (q : Int)) := by omega
  have hz3 : ¬ (q = 0) := by omega
  have hw1 : IntKind.i64.wrap ((i : Int) + (m : Int)) = (i : Int) + (m : Int) := by rw [IntKind.wrap_i64]; omega
  have hw2 : IntKind.i64.wrap ((i : Int) + (m : Int) + (q : Int)) = (tot : Int) := by rw [IntKind.wrap_i64]; omega
  obtain ⟨k, hk⟩ : ∃ k : Nat, k = tot - i := ⟨_, rfl⟩
  have hw3 : IntKind.i64.wrap ((tot : Int) - (i : Int)) = (k : Int) := by rw [IntKind.wrap_i64]; omega
  have hn1 : (c : Int) < (tot : Int) := by omega
  have hb1 : (0 : Int) ≤ (i : Int) + (m : Int) := by omega
  have hb5 : (i : Int) ≤ (j : Int) := by omega
  have hb6 : (i : Int) ≤ (j : Int) + (q : Int) := by omega
  have hb7 : (j : Int) ≤ (j : Int) + (q : Int) := by omega
  have hb8 : (j : Int) ≤ (c : Int) := by omega
  have hb4 : ¬ (c = i) := by omega
  have hb4' : ¬ (c = j) := by omega
  have hic : i ≤ c := by omega
  have hjc : j ≤ c := by omega
  have htn : ((i : Int) + (m : Int)).toNat = i + m := by omega
  obtain ⟨i0, hi0, hz0, hzs, hzb⟩ := info_parts infoK
  have HZ : Hid (∀ nq, ∃ G w1 cap cur1, (∀ ty, (Builtin.append_ #[102, 3] ty #[.slice (some ⟨g, 0, none⟩) i c, .int .i64 k]).run Try.prog (w.drewN nq) = .ok (.slice (some ⟨G, 0, none⟩) tot cap) w1) ∧ Rowed w none G 107 cur1 w1 ∧ w.heap.size ≤ G ∧
      cur1.length = cap * 2 ∧ cur1.take (i * 2) = cur.take (i * 2) ∧ tot ≤ cap ∧ cap ≤ maxLen) := fun nq => by
    have hR' : Rowed (w.drewN nq) (some g) g 107 cur (w.drewN nq) := ⟨hR.heap, ⟨rfl, rfl, rfl, Nat.le_refl _, fun _ _ _ => rfl⟩⟩
    obtain ⟨w1, cap, cur1, hrun, hR1, hl1, ht1, hc1, hc2⟩ := run_zeros2 (P := Try.prog) hR' 102 i0 _ Try.underlying102 Try.underlying3 hi0 hz0 hzs rfl i c k (by omega) (by omega) (by omega) (by omega) (by rw [hzb]; omega)
    rw [show i + k = tot by omega] at hrun hc1
    exact ⟨_, w1, cap, cur1, hrun, ⟨hR1.heap, ⟨hR1.grown.os, hR1.grown.tape, hR1.grown.output, hR1.grown.size, hR1.grown.block⟩⟩, Nat.le_refl _, hl1, ht1, hc1, hc2⟩
  have hb11 : i ≤ tot := by omega
  have hb12 : (i : Int) ≤ (tot : Int) := by omega
  have hb13 : (i : Int) + (m : Int) ≤ (tot : Int) := by omega
  have hb14 : i + m ≤ tot := by omega
  obtain ⟨X, hX⟩ : ∃ X, X = (cur.drop (j * 2)).take (q * 2) := ⟨_, rfl⟩
  have lX : X.length = q * 2 := by rw [hX, List.length_take, List.length_drop, hcl]; omega
  have HV := hide hv
  have HX : Hid (X.length = Nat.min q (tot - (i + m)) * 2) := by
    show X.length = _
    rw [lX, show Nat.min q (tot - (i + m)) = q from by show min _ _ = _; omega]
  have e4 : Hid (∀ u ∈ X, u.oneCell' = true) := fun u hu => h1 u (hX ▸ hu)
  have e5 : Hid (∀ t v, X[t]? = some v → w.cell? ⟨g, j * 2 + t, none⟩ = some v) := fun t v hj => by
    rw [hR.cell]
    rw [hX, List.getElem?_take] at hj
    split at hj
    · rwa [List.getElem?_drop] at hj
    · cases hj
  have f1 : Hid (news.length = Nat.min m (tot - i) * 2) := by show _ = _; rw [hv.len, show Nat.min m (tot - i) = m from Nat.min_eq_left (by omega)]
  rw [← hX]
  have HL : Hid (X.length = q * 2 ∧ news.length = m * 2) := ⟨lX, hv.len⟩
  have HT : Hid (i + m < tot) := by show _ < _; omega
  clear hX lX h1 hR hv hn hi0 hcl hk ht
  go_enter Try.func78, Try.ntmps78
  go_wp2_with fail
  go_quiet (fail)
  obtain ⟨G, w1, cap, cur1, hrun, hR1, hG, hl1, ht1, hc1, hc2⟩ := HZ.out nq
  generalize w.drewN nq = W at hrun ⊢
  have hb9 : ¬ (cap = i) := by have := HT.out; omega
  have hb10 : ¬ (cap = i + m) := by have := HT.out; omega
  have f3 : Hid (i * 2 + news.length ≤ cur1.length) := by show _ ≤ _; rw [HL.out.2]; have := HT.out; omega
  have f4 : Hid ((i + m) * 2 + X.length ≤ (splice cur1 (i * 2) news).length) := by show _ ≤ _; rw [length_splice _ _ _ f3.out, HL.out.1]; have := htot.out; omega
  have H := hide (And.intro hG (And.intro hl1 (And.intro ht1 (And.intro hc1 hc2))))
  have HRun := hide hrun
  have hGg : w.heap.size ≤ G := hG
  clear hl1 ht1 hc1 hc2 hrun hG HZ HL HT
  have f2 : Hid (∀ j v, news[j]? = some v → w1.cell? ((⟨gv, 0, none⟩ : Addr).add j) = some v) := fun j v hj => by rw [add_g, Nat.zero_add]; exact hR1.other (HV.out.cells j v hj) (by simp)
  go_wp2_with (first
    | (at_builtin; refine Lib.wpList_append_run _ rfl _ _ 102 3 rfl (.slice (some ⟨g, 0, none⟩) i c) (.int .i64 k) rfl rfl _ _ (HRun.out _) ?_)
    | (refine wpList_copy3 rfl _ _ 102 102 rfl 107 Try.underlying102 sizeK (i * 2) (tot - i) (cap - i) ⟨gv, 0, none⟩ m cv rfl rfl hR1 (.inr hGg) news f1.out f2.out f3.out HV.out.one ?_; intro w4 hR4))
  have hR5 := hR4.drew1
  have f5 : Hid (∀ t v, X[t]? = some v → w4.drew.cell? ((⟨g, j * 2, none⟩ : Addr).add t) = some v) := fun t v hj => by
    rw [add_g]
    exact hR5.other (e5.out t v hj) (by simp)
  go_region_law (refine step_copy3 rfl (.tmp 78) (.tmp 81) 102 102 rfl 107 Try.underlying102 sizeK ((i + m) * 2) (tot - (i + m)) (cap - (i + m)) ⟨g, j * 2, none⟩ q (c - j) (by simp [Act.eval, Act.put]) (by simp [Act.eval, Act.put]) hR5 (.inr hGg) X HX.out f5.out f4.out e4.out ?_; intro w6 hR6)
  go_wp2_with fail
  go_ret
  exact ⟨G, cap, cur1, rfl, hR6, H⟩
end

section
open Go.RowKit Go.Shelf
set_option maxHeartbeats 1000000 in
set_option maxRecDepth 100000 in
/-- What is put in is no longer than what goes. -/
theorem replFitK (g c i j q m tot : Nat) (cur news : List Value) (w : World) (hR : Rowed w (some g) g 107 cur w) (hcl : cur.length = c * 2) (gv cv : Nat) (hv : LaidK w gv m news) (_hne : gv ≠ g)
    (h0 : 0 < m) (hi : i < j) (hq : 0 < q) (hnc : j + q ≤ c) (htot : Hid (tot = i + m + q)) (hfit : i + m ≤ j) (B : Hid (c ≤ 9223372036854775807)) (h1 : ∀ u ∈ (cur.drop (j * 2)).take (q * 2), u.oneCell' = true) :
    Calls Try.prog 78 #[.slice (some ⟨g, 0, none⟩) (j + q) c, .int .i64 i, .int .i64 j, .slice (some ⟨gv, 0, none⟩) m cv] w fun e w' => e = .returned (.slice (some ⟨g, 0, none⟩) tot c) ∧ ∃ cur', Rowed w (some g) g 107 cur' w' ∧
      Hid (cur'.length = (splice (splice cur (i * 2) news) ((i + m) * 2) ((cur.drop (j * 2)).take (q * 2))).length ∧ cur'.take (tot * 2) = (splice (splice cur (i * 2) news) ((i + m) * 2) ((cur.drop (j * 2)).take (q * 2))).take (tot * 2)) := by
  have ht := htot.out
  have hB := B.out
  have hz1 : ¬ ((i : Int) = (j : Int)) := by omega
  have hz2 : ¬ ((j : Int) = (j : Int) + (q : Int)) := by omega
  have hz3 : ¬ (q = 0) := by omega
  have hw1 : IntKind.i64.wrap ((i : Int) + (m : Int)) = (i : Int) + (m : Int) := by rw [IntKind.wrap_i64]; omega
  have hw2 : IntKind.i64.wrap ((i : Int) + (m : Int) + (q : Int)) = (tot : Int) := by rw [IntKind.wrap_i64]; omega
  have hn1 : ¬ ((c : Int) < (tot : Int)) := by omega
  have hn2 : (i : Int) + (m : Int) ≤ (j : Int) := by omega
  have hb1 : (0 : Int) ≤ (i : Int) + (m : Int) := by omega
  have hb5 : (i : Int) ≤ (j : Int) := by omega
  have hb6 : (i : Int) ≤ (j : Int) + (q : Int) := by omega
  have hb7 : (j : Int) ≤ (j : Int) + (q : Int) := by omega
  have hb8 : (j : Int) ≤ (c : Int) := by omega
  have hb4 : ¬ (c = i) := by omega
  have hb4' : ¬ (c = j) := by omega
  have hb10 : ¬ (c = i + m) := by omega
  have hic : i ≤ c := by omega
  have hjc : j ≤ c := by omega
  have htc : tot ≤ c := by omega
  have htc' : (tot : Int) ≤ (c : Int) := by omega
  have htc2 : (tot : Int) ≤ (j : Int) + (q : Int) := by omega
  have htc3 : tot ≤ j + q := by omega
  have htn : ((i : Int) + (m : Int)).toNat = i + m := by omega
  have hb11 : i ≤ tot := by omega
  have hb12 : (i : Int) ≤ (tot : Int) := by omega
  have hb13 : (i : Int) + (m : Int) ≤ (tot : Int) := by omega
  have hb14 : i + m ≤ tot := by omega
  obtain ⟨X, hX⟩ : ∃ X, X = (cur.drop (j * 2)).take (q * 2) := ⟨_, rfl⟩
  have lX : X.length = q * 2 := by rw [hX, List.length_take, List.length_drop, hcl]; omega
  have HV := hide hv
  have HX : Hid (X.length = Nat.min q (tot - (i + m)) * 2) := by
    show X.length = _
    rw [lX, show Nat.min q (tot - (i + m)) = q from by show min _ _ = _; omega]
  have e4 : Hid (∀ u ∈ X, u.oneCell' = true) := fun u hu => h1 u (hX ▸ hu)
  have f3 : Hid (i * 2 + news.length ≤ cur.length) := by show _ ≤ _; rw [hv.len]; omega
  have f4 : Hid ((i + m) * 2 + X.length ≤ (splice cur (i * 2) news).length) := by show _ ≤ _; rw [length_splice _ _ _ f3.out]; omega
  have f6 : Hid (tot * 2 + (j + q - tot) * 2 ≤ (splice (splice cur (i * 2) news) ((i + m) * 2) X).length) := by show _ ≤ _; rw [length_splice _ _ _ f4.out, length_splice _ _ _ f3.out]; omega
  have f1 : Hid (news.length = Nat.min m (tot - i) * 2) := by show _ = _; rw [hv.len, show Nat.min m (tot - i) = m from Nat.min_eq_left (by omega)]
  have e5 : Hid (∀ t v, X[t]? = some v → (splice cur (i * 2) news)[j * 2 + t]? = some v) := fun t v hj => by
    rw [hX, List.getElem?_take] at hj
    split at hj
    · rw [List.getElem?_drop] at hj
      rw [get_splice _ _ _ f3.out, if_neg (by omega), if_neg (by rw [hv.len]; omega)]
      exact hj
    · cases hj
  have HRQ : Hid (∀ nq, Rowed w (some g) g 107 cur (w.drewN nq)) := fun nq => hR.drew nq
  have f0 : Hid (∀ nq, ∀ j v, news[j]? = some v → (w.drewN nq).cell? ((⟨gv, 0, none⟩ : Addr).add j) = some v) := fun nq j v hj => by rw [add_g, Nat.zero_add]; exact hv.cells j v hj
  have hct : (c = tot → j + q - tot = 0) := by omega
  have HCT := hide hct
  rw [← hX]
  clear hX lX h1 hR hv hcl ht hB hct
  by_cases hctq : c = tot
  · have hl0 := HCT.out hctq
    subst hctq
    have f6 : Hid (c * 2 + 0 * 2 ≤ (splice (splice cur (i * 2) news) ((i + m) * 2) X).length) := by have := f6.out; rw [hl0] at this; exact this
    go_enter Try.func78, Try.ntmps78
    go_wp2_with fail
    go_quiet (fail)
    have hR1 := HRQ.out nq
    have f2 := hide (f0.out nq)
    generalize w.drewN nq = W at hR1 f2 ⊢
    go_wp2_with (refine wpList_copy3 rfl _ _ 102 102 rfl 107 Try.underlying102 sizeK (i * 2) (c - i) (c - i) ⟨gv, 0, none⟩ m cv rfl rfl hR1 (.inl rfl) news f1.out f2.out f3.out HV.out.one ?_; intro w4 hR4)
    have hR5 := hR4.drew1
    have f5 : Hid (∀ t v, X[t]? = some v → w4.drew.cell? ((⟨g, j * 2, none⟩ : Addr).add t) = some v) := fun t v hj => by
      rw [add_g, hR5.cell]
      exact e5.out t v hj
    go_region_law (refine step_copy3 rfl (.tmp 103) (.tmp 106) 102 102 rfl 107 Try.underlying102 sizeK ((i + m) * 2) (c - (i + m)) (c - (i + m)) ⟨g, j * 2, none⟩ q (c - j) (by simp [Act.eval, Act.put]) (by simp [Act.eval, Act.put]) hR5 (.inl rfl) X HX.out f5.out f4.out e4.out ?_; intro w6 hR6)
    go_wp2_with (refine wpList_clear2 rfl _ 102 rfl 107 _ Try.underlying102 Try.zeroValue107 rfl (by simp [Value.cells]; rfl) _ 0 _ (c * 2) rfl hR6 (.inl rfl) (fun h => absurd h (Nat.lt_irrefl 0)) f6.out ?_; intro w7 cur7 hR7 hC7)
    go_ret
    exact ⟨rfl, cur7, hR7, hC7⟩
  · go_enter Try.func78, Try.ntmps78
    go_wp2_with fail
    go_quiet (fail)
    have hR1 := HRQ.out nq
    have f2 := hide (f0.out nq)
    generalize w.drewN nq = W at hR1 f2 ⊢
    go_wp2_with (refine wpList_copy3 rfl _ _ 102 102 rfl 107 Try.underlying102 sizeK (i * 2) (tot - i) (c - i) ⟨gv, 0, none⟩ m cv rfl rfl hR1 (.inl rfl) news f1.out f2.out f3.out HV.out.one ?_; intro w4 hR4)
    have hR5 := hR4.drew1
    have f5 : Hid (∀ t v, X[t]? = some v → w4.drew.cell? ((⟨g, j * 2, none⟩ : Addr).add t) = some v) := fun t v hj => by
      rw [add_g, hR5.cell]
      exact e5.out t v hj
    go_region_law (refine step_copy3 rfl (.tmp 103) (.tmp 106) 102 102 rfl 107 Try.underlying102 sizeK ((i + m) * 2) (tot - (i + m)) (c - (i + m)) ⟨g, j * 2, none⟩ q (c - j) (by simp [Act.eval, Act.put]) (by simp [Act.eval, Act.put]) hR5 (.inl rfl) X HX.out f5.out f4.out e4.out ?_; intro w6 hR6)
    go_wp2_with (refine wpList_clear2 rfl _ 102 rfl 107 _ Try.underlying102 Try.zeroValue107 rfl (by simp [Value.cells]; rfl) (some ⟨g, tot * 2, none⟩) (j + q - tot) (c - tot) (tot * 2) rfl hR6 (.inl rfl) (fun _ => rfl) f6.out ?_; intro w7 cur7 hR7 hC7)
    go_ret
    exact ⟨rfl, cur7, hR7, hC7⟩

set_option maxHeartbeats 1000000 in
set_option maxRecDepth 100000 in
/-- Nothing is put in. -/
theorem replFitNilK (g c i j q tot : Nat) (cur : List Value) (w : World) (hR : Rowed w (some g) g 107 cur w) (hcl : cur.length = c * 2)
    (hi : i < j) (hq : 0 < q) (hnc : j + q ≤ c) (htot : Hid (tot = i + q)) (B : Hid (c ≤ 9223372036854775807)) (h1 : ∀ u ∈ (cur.drop (j * 2)).take (q * 2), u.oneCell' = true) :
    Calls Try.prog 78 #[.slice (some ⟨g, 0, none⟩) (j + q) c, .int .i64 i, .int .i64 j, .slice none 0 0] w fun e w' => e = .returned (.slice (some ⟨g, 0, none⟩) tot c) ∧ ∃ cur', Rowed w (some g) g 107 cur' w' ∧
      Hid (cur'.length = (splice cur (i * 2) ((cur.drop (j * 2)).take (q * 2))).length ∧ cur'.take (tot * 2) = (splice cur (i * 2) ((cur.drop (j * 2)).take (q * 2))).take (tot * 2)) := by
  have ht := htot.out
  have hB := B.out
  have hz1 : ¬ ((i : Int) = (j : Int)) := by omega
  have hz2 : ¬ ((j : Int) = (j : Int) + (q : Int)) := by omega
  have hz3 : ¬ (q = 0) := by omega
  have hw1 : IntKind.i64.wrap (i : Int) = (i : Int) := by rw [IntKind.wrap_i64]; omega
  have hw2 : IntKind.i64.wrap ((i : Int) + (q : Int)) = (tot : Int) := by rw [IntKind.wrap_i64]; omega
  have hn1 : ¬ ((c : Int) < (tot : Int)) := by omega
  have hb5 : (i : Int) ≤ (j : Int) := by omega
  have hb6 : (i : Int) ≤ (j : Int) + (q : Int) := by omega
  have hb7 : (j : Int) ≤ (j : Int) + (q : Int) := by omega
  have hb8 : (j : Int) ≤ (c : Int) := by omega
  have hb4 : ¬ (c = i) := by omega
  have hb4' : ¬ (c = j) := by omega
  have hic : i ≤ c := by omega
  have hjc : j ≤ c := by omega
  have htc : tot ≤ c := by omega
  have htc' : (tot : Int) ≤ (c : Int) := by omega
  have htc2 : (tot : Int) ≤ (j : Int) + (q : Int) := by omega
  have htc3 : tot ≤ j + q := by omega
  have hb11 : i ≤ tot := by omega
  have hb12 : (i : Int) ≤ (tot : Int) := by omega
  obtain ⟨X, hX⟩ : ∃ X, X = (cur.drop (j * 2)).take (q * 2) := ⟨_, rfl⟩
  have lX : X.length = q * 2 := by rw [hX, List.length_take, List.length_drop, hcl]; omega
  have HX : Hid (X.length = Nat.min q (tot - i) * 2) := by
    show X.length = _
    rw [lX, show Nat.min q (tot - i) = q from by show min _ _ = _; omega]
  have e4 : Hid (∀ u ∈ X, u.oneCell' = true) := fun u hu => h1 u (hX ▸ hu)
  have f4 : Hid (i * 2 + X.length ≤ cur.length) := by show _ ≤ _; omega
  have f6 : Hid (tot * 2 + (j + q - tot) * 2 ≤ (splice cur (i * 2) X).length) := by show _ ≤ _; rw [length_splice _ _ _ f4.out]; omega
  have e5 : Hid (∀ t v, X[t]? = some v → cur[j * 2 + t]? = some v) := fun t v hj => by
    rw [hX, List.getElem?_take] at hj
    split at hj
    · rwa [List.getElem?_drop] at hj
    · cases hj
  have HRQ : Hid (∀ nq, Rowed w (some g) g 107 cur (w.drewN nq)) := fun nq => hR.drew nq
  have hct : (c = tot → j + q - tot = 0) := by omega
  have HCT := hide hct
  rw [← hX]
  clear hX lX h1 hR hcl ht hB hct
  by_cases hctq : c = tot
  · have hl0 := HCT.out hctq
    subst hctq
    have f6 : Hid (c * 2 + 0 * 2 ≤ (splice cur (i * 2) X).length) := by have := f6.out; rw [hl0] at this; exact this
    go_enter Try.func78, Try.ntmps78
    go_wp2_with fail
    go_quiet (fail)
    have hR1 := HRQ.out nq
    generalize w.drewN nq = W at hR1 ⊢
    have f1 : Hid (([] : List Value).length = Nat.min 0 (c - i) * 2) := by show _ = _; rw [show Nat.min 0 (c - i) = 0 from Nat.min_eq_left (by omega)]; rfl
    have f3 : Hid (i * 2 + ([] : List Value).length ≤ cur.length) := by show _ ≤ _; have := f4.out; simp only [List.length_nil]; omega
    go_wp2_with (refine wpList_copy2 rfl _ _ 102 102 rfl 107 Try.underlying102 sizeK (some ⟨g, i * 2, none⟩) none (c - i) (c - i) 0 0 rfl rfl hR1 (.inl rfl) (i * 2) [] f1.out (fun h => absurd h (Nat.lt_irrefl 0)) f3.out (fun _ h => absurd h List.not_mem_nil) ?_; intro w4 hR4)
    have hR4' : Rowed w (some g) g 107 cur w4 := by simpa [splice] using hR4
    have hR5 := hR4'.drew1
    have f5 : Hid (∀ t v, X[t]? = some v → w4.drew.cell? ((⟨g, j * 2, none⟩ : Addr).add t) = some v) := fun t v hj => by
      rw [add_g, hR5.cell]
      exact e5.out t v hj
    go_region_law (refine step_copy3 rfl (.tmp 103) (.tmp 106) 102 102 rfl 107 Try.underlying102 sizeK (i * 2) (c - i) (c - i) ⟨g, j * 2, none⟩ q (c - j) (by simp [Act.eval, Act.put]) (by simp [Act.eval, Act.put]) hR5 (.inl rfl) X HX.out f5.out f4.out e4.out ?_; intro w6 hR6)
    go_wp2_with (refine wpList_clear2 rfl _ 102 rfl 107 _ Try.underlying102 Try.zeroValue107 rfl (by simp [Value.cells]; rfl) _ 0 _ (c * 2) rfl hR6 (.inl rfl) (fun h => absurd h (Nat.lt_irrefl 0)) f6.out ?_; intro w7 cur7 hR7 hC7)
    go_ret
    exact ⟨rfl, cur7, hR7, hC7⟩
  · go_enter Try.func78, Try.ntmps78
    go_wp2_with fail
    go_quiet (fail)
    have hR1 := HRQ.out nq
    generalize w.drewN nq = W at hR1 ⊢
    have f1 : Hid (([] : List Value).length = Nat.min 0 (tot - i) * 2) := by show _ = _; rw [show Nat.min 0 (tot - i) = 0 from Nat.min_eq_left (by omega)]; rfl
    have f3 : Hid (i * 2 + ([] : List Value).length ≤ cur.length) := by show _ ≤ _; have := f4.out; simp only [List.length_nil]; omega
    go_wp2_with (refine wpList_copy2 rfl _ _ 102 102 rfl 107 Try.underlying102 sizeK (some ⟨g, i * 2, none⟩) none (tot - i) (c - i) 0 0 rfl rfl hR1 (.inl rfl) (i * 2) [] f1.out (fun h => absurd h (Nat.lt_irrefl 0)) f3.out (fun _ h => absurd h List.not_mem_nil) ?_; intro w4 hR4)
    have hR4' : Rowed w (some g) g 107 cur w4 := by simpa [splice] using hR4
    have hR5 := hR4'.drew1
    have f5 : Hid (∀ t v, X[t]? = some v → w4.drew.cell? ((⟨g, j * 2, none⟩ : Addr).add t) = some v) := fun t v hj => by
      rw [add_g, hR5.cell]
      exact e5.out t v hj
    go_region_law (refine step_copy3 rfl (.tmp 103) (.tmp 106) 102 102 rfl 107 Try.underlying102 sizeK (i * 2) (tot - i) (c - i) ⟨g, j * 2, none⟩ q (c - j) (by simp [Act.eval, Act.put]) (by simp [Act.eval, Act.put]) hR5 (.inl rfl) X HX.out f5.out f4.out e4.out ?_; intro w6 hR6)
    go_wp2_with (refine wpList_clear2 rfl _ 102 rfl 107 _ Try.underlying102 Try.zeroValue107 rfl (by simp [Value.cells]; rfl) (some ⟨g, tot * 2, none⟩) (j + q - tot) (c - tot) (tot * 2) rfl hR6 (.inl rfl) (fun _ => rfl) f6.out ?_; intro w7 cur7 hR7 hC7)
    go_ret
    exact ⟨rfl, cur7, hR7, hC7⟩
end

section
open Go.RowKit Go.Shelf
set_option maxHeartbeats 1000000 in
set_option maxRecDepth 100000 in
/-- What is put in is longer than what goes. -/
theorem replWideK (g c i j q m tot : Nat) (cur news : List Value) (w : World) (hR : Rowed w (some g) g 107 cur w) (hcl : cur.length = c * 2) (gv cv : Nat) (hv : LaidK w gv m news) (hne : gv ≠ g)
    (h0 : 0 < m) (hi : i < j) (hq : 0 < q) (hnc : j + q ≤ c) (htot : Hid (tot = i + m + q)) (hfit : j < i + m) (htc : tot ≤ c) (B : Hid (c ≤ 9223372036854775807)) (h1 : ∀ u ∈ (cur.drop (j * 2)).take (q * 2), u.oneCell' = true) :
    Calls Try.prog 78 #[.slice (some ⟨g, 0, none⟩) (j + q) c, .int .i64 i, .int .i64 j, .slice (some ⟨gv, 0, none⟩) m cv] w fun e w' => e = .returned (.slice (some ⟨g, 0, none⟩) tot c) ∧ Rowed w (some g) g 107 (splice (splice cur ((i + m) * 2) ((cur.drop (j * 2)).take (q * 2))) (i * 2) news) w' := by
  have ht := htot.out
  have hB := B.out
  have hz1 : ¬ ((i : Int) = (j : Int)) := by omega
  have hz2 : ¬ ((j : Int) = (j : Int) + (q : Int)) := by omega
  have hz3 : ¬ (q = 0) := by omega
  have hw1 : IntKind.i64.wrap ((i : Int) + (m : Int)) = (i : Int) + (m : Int) := by rw [IntKind.wrap_i64]; omega
  have hw2 : IntKind.i64.wrap ((i : Int) + (m : Int) + (q : Int)) = (tot : Int) := by rw [IntKind.wrap_i64]; omega
  have hn1 : ¬ ((c : Int) < (tot : Int)) := by omega
  have hn2 : ¬ ((i : Int) + (m : Int) ≤ (j : Int)) := by omega
  have hb1 : (0 : Int) ≤ (i : Int) + (m : Int) := by omega
  have hb5 : (i : Int) ≤ (j : Int) := by omega
  have hb6 : (i : Int) ≤ (j : Int) + (q : Int) := by omega
  have hb7 : (j : Int) ≤ (j : Int) + (q : Int) := by omega
  have hb8 : (j : Int) ≤ (c : Int) := by omega
  have hb4 : ¬ (c = i) := by omega
  have hb4' : ¬ (c = j) := by omega
  have hb10 : ¬ (c = i + m) := by omega
  have hic : i ≤ c := by omega
  have hjc : j ≤ c := by omega
  have htc' : (tot : Int) ≤ (c : Int) := by omega
  have htn : ((i : Int) + (m : Int)).toNat = i + m := by omega
  have hb11 : i ≤ tot := by omega
  have hb12 : (i : Int) ≤ (tot : Int) := by omega
  have hb13 : (i : Int) + (m : Int) ≤ (tot : Int) := by omega
  have hb14 : i + m ≤ tot := by omega
  obtain ⟨X, hX⟩ : ∃ X, X = (cur.drop (j * 2)).take (q * 2) := ⟨_, rfl⟩
  have lX : X.length = q * 2 := by rw [hX, List.length_take, List.length_drop, hcl]; omega
  have HV := hide hv
  have HX : Hid (X.length = Nat.min q (tot - (i + m)) * 2) := by
    show X.length = _
    rw [lX, show Nat.min q (tot - (i + m)) = q from by show min _ _ = _; omega]
  have e4 : Hid (∀ u ∈ X, u.oneCell' = true) := fun u hu => h1 u (hX ▸ hu)
  have f4 : Hid ((i + m) * 2 + X.length ≤ cur.length) := by show _ ≤ _; omega
  have f3 : Hid (i * 2 + news.length ≤ (splice cur ((i + m) * 2) X).length) := by show _ ≤ _; rw [length_splice _ _ _ f4.out, hv.len]; omega
  have f1 : Hid (news.length = Nat.min m (tot - i) * 2) := by show _ = _; rw [hv.len, show Nat.min m (tot - i) = m from Nat.min_eq_left (by omega)]
  have e5 : Hid (∀ t v, X[t]? = some v → cur[j * 2 + t]? = some v) := fun t v hj => by
    rw [hX, List.getElem?_take] at hj
    split at hj
    · rwa [List.getElem?_drop] at hj
    · cases hj
  have HRQ : Hid (∀ nq, Rowed w (some g) g 107 cur (w.drewN nq)) := fun nq => hR.drew nq
  have HOV : Hid (∀ nq o lb cb, (callFunc 102 #[.slice (some ⟨g, o, none⟩) lb cb, .slice (some ⟨gv, 0, none⟩) m cv]).run Try.prog (w.drewN nq) = .ok (.value (.bool false)) (w.drewN nq)) := fun nq o lb cb => by
    obtain ⟨y, hy, hy0⟩ := hv.blk
    exact overK (w.drewN nq) g o lb cb gv 0 m cv cur.toArray y _ _ hR.heap hy hy0 (Ne.symm hne)
  rw [← hX]
  clear hX lX h1 hR hv hcl ht hB
  go_enter Try.func78, Try.ntmps78
  go_wp2_with fail
  go_quiet (fail)
  have hR1 := HRQ.out nq
  have hov := HOV.out nq
  generalize w.drewN nq = W at hR1 hov ⊢
  go_wp2_with (simp only [hov])
  have hR2 := hR1.drew1
  have f5 : Hid (∀ t v, X[t]? = some v → W.drew.cell? ((⟨g, j * 2, none⟩ : Addr).add t) = some v) := fun t v hj => by
    rw [add_g, hR2.cell]
    exact e5.out t v hj
  go_region_law (refine step_copy3 rfl (.tmp 126) (.tmp 129) 102 102 rfl 107 Try.underlying102 sizeK ((i + m) * 2) (tot - (i + m)) (c - (i + m)) ⟨g, j * 2, none⟩ q (c - j) (by simp [Act.eval, Act.put]) (by simp [Act.eval, Act.put]) hR2 (.inl rfl) X HX.out f5.out f4.out e4.out ?_; intro w4 hR4)
  have f2 : Hid (∀ j v, news[j]? = some v → w4.cell? ((⟨gv, 0, none⟩ : Addr).add j) = some v) := fun j v hj => by
    rw [add_g, Nat.zero_add]
    exact hR4.other (HV.out.cells j v hj) (by simpa using hne)
  go_wp2_with (refine wpList_copy3 rfl _ _ 102 102 rfl 107 Try.underlying102 sizeK (i * 2) (tot - i) (c - i) ⟨gv, 0, none⟩ m cv rfl rfl hR4 (.inl rfl) news f1.out f2.out f3.out HV.out.one ?_; intro w5 hR5)
  go_ret
  exact ⟨rfl, hR5⟩
end

section
open Go.RowKit Go.Shelf
/-- What a call that replaces leaves: a row with these runs, in the old block or in a new one. -/
def LeftK (w : World) (v : Value) (rs : List (Int × Int)) (e : Ending) (w' : World) : Prop :=
  ∃ v', e = .returned v' ∧ w'.ownsRow 0 107 2 v' rs.length (enc .i8 rs) ∧ w.grownBy w' v.ownBlock ∧ (v'.ownBlock = v.ownBlock ∨ ∀ k, v'.ownBlock = some k → w.heap.size ≤ k)

theorem laidK {w : World} {vv : Value} {vs : List (Int × Int)} (hv : w.ownsRow 0 107 2 vv vs.length (enc .i8 vs)) (h0 : 0 < vs.length) :
    ∃ gv cv, vv = .slice (some ⟨gv, 0, none⟩) vs.length cv ∧ LaidK w gv vs.length (enc .i8 vs) := by
  have hc := @World.ownsRow.cells _ _ _ _ _ _ _ hv
  rcases hv.2 with ⟨-, h⟩ | ⟨gv, cv, cur, rfl, -, hg, h1, -, h3, -⟩
  · omega
  · refine ⟨gv, cv, rfl, ⟨⟨cur, hg, by omega⟩, fun j u hj => ?_, enc_length _ _, enc_one _ _⟩⟩
    have := hc rfl j u hj
    rwa [add_g, Nat.zero_add] at this

theorem left_ofK {w w' : World} {v : Value} {g n cap : Nat} {cur : List Value} {row : Option Nat} {rs : List (Int × Int)} (h : Rowed w row g 107 cur w') (hrow : row = v.ownBlock ∨ row = none) (hb : v.ownBlock = some g ∨ w.heap.size ≤ g)
    (h1 : cur.length = cap * 2) (h2 : n ≤ cap) (h3 : cap ≤ maxLen) (hn : n = rs.length) (h4 : cur.take (n * 2) = enc .i8 rs) : LeftK w v rs (.returned (.slice (some ⟨g, 0, none⟩) n cap)) w' := by
  subst hn
  refine ⟨_, rfl, h.owns _ cap _ h1 h2 h3 h4, ?_, ?_⟩
  · rcases hrow with rfl | rfl
    · exact h.grown
    · exact ⟨h.grown.os, h.grown.tape, h.grown.output, h.grown.size, fun k hk _ => h.grown.block k hk (by simp)⟩
  · rcases hb with hb | hb
    · exact .inl hb.symm
    · exact .inr (fun k hk => by simp [Value.ownBlock] at hk; omega)

theorem enc3 (k : IntKind) (rs vs : List (Int × Int)) (i j : Nat) : enc k (rs.take i ++ vs ++ rs.drop j) = (enc k rs).take (i * 2) ++ enc k vs ++ (enc k rs).drop (j * 2) := by
  rw [enc_append, enc_append, enc_take, enc_drop]

theorem insertK {v vv : Value} {rs vs : List (Int × Int)} (i : Nat) (w : World) (hs : w.ownsRow 0 107 2 v rs.length (enc .i8 rs)) (hv : w.ownsRow 0 107 2 vv vs.length (enc .i8 vs)) (hne : ∀ g, v.ownBlock = some g → vv.ownBlock ≠ some g)
    (hi : i ≤ rs.length) (h0 : 0 < vs.length) (hm : vs.length ≤ 2) (hn : rs.length ≤ 1099511627776) :
    Calls Try.prog 101 #[v, .int .i64 i, vv] w (LeftK w v (rs.take i ++ vs ++ rs.drop i)) := by
  obtain ⟨gv, cv, rfl, hL⟩ := laidK hv h0
  rcases Nat.lt_or_ge i rs.length with hlt | hge
  · obtain ⟨g, c, cur, rfl, hnc, hcm, hcl, hct, hgl, hR⟩ := owns_rowed hs (by omega)
    have hne' : gv ≠ g := fun e => hne g rfl (by simp [Value.ownBlock, e])
    have hlen : rs.length + vs.length = (rs.take i ++ vs ++ rs.drop i).length := by simp; omega
    have hsub : ∀ u ∈ (cur.drop (i * 2)).take ((rs.length - i) * 2), u.oneCell' = true := fun u hu => by
      refine enc_one .i8 rs u ?_
      rw [← hct]
      rw [List.take_drop, show i * 2 + (rs.length - i) * 2 = rs.length * 2 by omega] at hu
      exact List.mem_of_mem_drop hu
    by_cases hroom : rs.length + vs.length ≤ c
    · refine (insertRoomK g c i rs.length vs.length cur (enc .i8 vs) w hR hcl gv cv hL hne' h0 hlt hroom (by have := hcm; unfold maxLen at this; exact this) hsub).mono ?_
      rintro e w' ⟨rfl, h⟩
      have hl : (splice (splice cur ((i + vs.length) * 2) ((cur.drop (i * 2)).take ((rs.length - i) * 2))) (i * 2) (enc .i8 vs)).length = cur.length := by
        rw [length_splice _ _ _ (by rw [length_splice _ _ _ (by rw [List.length_take, List.length_drop]; omega), enc_length]; omega), length_splice _ _ _ (by rw [List.length_take, List.length_drop]; omega)]
      refine left_ofK h (.inl rfl) (.inl rfl) (by rw [hl, hcl]) hroom hcm hlen ?_
      rw [enc3]
      have := splice_tail cur (enc .i8 vs) _ _ rs.length vs.length i i hct rfl (enc_length _ _) (Nat.le_refl _) (by omega) (by omega) (by omega)
      rwa [show i + vs.length + (rs.length - i) = rs.length + vs.length by omega] at this
    · refine (insertGrowK g c i rs.length vs.length cur (enc .i8 vs) w hR hcl gv cv hL h0 hlt hnc (by omega) hm hn hsub).mono ?_
      rintro e w' ⟨cap, cur1, rfl, h, h1, h2, h3, h4⟩
      have l1 : (splice cur1 (i * 2) (enc .i8 vs)).length = cur1.length := length_splice _ _ _ (by rw [enc_length]; omega)
      refine left_ofK h (.inr rfl) (.inr (Nat.le_refl _)) (by rw [length_splice _ _ _ (by rw [List.length_take, List.length_drop, l1]; omega), l1, h1]) h3 h4 hlen ?_
      rw [enc3]
      have := splice_head cur cur1 (enc .i8 vs) _ _ rs.length vs.length i i hct rfl h2 (enc_length _ _) (Nat.le_refl _) (by omega) (by omega) (by omega)
      rwa [show i + vs.length + (rs.length - i) = rs.length + vs.length by omega] at this
  · obtain rfl : i = rs.length := by omega
    refine (insertEndK v rs.length vs.length _ _ w hs gv cv hL h0 (by omega)).mono ?_
    rintro e w' ⟨g', cap', rfl, h1, h2, h3⟩
    refine ⟨_, rfl, ?_, h2, ?_⟩
    · rw [List.take_length, List.drop_length, List.append_nil, List.length_append, enc_append]; exact h1
    · rcases h3 with h3 | h3
      · exact .inl h3.symm
      · exact .inr (fun k hk => by simp [Value.ownBlock] at hk; omega)

set_option maxHeartbeats 1000000 in
set_option maxRecDepth 100000 in
theorem replaceInsK {v vv : Value} {n i : Nat} (w : World) {Q : Ending → World → Prop} (hv : (v = .slice none 0 0 ∧ n = 0) ∨ ∃ g c, v = .slice (some ⟨g, 0, none⟩) n c ∧ n ≤ c) (hi : i ≤ n) (HI : Hid (Calls Try.prog 101 #[v, .int .i64 i, vv] w Q)) (HQ : Hid (∀ e w', Q e w' → ∃ v', e = .returned v')) :
    Calls Try.prog 78 #[v, .int .i64 i, .int .i64 i, vv] w Q := by
  have hz : (i : Int) ≤ (n : Int) := by omega
  rcases hv with ⟨rfl, rfl⟩ | ⟨g, c, rfl, hnc⟩
  · obtain rfl : i = 0 := by omega
    go_enter Try.func78, Try.ntmps78
    go_wp2_with fail
    refine (unhide HI).mono ?_
    intro e w' hq
    obtain ⟨v', rfl⟩ := unhide HQ e w' hq
    have H := hide hq
    clear hq
    go_wp2_with fail
    exact H
  · have hic : i ≤ c := by omega
    have hicz : (i : Int) ≤ (c : Int) := by omega
    by_cases hci : c = i
    · subst hci
      go_enter Try.func78, Try.ntmps78
      go_wp2_with fail
      refine (unhide HI).mono ?_
      intro e w' hq
      obtain ⟨v', rfl⟩ := unhide HQ e w' hq
      have H := hide hq
      clear hq
      go_wp2_with fail
      exact H
    · go_enter Try.func78, Try.ntmps78
      go_wp2_with fail
      refine (unhide HI).mono ?_
      intro e w' hq
      obtain ⟨v', rfl⟩ := unhide HQ e w' hq
      have H := hide hq
      clear hq
      go_wp2_with fail
      exact H

theorem replaceK {v vv : Value} {rs vs : List (Int × Int)} (i j : Nat) (w : World) (hs : w.ownsRow 0 107 2 v rs.length (enc .i8 rs)) (hv : w.ownsRow 0 107 2 vv vs.length (enc .i8 vs)) (hne : ∀ g, v.ownBlock = some g → vv.ownBlock ≠ some g)
    (hij : i ≤ j) (hj : j ≤ rs.length) (h0 : i = j → 0 < vs.length) (hnil : vs = [] → vv = .slice none 0 0) (hm : vs.length ≤ 2) (hn : rs.length ≤ 1099511627776) :
    Calls Try.prog 78 #[v, .int .i64 i, .int .i64 j, vv] w (LeftK w v (rs.take i ++ vs ++ rs.drop j)) := by
  rcases Nat.lt_or_ge i j with hlt | hge
  · obtain ⟨g, c, cur, rfl, hnc, hcm, hcl, hct, hgl, hR⟩ := owns_rowed hs (by omega)
    have hB : Hid (c ≤ 9223372036854775807) := by have := hcm; unfold maxLen at this; exact this
    have hlen : i + vs.length + (rs.length - j) = (rs.take i ++ vs ++ rs.drop j).length := by simp; omega
    have hsub : ∀ u ∈ (cur.drop (j * 2)).take ((rs.length - j) * 2), u.oneCell' = true := fun u hu => by
      refine enc_one .i8 rs u ?_
      rw [← hct]
      rw [List.take_drop, show j * 2 + (rs.length - j) * 2 = rs.length * 2 by omega] at hu
      exact List.mem_of_mem_drop hu
    have hX : ((cur.drop (j * 2)).take ((rs.length - j) * 2)).length = (rs.length - j) * 2 := by rw [List.length_take, List.length_drop]; omega
    by_cases hm0 : vs.length = 0
    · obtain rfl : vs = [] := List.eq_nil_of_length_eq_zero hm0
      obtain rfl := hnil rfl
      · rcases Nat.lt_or_ge j rs.length with hjl | hjl
        · obtain ⟨q, hq⟩ : ∃ q, rs.length = j + q := ⟨rs.length - j, by omega⟩
          have hq' : rs.length - j = q := by omega
          rw [hq'] at hsub hX
          rw [hq]
          refine (replFitNilK g c i j q (i + q) cur w hR hcl hlt (by omega) (by omega) rfl hB hsub).mono ?_
          rintro e w' ⟨rfl, cur', h, h1, h2⟩
          have hl : (splice cur (i * 2) ((cur.drop (j * 2)).take (q * 2))).length = cur.length := length_splice _ _ _ (by rw [hX]; omega)
          refine left_ofK h (.inl rfl) (.inl rfl) (by rw [h1, hl, hcl]) (by omega) hcm (by rw [← hlen]; simp; omega) ?_
          rw [enc3, h2]
          have := splice_head cur cur [] _ _ rs.length 0 i j hct rfl rfl rfl hij hj (by omega) (by omega)
          rw [hq'] at this
          simpa [splice, enc] using this
        · obtain rfl : j = rs.length := by omega
          refine (replCutNilK g c i rs.length cur w hR ?_ hcl hlt hnc hB).mono ?_
          · exact hR.owns i c _ hcl (by omega) hcm rfl
          · rintro e w' ⟨rfl, cur', h, h1, h2⟩
            refine left_ofK h (.inl rfl) (.inl rfl) (by rw [h1, hcl]) (by omega) hcm (by rw [← hlen]; simp) ?_
            rw [h2]
            rw [List.drop_length, List.append_nil, List.append_nil, ← enc_take, ← hct, List.take_take, show min (i * 2) (rs.length * 2) = i * 2 by omega]
    · obtain ⟨gv, cv, rfl, hL⟩ := laidK hv (by omega)
      have hne' : gv ≠ g := fun e => hne g rfl (by simp [Value.ownBlock, e])
      rcases Nat.lt_or_ge j rs.length with hjl | hjl
      · obtain ⟨q, hq⟩ : ∃ q, rs.length = j + q := ⟨rs.length - j, by omega⟩
        have hq' : rs.length - j = q := by omega
        rw [hq'] at hsub hX hlen
        rw [hq]
        by_cases hroom : i + vs.length + q ≤ c
        · by_cases hfit : i + vs.length ≤ j
          · refine (replFitK g c i j q vs.length (i + vs.length + q) cur (enc .i8 vs) w hR hcl gv cv hL hne' (by omega) hlt (by omega) (by omega) rfl hfit hB hsub).mono ?_
            rintro e w' ⟨rfl, cur', h, h1, h2⟩
            have l1 : (splice cur (i * 2) (enc .i8 vs)).length = cur.length := length_splice _ _ _ (by rw [enc_length]; omega)
            have hl : (splice (splice cur (i * 2) (enc .i8 vs)) ((i + vs.length) * 2) ((cur.drop (j * 2)).take (q * 2))).length = cur.length := by rw [length_splice _ _ _ (by rw [hX, l1]; omega), l1]
            refine left_ofK h (.inl rfl) (.inl rfl) (by rw [h1, hl, hcl]) hroom hcm hlen ?_
            rw [enc3, h2]
            have := splice_head cur cur (enc .i8 vs) _ _ rs.length vs.length i j hct rfl rfl (enc_length _ _) hij hj (by omega) (by omega)
            rwa [hq'] at this
          · refine (replWideK g c i j q vs.length (i + vs.length + q) cur (enc .i8 vs) w hR hcl gv cv hL hne' (by omega) hlt (by omega) (by omega) rfl (by omega) hroom hB hsub).mono ?_
            rintro e w' ⟨rfl, h⟩
            have l1 : (splice cur ((i + vs.length) * 2) ((cur.drop (j * 2)).take (q * 2))).length = cur.length := length_splice _ _ _ (by rw [hX]; omega)
            refine left_ofK h (.inl rfl) (.inl rfl) (by rw [length_splice _ _ _ (by rw [enc_length, l1]; omega), l1, hcl]) hroom hcm hlen ?_
            rw [enc3]
            have := splice_tail cur (enc .i8 vs) _ _ rs.length vs.length i j hct rfl (enc_length _ _) hij hj (by omega) (by omega)
            rwa [hq'] at this
        · refine (replGrowK g c i j q vs.length (i + vs.length + q) cur (enc .i8 vs) w hR hcl gv cv hL (by omega) hlt (by omega) (by omega) rfl (by omega) (by omega) hsub).mono ?_
          rintro e w' ⟨G, cap, cur1, rfl, h, h0', h1, h2, h3, h4⟩
          have l1 : (splice cur1 (i * 2) (enc .i8 vs)).length = cur1.length := length_splice _ _ _ (by rw [enc_length]; omega)
          refine left_ofK h (.inr rfl) (.inr h0') (by rw [length_splice _ _ _ (by rw [hX, l1]; omega), l1, h1]) h3 h4 hlen ?_
          rw [enc3]
          have := splice_head cur cur1 (enc .i8 vs) _ _ rs.length vs.length i j hct rfl h2 (enc_length _ _) hij hj (by omega) (by omega)
          rwa [hq'] at this
      · obtain rfl : j = rs.length := by omega
        by_cases hfit : rs.length ≤ i + vs.length
        · have hown : w.ownsRow 0 107 2 (.slice (some ⟨g, 0, none⟩) i c) i (enc .i8 (rs.take i)) := hR.owns i c _ hcl (by omega) hcm (by rw [← enc_take, ← hct, List.take_take, show min (i * 2) (rs.length * 2) = i * 2 by omega])
          refine (replEndK g c i rs.length vs.length _ _ w hown gv cv hL (by omega) (by omega) hlt hnc hfit).mono ?_
          rintro e w' ⟨g', cap', rfl, h1, h2, h3⟩
          refine ⟨_, rfl, ?_, h2, ?_⟩
          · rw [List.drop_length, List.append_nil, enc_append, List.length_append, List.length_take, show min i rs.length = i by omega]; exact h1
          · rcases h3 with h3 | h3
            · exact .inl (by simp [Value.ownBlock, h3])
            · exact .inr (fun k hk => by simp [Value.ownBlock] at hk; omega)
        · refine (replCutK g c i rs.length vs.length cur (enc .i8 vs) w hR hcl gv cv hL hlt hnc (by omega) hB).mono ?_
          rintro e w' ⟨rfl, cur', h, h1, h2⟩
          have l1 : (splice cur (i * 2) (enc .i8 vs)).length = cur.length := length_splice _ _ _ (by rw [enc_length]; omega)
          refine left_ofK h (.inl rfl) (.inl rfl) (by rw [h1, l1, hcl]) (by omega) hcm (by rw [← hlen]; simp) ?_
          rw [enc3, h2]
          have := splice_head cur cur (enc .i8 vs) _ _ rs.length vs.length i rs.length hct rfl rfl (enc_length _ _) hij (Nat.le_refl _) (by omega) (by omega)
          simpa [splice] using this
  · obtain rfl : i = j := by omega
    refine replaceInsK w (n := rs.length) ?_ hj (hide (insertK i w hs hv hne hj (h0 rfl) hm hn)) (hide fun e w' h => h.imp fun v' hv => hv.1)
    rcases hs.2 with ⟨h1, h2⟩ | ⟨g, c, cur, h1, -, -, h2, -⟩
    · exact .inl ⟨h1, h2⟩
    · exact .inr ⟨g, c, h1, h2⟩
end

end Go.Proofs.Ytdalghfhpekcfaa
