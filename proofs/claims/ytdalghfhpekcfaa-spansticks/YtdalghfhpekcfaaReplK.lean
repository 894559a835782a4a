/- slices.Replace over runs, up to the end of the list; slices.Insert at the end. -/
import Derived.Test.YtdalghfhpekcfaaInsertK
namespace Go.Proofs.Ytdalghfhpekcfaa
open Go.RowKit Go.Shelf

set_option maxHeartbeats 1000000 in
set_option maxRecDepth 100000 in
theorem insertEndK (v : Value) (n m : Nat) (xs news : List Value) (w : World) (hown : w.ownsRow 0 107 2 v n xs) (gv cv : Nat) (hv : LaidK w gv m news) (h0 : 0 < m) (h63 : n + m ≤ 1099511627780) :
    Calls Try.prog 101 #[v, .int .i64 n, .slice (some ⟨gv, 0, none⟩) m cv] w fun e w' => ∃ g' cap', e = .returned (.slice (some ⟨g', 0, none⟩) (n + m) cap') ∧ w'.ownsRow 0 107 2 (.slice (some ⟨g', 0, none⟩) (n + m) cap') (n + m) (xs ++ news) ∧ w.grownBy w' v.ownBlock ∧ Hid (v.ownBlock = some g' ∨ w.heap.size ≤ g') := by
  obtain ⟨i0, hi0, hz0, hzs, hzb⟩ := info_parts infoK
  obtain ⟨g', cap', w1, hrun, h1, h2, h3⟩ := run_append2 (P := Try.prog) 102 102 107 i0 _ Try.underlying102 hi0 hz0 hzs rfl (by rw [hzb]; omega) v n xs hown ⟨gv, 0, none⟩ m cv news hv.len (fun j u hj => by rw [add_g, Nat.zero_add]; exact hv.cells j u hj) hv.one h0 h63
  have hz1 : ¬ ((m : Int) = 0) := by omega
  have HRun := hide hrun
  have H1 := hide h1
  have H2 := hide h2
  rcases hown.2 with ⟨rfl, rfl⟩ | ⟨g, cap, cur, rfl, hbg, hg, hnc, hcm, hcs, htake⟩
  · clear hrun h1 h2 hown hv h63 hi0
    go_enter Try.func101, Try.ntmps101
    go_wp2_with (at_builtin; refine Lib.wpList_append_run _ rfl _ _ 102 102 rfl (.slice none 0 0) (.slice (some ⟨gv, 0, none⟩) m cv) rfl rfl _ _ HRun.out ?_)
    go_ret
    exact ⟨g', cap', by rw [Nat.zero_add]; rfl, H1.out, H2.out, h3⟩
  · clear hrun h1 h2 hown hv h63 hi0 hg hcm hcs htake
    go_enter Try.func101, Try.ntmps101
    go_wp2_with (at_builtin; refine Lib.wpList_append_run _ rfl _ _ 102 102 rfl (.slice (some ⟨g, 0, none⟩) n cap) (.slice (some ⟨gv, 0, none⟩) m cv) rfl rfl _ _ HRun.out ?_)
    all_goals go_ret
    all_goals exact ⟨g', cap', rfl, H1.out, H2.out, h3⟩

set_option maxHeartbeats 1000000 in
set_option maxRecDepth 100000 in
/-- Up to the end, what is put in is no shorter. -/
theorem replEndK (g c i n m : Nat) (xs news : List Value) (w : World) (hown : w.ownsRow 0 107 2 (.slice (some ⟨g, 0, none⟩) i c) i xs) (gv cv : Nat) (hv : LaidK w gv m news) (h0 : 0 < m) (h63 : i + m ≤ 1099511627780) (hi : i < n) (hnc : n ≤ c) (hm : n ≤ i + m) :
    Calls Try.prog 78 #[.slice (some ⟨g, 0, none⟩) n c, .int .i64 i, .int .i64 n, .slice (some ⟨gv, 0, none⟩) m cv] w fun e w' => ∃ g' cap', e = .returned (.slice (some ⟨g', 0, none⟩) (i + m) cap') ∧ w'.ownsRow 0 107 2 (.slice (some ⟨g', 0, none⟩) (i + m) cap') (i + m) (xs ++ news) ∧ w.grownBy w' (some g) ∧ Hid (g' = g ∨ w.heap.size ≤ g') := by
  obtain ⟨i0, hi0, hz0, hzs, hzb⟩ := info_parts infoK
  obtain ⟨g', cap', w1, hrun, h1, h2, h3⟩ := run_append2 (P := Try.prog) 102 102 107 i0 _ Try.underlying102 hi0 hz0 hzs rfl (by rw [hzb]; omega) _ i xs hown ⟨gv, 0, none⟩ m cv news hv.len (fun j u hj => by rw [add_g, Nat.zero_add]; exact hv.cells j u hj) hv.one h0 h63
  have hz1 : ¬ ((i : Int) = (n : Int)) := by omega
  have hz2 : ¬ ((i : Int) + (m : Int) < (n : Int)) := by omega
  have hb4 : ¬ (c = i) := by omega
  have hb5 : (i : Int) ≤ (n : Int) := by omega
  have hb6 : (n : Int) ≤ (c : Int) := by omega
  have hic : i ≤ c := by omega
  have HRun := hide hrun
  have H1 := hide h1
  have H2 := hide h2
  clear hrun h1 h2 hown hv h63 hi0
  go_enter Try.func78, Try.ntmps78
  go_wp2_with (at_builtin; refine Lib.wpList_append_run _ rfl _ _ 102 102 rfl (.slice (some ⟨g, 0, none⟩) i c) (.slice (some ⟨gv, 0, none⟩) m cv) rfl rfl _ _ HRun.out ?_)
  go_ret
  exact ⟨g', cap', rfl, H1.out, H2.out, h3.out.imp (fun h => by simpa [Value.ownBlock, eq_comm] using h) id⟩

set_option maxHeartbeats 1000000 in
set_option maxRecDepth 100000 in
/-- Up to the end, what is put in is shorter. -/
theorem replCutK (g c i n m : Nat) (cur news : List Value) (w : World) (hR : Rowed w (some g) g 107 cur w) (hcl : cur.length = c * 2) (gv cv : Nat) (hv : LaidK w gv m news) (hi : i < n) (hnc : n ≤ c) (hm : i + m < n) (B : Hid (c ≤ 9223372036854775807)) :
    Calls Try.prog 78 #[.slice (some ⟨g, 0, none⟩) n c, .int .i64 i, .int .i64 n, .slice (some ⟨gv, 0, none⟩) m cv] w fun e w' => e = .returned (.slice (some ⟨g, 0, none⟩) (i + m) c) ∧ ∃ cur', Rowed w (some g) g 107 cur' w' ∧
      Hid (cur'.length = (splice cur (i * 2) news).length ∧ cur'.take ((i + m) * 2) = (splice cur (i * 2) news).take ((i + m) * 2)) := by
  obtain ⟨i0, hi0, hz0, hzs, hzb⟩ := info_parts infoK
  obtain ⟨w1, hrun, hR1⟩ := run_room2 (P := Try.prog) hR 102 102 i0 Try.underlying102 hi0 hzs i c ⟨gv, 0, none⟩ m cv news hv.len (fun j u hj => by rw [add_g, Nat.zero_add]; exact hv.cells j u hj) hv.one (by omega) hcl
  have f1 : Hid ((i + m) * 2 + (n - (i + m)) * 2 ≤ (splice cur (i * 2) news).length) := by
    show _ ≤ _
    rw [length_splice _ _ _ (by rw [hv.len]; omega)]; omega
  have hz1 : ¬ ((i : Int) = (n : Int)) := by omega
  have hz2 : (i : Int) + (m : Int) < (n : Int) := by omega
  have hb4 : ¬ (c = i) := by omega
  have hb4' : ¬ (c = i + m) := by omega
  have hb5 : (i : Int) ≤ (n : Int) := by omega
  have hb6 : (n : Int) ≤ (c : Int) := by omega
  have hb7 : (i : Int) + (m : Int) ≤ (n : Int) := by omega
  have hb8 : (0 : Int) ≤ (i : Int) + (m : Int) := by omega
  have htn : ((i : Int) + (m : Int)).toNat = i + m := by omega
  have hic : i ≤ c := by omega
  have HRun := hide hrun
  clear hrun hv hi0 hR hcl
  go_enter Try.func78, Try.ntmps78
  go_wp2_with (first
    | (at_builtin; refine Lib.wpList_append_run _ rfl _ _ 102 102 rfl (.slice (some ⟨g, 0, none⟩) i c) (.slice (some ⟨gv, 0, none⟩) m cv) rfl rfl _ _ HRun.out ?_)
    | (refine wpList_clear2 rfl _ 102 rfl 107 _ Try.underlying102 Try.zeroValue107 rfl (by simp [Value.cells]; rfl) (some ⟨g, (i + m) * 2, none⟩) (n - (i + m)) (c - (i + m)) ((i + m) * 2) rfl hR1 (.inl rfl) (fun _ => rfl) f1.out ?_; intro w2 cur2 hR2 hC2))
  go_ret
  exact ⟨rfl, cur2, hR2, hC2⟩

set_option maxHeartbeats 1000000 in
set_option maxRecDepth 100000 in
/-- Up to the end, nothing is put in. -/
theorem replCutNilK (g c i n : Nat) (cur : List Value) (w : World) (hR : Rowed w (some g) g 107 cur w) (hown : w.ownsRow 0 107 2 (.slice (some ⟨g, 0, none⟩) i c) i (cur.take (i * 2))) (hcl : cur.length = c * 2) (hi : i < n) (hnc : n ≤ c) (B : Hid (c ≤ 9223372036854775807)) :
    Calls Try.prog 78 #[.slice (some ⟨g, 0, none⟩) n c, .int .i64 i, .int .i64 n, .slice none 0 0] w fun e w' => e = .returned (.slice (some ⟨g, 0, none⟩) i c) ∧ ∃ cur', Rowed w (some g) g 107 cur' w' ∧
      Hid (cur'.length = cur.length ∧ cur'.take (i * 2) = cur.take (i * 2)) := by
  obtain ⟨i0, hi0, hz0, hzs, hzb⟩ := info_parts infoK
  have hrun := run_append_owned_none (P := Try.prog) (w := w) 0 102 102 107 i0 2 Try.underlying102 hi0 _ i _ hown
  have f1 : Hid (i * 2 + (n - i) * 2 ≤ cur.length) := by show _ ≤ _; omega
  have hz1 : ¬ ((i : Int) = (n : Int)) := by omega
  have hz2 : (i : Int) < (n : Int) := by omega
  have hb4 : ¬ (c = i) := by omega
  have hb5 : (i : Int) ≤ (n : Int) := by omega
  have hb6 : (n : Int) ≤ (c : Int) := by omega
  have hic : i ≤ c := by omega
  have HRun := hide hrun
  clear hrun hi0 hcl hown
  go_enter Try.func78, Try.ntmps78
  go_wp2_with (first
    | (at_builtin; refine Lib.wpList_append_run _ rfl _ _ 102 102 rfl (.slice (some ⟨g, 0, none⟩) i c) (.slice none 0 0) rfl rfl _ _ HRun.out ?_)
    | (refine wpList_clear2 rfl _ 102 rfl 107 _ Try.underlying102 Try.zeroValue107 rfl (by simp [Value.cells]; rfl) (some ⟨g, i * 2, none⟩) (n - i) (c - i) (i * 2) rfl hR (.inl rfl) (fun _ => rfl) f1.out ?_; intro w2 cur2 hR2 hC2))
  go_ret
  exact ⟨rfl, cur2, hR2, hC2⟩

end Go.Proofs.Ytdalghfhpekcfaa
