/- slices.Insert over runs. -/
import Derived.Test.YtdalghfhpekcfaaLaws
namespace Go.Proofs.Ytdalghfhpekcfaa
open Go.RowKit Go.Shelf

theorem infoK : (Try.prog.info? 107).map (fun i => (i.zero, i.size, i.bytes)) = some (some (.agg #[.int .i8 0, .int .i8 0]), 2, 2) := by kernel_rfl
theorem sizeK : (Try.prog.info? 107).map (·.size) = some 2 := by kernel_rfl

theorem overK (w : World) (g o lc cc gv ov lv cv : Nat) (x y : Array Value) (ex ey : TypeId) (h1 : w.heap[g]? = some (.cells x ex (0, 0))) (h2 : w.heap[gv]? = some (.cells y ey (0, 0))) (hy : y.size ≠ 0) (hne : g ≠ gv) :
    (callFunc 102 #[.slice (some ⟨g, o, none⟩) lc cc, .slice (some ⟨gv, ov, none⟩) lv cv]).run Try.prog w = .ok (.value (.bool false)) w := by
  rw [run_callFunc_extern Try.func102 (by kernel_rfl) (by kernel_rfl) (by kernel_rfl) (e := Extern.SlicesOverlaps.overlaps #[102, 102] #[4]) (by kernel_rfl),
    Lib.run_overlaps_apart w 102 4 107 Try.underlying102 2 Try.sizeOf107 ⟨g, o, none⟩ ⟨gv, ov, none⟩ lc cc lv cv hne ex ey x.size y.size (by simp [World.shape?, h1]) (by simp [World.shape?, h2]) hy (by simp [World.frozen?, h1]) (by simp [World.frozen?, h1])]
  rfl

/-- What v is: m runs in a block of their own. -/
structure LaidK (w : World) (gv m : Nat) (news : List Value) : Prop where
  blk : ∃ y, w.heap[gv]? = some (.cells y 107 (0, 0)) ∧ y.size ≠ 0
  cells : ∀ j u, news[j]? = some u → w.cell? ⟨gv, j, none⟩ = some u
  len : news.length = m * 2
  one : ∀ u ∈ news, u.oneCell' = true

set_option maxHeartbeats 1000000 in
set_option maxRecDepth 100000 in
/-- In the middle, with room. -/
theorem insertRoomK (g c i n m : Nat) (cur news : List Value) (w : World) (hR : Rowed w (some g) g 107 cur w) (hcl : cur.length = c * 2) (gv cv : Nat) (hv : LaidK w gv m news)
    (hne : gv ≠ g) (h0 : 0 < m) (hi : i < n) (hroom : n + m ≤ c) (B : Hid (c ≤ 9223372036854775807)) (h1 : ∀ u ∈ (cur.drop (i * 2)).take ((n - i) * 2), u.oneCell' = true) :
    Calls Try.prog 101 #[.slice (some ⟨g, 0, none⟩) n c, .int .i64 i, .slice (some ⟨gv, 0, none⟩) m cv] w fun e w' => e = .returned (.slice (some ⟨g, 0, none⟩) (n + m) c) ∧
      Rowed w (some g) g 107 (splice (splice cur ((i + m) * 2) ((cur.drop (i * 2)).take ((n - i) * 2))) (i * 2) news) w' := by
  have hov : ∀ o lb cb, (callFunc 102 #[.slice (some ⟨gv, 0, none⟩) m cv, .slice (some ⟨g, o, none⟩) lb cb]).run Try.prog w = .ok (.value (.bool false)) w := fun o lb cb => by
    obtain ⟨y, hy, hy0⟩ := hv.blk
    exact overK w gv 0 m cv g o lb cb y cur.toArray _ _ hy hR.heap (by simp only [List.size_toArray]; omega) hne
  have hz1 : ¬ ((m : Int) = 0) := by omega
  have hz2 : ¬ ((i : Int) = (n : Int)) := by omega
  have hw1 : IntKind.i64.wrap ((n : Int) + (m : Int)) = (n : Int) + (m : Int) := by have := unhide B; rw [IntKind.wrap_i64]; omega
  have hw2 : IntKind.i64.wrap ((i : Int) + (m : Int)) = (i : Int) + (m : Int) := by have := unhide B; rw [IntKind.wrap_i64]; omega
  have hn1 : ¬ ((c : Int) < (n : Int) + (m : Int)) := by omega
  have hb1 : (0 : Int) ≤ (i : Int) + (m : Int) := by omega
  have hb3 : (i : Int) ≤ (n : Int) + (m : Int) := by omega
  have hb5 : (i : Int) ≤ (n : Int) := by omega
  have hb2 : ¬ (c = i + m) := by omega
  have hb4 : ¬ (c = i) := by omega
  have htn : ((i : Int) + (m : Int)).toNat = i + m := by omega
  have htn2 : ((n : Int) + (m : Int)).toNat = n + m := by omega
  have HR := hide hR.drew1
  have HV := hide hv
  obtain ⟨X, hX⟩ : ∃ X, X = (cur.drop (i * 2)).take ((n - i) * 2) := ⟨_, rfl⟩
  have e1 : Hid (X.length = Nat.min (n + m - i) (n + m - (i + m)) * 2) := by
    show X.length = _
    rw [hX, List.length_take, List.length_drop, hcl]
    have : Nat.min (n + m - i) (n + m - (i + m)) = n - i := by show min _ _ = _; omega
    rw [this]; omega
  have e1' : X.length = (n - i) * 2 := by rw [hX, List.length_take, List.length_drop, hcl]; omega
  have e2 : Hid (∀ j v, X[j]? = some v → w.drew.cell? ((⟨g, i * 2, none⟩ : Addr).add j) = some v) := fun j v hj => by
    rw [add_g, hR.drew1.cell]
    rw [hX, List.getElem?_take] at hj
    split at hj
    · rwa [List.getElem?_drop] at hj
    · cases hj
  have e3 : Hid ((i + m) * 2 + X.length ≤ cur.length) := by show _ ≤ _; omega
  have e4 : Hid (∀ u ∈ X, u.oneCell' = true) := fun u hu => h1 u (hX ▸ hu)
  rw [← hX]
  have HL : Hid ((splice cur ((i + m) * 2) X).length = cur.length) := length_splice _ _ _ e3
  clear hX e1' hcl h1 hR hv
  go_enter Try.func101, Try.ntmps101
  go_wp2_with (simp only [hov])
  go_region_law (refine step_copy3 rfl (.tmp 73) (.tmp 76) 102 102 rfl 107 Try.underlying102 sizeK ((i + m) * 2) (n + m - (i + m)) (c - (i + m)) ⟨g, i * 2, none⟩ (n + m - i) (c - i) (by simp [Act.eval, Act.put]) (by simp [Act.eval, Act.put]) HR.out (.inl rfl) X e1.out e2.out e3.out e4.out ?_; intro w4 hR4)
  have f2 : Hid (∀ j v, news[j]? = some v → w4.cell? ((⟨gv, 0, none⟩ : Addr).add j) = some v) := fun j v hj => by
    rw [add_g, Nat.zero_add]
    exact hR4.other (HV.out.cells j v hj) (by simpa using hne)
  go_wp2_with (refine wpList_copy3 rfl _ _ 102 102 rfl 107 Try.underlying102 sizeK (i * 2) (n + m - i) (c - i) ⟨gv, 0, none⟩ m cv rfl rfl hR4 (.inl rfl) news ?f1 f2.out ?f3 HV.out.one ?_)
  case f1 => rw [HV.out.len, show Nat.min m (n + m - i) = m from Nat.min_eq_left (by omega)]
  case f3 => have := HL.out; rw [this, HV.out.len]; have := e3.out; omega
  intro w5 hR5
  go_wp2_with fail
  go_ret
  exact ⟨rfl, hR5⟩

set_option maxHeartbeats 1000000 in
set_option maxRecDepth 100000 in
/-- In the middle, without room. -/
theorem insertGrowK (g c i n m : Nat) (cur news : List Value) (w : World) (hR : Rowed w (some g) g 107 cur w) (hcl : cur.length = c * 2) (gv cv : Nat) (hv : LaidK w gv m news)
    (h0 : 0 < m) (hi : i < n) (hnc : n ≤ c) (hroom : c < n + m) (hm2 : m ≤ 2) (hn : n ≤ 1099511627776) (h1 : ∀ u ∈ (cur.drop (i * 2)).take ((n - i) * 2), u.oneCell' = true) :
    Calls Try.prog 101 #[.slice (some ⟨g, 0, none⟩) n c, .int .i64 i, .slice (some ⟨gv, 0, none⟩) m cv] w fun e w' => ∃ cap cur1, e = .returned (.slice (some ⟨w.heap.size, 0, none⟩) (n + m) cap) ∧
      Rowed w none w.heap.size 107 (splice (splice cur1 (i * 2) news) ((i + m) * 2) ((cur.drop (i * 2)).take ((n - i) * 2))) w' ∧ Hid (cur1.length = cap * 2 ∧ cur1.take (i * 2) = cur.take (i * 2) ∧ n + m ≤ cap ∧ cap ≤ maxLen) := by
  have hz1 : ¬ ((m : Int) = 0) := by omega
  have hz2 : ¬ ((i : Int) = (n : Int)) := by omega
  have hw1 : IntKind.i64.wrap ((n : Int) + (m : Int)) = (n : Int) + (m : Int) := by rw [IntKind.wrap_i64]; omega
  have hw2 : IntKind.i64.wrap ((i : Int) + (m : Int)) = (i : Int) + (m : Int) := by rw [IntKind.wrap_i64]; omega
  obtain ⟨k, hk⟩ : ∃ k : Nat, k = n + m - i := ⟨_, rfl⟩
  have hw3 : IntKind.i64.wrap ((n : Int) + (m : Int) - (i : Int)) = (k : Int) := by rw [IntKind.wrap_i64]; omega
  have hn1 : (c : Int) < (n : Int) + (m : Int) := by omega
  have hb1 : (0 : Int) ≤ (i : Int) + (m : Int) := by omega
  have hb5 : (i : Int) ≤ (n : Int) := by omega
  have hb4 : ¬ (c = i) := by omega
  have hic : i ≤ c := by omega
  have htn : ((i : Int) + (m : Int)).toNat = i + m := by omega
  obtain ⟨i0, hi0, hz0, hzs, hzb⟩ := info_parts infoK
  obtain ⟨w1, cap, cur1, hrun, hR1, hl1, ht1, hc1, hc2⟩ := run_zeros2 (P := Try.prog) hR 102 i0 _ Try.underlying102 Try.underlying3 hi0 hz0 hzs rfl i c k (by omega) (by omega) (by omega) (by omega) (by rw [hzb]; omega)
  rw [show i + k = n + m by omega] at hrun hc1
  have hb6 : ¬ (cap = i) := by omega
  have hb7 : ¬ (cap = i + m) := by omega
  have hb8 : i ≤ n + m := by omega
  have hb9 : (i : Int) ≤ (n : Int) + (m : Int) := by omega
  have hb10 : i + m ≤ n + m := by omega
  obtain ⟨X, hX⟩ : ∃ X, X = (cur.drop (i * 2)).take ((n - i) * 2) := ⟨_, rfl⟩
  have lX : X.length = (n - i) * 2 := by rw [hX, List.length_take, List.length_drop, hcl]; omega
  have H := hide (And.intro hl1 (And.intro ht1 (And.intro hc1 hc2)))
  have HRun := hide hrun
  have HV := hide hv
  have HX : Hid (X.length = Nat.min (n - i) (n + m - (i + m)) * 2) := by
    show X.length = _
    rw [lX, show Nat.min (n - i) (n + m - (i + m)) = n - i from by show min _ _ = _; omega]
  have e4 : Hid (∀ u ∈ X, u.oneCell' = true) := fun u hu => h1 u (hX ▸ hu)
  have e5 : Hid (∀ j v, X[j]? = some v → w.cell? ⟨g, i * 2 + j, none⟩ = some v) := fun j v hj => by
    rw [hR.cell]
    rw [hX, List.getElem?_take] at hj
    split at hj
    · rwa [List.getElem?_drop] at hj
    · cases hj
  have f3 : Hid (i * 2 + news.length ≤ cur1.length) := by show _ ≤ _; rw [hv.len]; omega
  have f4 : Hid ((i + m) * 2 + X.length ≤ (splice cur1 (i * 2) news).length) := by show _ ≤ _; rw [length_splice _ _ _ f3.out]; omega
  have f1 : Hid (news.length = Nat.min m (n + m - i) * 2) := by show _ = _; rw [hv.len, show Nat.min m (n + m - i) = m from Nat.min_eq_left (by omega)]
  rw [← hX]
  have HB : Hid (n + m ≤ 9223372036854775807 ∧ cap ≤ maxLen) := ⟨by omega, hc2⟩
  clear hX hl1 ht1 hc1 hc2 lX h1 hR hv hrun hn hi0 hcl hk
  go_enter Try.func101, Try.ntmps101
  have f2 : Hid (∀ j v, news[j]? = some v → w1.cell? ((⟨gv, 0, none⟩ : Addr).add j) = some v) := fun j v hj => by rw [add_g, Nat.zero_add]; exact hR1.other (HV.out.cells j v hj) (by simp)
  go_wp2_with (first
    | (at_builtin; refine Lib.wpList_append_run _ rfl _ _ 102 3 rfl (.slice (some ⟨g, 0, none⟩) i c) (.int .i64 k) rfl rfl _ _ (HRun.out _) ?_)
    | (refine wpList_copy3 rfl _ _ 102 102 rfl 107 Try.underlying102 sizeK (i * 2) (n + m - i) (cap - i) ⟨gv, 0, none⟩ m cv rfl rfl hR1 (.inr (Nat.le_refl _)) news f1.out f2.out f3.out HV.out.one ?_; intro w4 hR4))
  have hR5 := hR4.drew1
  have f5 : Hid (∀ j v, X[j]? = some v → w4.drew.cell? ((⟨g, i * 2, none⟩ : Addr).add j) = some v) := fun j v hj => by
    rw [add_g]
    exact hR5.other (e5.out j v hj) (by simp)
  go_region_law (refine step_copy3 rfl (.tmp 50) (.tmp 53) 102 102 rfl 107 Try.underlying102 sizeK ((i + m) * 2) (n + m - (i + m)) (cap - (i + m)) ⟨g, i * 2, none⟩ (n - i) (c - i) (by simp [Act.eval, Act.put]) (by simp [Act.eval, Act.put]) hR5 (.inr (Nat.le_refl _)) X HX.out f5.out f4.out e4.out ?_; intro w6 hR6)
  go_wp2_with fail
  go_ret
  exact ⟨cap, cur1, rfl, hR6, H⟩
end Go.Proofs.Ytdalghfhpekcfaa
