/- slices.Replace over runs, in the middle of the list, in place. -/
import Derived.Test.YtdalghfhpekcfaaReplMidI
namespace Go.Proofs.Ytdalghfhpekcfaa
open Go.RowKit Go.Shelf

set_option maxHeartbeats 1000000 in
set_option maxRecDepth 100000 in
/-- What is put in is no longer than what goes. -/
theorem replFitI (g c i j q m tot : Nat) (cur news : List Value) (w : World) (hR : Rowed w (some g) g 93 cur w) (hcl : cur.length = c * 2) (gv cv : Nat) (hv : LaidI w gv m news) (_hne : gv ≠ g)
    (h0 : 0 < m) (hi : i < j) (hq : 0 < q) (hnc : j + q ≤ c) (htot : Hid (tot = i + m + q)) (hfit : i + m ≤ j) (B : Hid (c ≤ 9223372036854775807)) (h1 : ∀ u ∈ (cur.drop (j * 2)).take (q * 2), u.oneCell' = true) :
    Calls Try.prog 70 #[.slice (some ⟨g, 0, none⟩) (j + q) c, .int .i64 i, .int .i64 j, .slice (some ⟨gv, 0, none⟩) m cv] w fun e w' => e = .returned (.slice (some ⟨g, 0, none⟩) tot c) ∧ ∃ cur', Rowed w (some g) g 93 cur' w' ∧
      Hid (cur'.length = (splice (splice cur (i * 2) news) ((i + m) * 2) ((cur.drop (j * 2)).take (q * 2))).length ∧ cur'.take (tot * 2) = (splice (splice cur (i * 2) news) ((i + m) * 2) ((cur.drop (j * 2)).take (q * 2))).take (tot * 2)) := by
  have ht := htot.out
  have hB := B.out
  have hz1 : ¬ ((i : Int) = (j : Int)) := by omega
  have hz2 : ¬ ((j : Int) = (j : Int) + (q : Int)) := by omega
  have hz3 : ¬ (q = 0) := by omega
  have hw1 : IntKind.i64.wrap ((i : Int) + (m : Int)) = (i : Int) + (m : Int) := by rw [IntKind.wrap_i64]; omega
  have hw2 : IntKind.i64.wrap ((i : Int) + (m : Int) + (q : Int)) = (tot : Int) := by rw [IntKind.wrap_i64]; omega
  have hn1 : ¬ ((c : Int) < (tot : Int)) := by omega
  have hn2 : (i : Int) + (m : Int) ≤ (j : Int) := by omega
  have hb1 : (0 : Int) ≤ (i : Int) + (m : Int) := by omega
  have hb5 : (i : Int) ≤ (j : Int) := by omega
  have hb6 : (i : Int) ≤ (j : Int) + (q : Int) := by omega
  have hb7 : (j : Int) ≤ (j : Int) + (q : Int) := by omega
  have hb8 : (j : Int) ≤ (c : Int) := by omega
  have hb4 : ¬ (c = i) := by omega
  have hb4' : ¬ (c = j) := by omega
  have hb10 : ¬ (c = i + m) := by omega
  have hic : i ≤ c := by omega
  have hjc : j ≤ c := by omega
  have htc : tot ≤ c := by omega
  have htc' : (tot : Int) ≤ (c : Int) := by omega
  have htc2 : (tot : Int) ≤ (j : Int) + (q : Int) := by omega
  have htc3 : tot ≤ j + q := by omega
  have htn : ((i : Int) + (m : Int)).toNat = i + m := by omega
  have hb11 : i ≤ tot := by omega
  have hb12 : (i : Int) ≤ (tot : Int) := by omega
  have hb13 : (i : Int) + (m : Int) ≤ (tot : Int) := by omega
  have hb14 : i + m ≤ tot := by omega
  obtain ⟨X, hX⟩ : ∃ X, X = (cur.drop (j * 2)).take (q * 2) := ⟨_, rfl⟩
  have lX : X.length = q * 2 := by rw [hX, List.length_take, List.length_drop, hcl]; omega
  have HV := hide hv
  have HX : Hid (X.length = Nat.min q (tot - (i + m)) * 2) := by
    show X.length = _
    rw [lX, show Nat.min q (tot - (i + m)) = q from by show min _ _ = _; omega]
  have e4 : Hid (∀ u ∈ X, u.oneCell' = true) := fun u hu => h1 u (hX ▸ hu)
  have f3 : Hid (i * 2 + news.length ≤ cur.length) := by show _ ≤ _; rw [hv.len]; omega
  have f4 : Hid ((i + m) * 2 + X.length ≤ (splice cur (i * 2) news).length) := by show _ ≤ _; rw [length_splice _ _ _ f3.out]; omega
  have f6 : Hid (tot * 2 + (j + q - tot) * 2 ≤ (splice (splice cur (i * 2) news) ((i + m) * 2) X).length) := by show _ ≤ _; rw [length_splice _ _ _ f4.out, length_splice _ _ _ f3.out]; omega
  have f1 : Hid (news.length = Nat.min m (tot - i) * 2) := by show _ = _; rw [hv.len, show Nat.min m (tot - i) = m from Nat.min_eq_left (by omega)]
  have e5 : Hid (∀ t v, X[t]? = some v → (splice cur (i * 2) news)[j * 2 + t]? = some v) := fun t v hj => by
    rw [hX, List.getElem?_take] at hj
    split at hj
    · rw [List.getElem?_drop] at hj
      rw [get_splice _ _ _ f3.out, if_neg (by omega), if_neg (by rw [hv.len]; omega)]
      exact hj
    · cases hj
  have HRQ : Hid (∀ nq, Rowed w (some g) g 93 cur (w.drewN nq)) := fun nq => hR.drew nq
  have f0 : Hid (∀ nq, ∀ j v, news[j]? = some v → (w.drewN nq).cell? ((⟨gv, 0, none⟩ : Addr).add j) = some v) := fun nq j v hj => by rw [add_g, Nat.zero_add]; exact hv.cells j v hj
  have hct : (c = tot → j + q - tot = 0) := by omega
  have HCT := hide hct
  rw [← hX]
  clear hX lX h1 hR hv hcl ht hB hct
  by_cases hctq : c = tot
  · have hl0 := HCT.out hctq
    subst hctq
    have f6 : Hid (c * 2 + 0 * 2 ≤ (splice (splice cur (i * 2) news) ((i + m) * 2) X).length) := by have := f6.out; rw [hl0] at this; exact this
    go_enter Try.func70, Try.ntmps70
    go_wp2_with fail
    go_quiet (fail)
    have hR1 := HRQ.out nq
    have f2 := hide (f0.out nq)
    generalize w.drewN nq = W at hR1 f2 ⊢
    go_wp2_with (refine wpList_copy3 rfl _ _ 89 89 rfl 93 Try.underlying89 sizeI (i * 2) (c - i) (c - i) ⟨gv, 0, none⟩ m cv rfl rfl hR1 (.inl rfl) news f1.out f2.out f3.out HV.out.one ?_; intro w4 hR4)
    have hR5 := hR4.drew1
    have f5 : Hid (∀ t v, X[t]? = some v → w4.drew.cell? ((⟨g, j * 2, none⟩ : Addr).add t) = some v) := fun t v hj => by
      rw [add_g, hR5.cell]
      exact e5.out t v hj
    go_region_law (refine step_copy3 rfl (.tmp 103) (.tmp 106) 89 89 rfl 93 Try.underlying89 sizeI ((i + m) * 2) (c - (i + m)) (c - (i + m)) ⟨g, j * 2, none⟩ q (c - j) (by simp [Act.eval, Act.put]) (by simp [Act.eval, Act.put]) hR5 (.inl rfl) X HX.out f5.out f4.out e4.out ?_; intro w6 hR6)
    go_wp2_with (refine wpList_clear2 rfl _ 89 rfl 93 _ Try.underlying89 Try.zeroValue93 rfl (by simp [Value.cells]; rfl) _ 0 _ (c * 2) rfl hR6 (.inl rfl) (fun h => absurd h (Nat.lt_irrefl 0)) f6.out ?_; intro w7 cur7 hR7 hC7)
    go_ret
    exact ⟨rfl, cur7, hR7, hC7⟩
  · go_enter Try.func70, Try.ntmps70
    go_wp2_with fail
    go_quiet (fail)
    have hR1 := HRQ.out nq
    have f2 := hide (f0.out nq)
    generalize w.drewN nq = W at hR1 f2 ⊢
    go_wp2_with (refine wpList_copy3 rfl _ _ 89 89 rfl 93 Try.underlying89 sizeI (i * 2) (tot - i) (c - i) ⟨gv, 0, none⟩ m cv rfl rfl hR1 (.inl rfl) news f1.out f2.out f3.out HV.out.one ?_; intro w4 hR4)
    have hR5 := hR4.drew1
    have f5 : Hid (∀ t v, X[t]? = some v → w4.drew.cell? ((⟨g, j * 2, none⟩ : Addr).add t) = some v) := fun t v hj => by
      rw [add_g, hR5.cell]
      exact e5.out t v hj
    go_region_law (refine step_copy3 rfl (.tmp 103) (.tmp 106) 89 89 rfl 93 Try.underlying89 sizeI ((i + m) * 2) (tot - (i + m)) (c - (i + m)) ⟨g, j * 2, none⟩ q (c - j) (by simp [Act.eval, Act.put]) (by simp [Act.eval, Act.put]) hR5 (.inl rfl) X HX.out f5.out f4.out e4.out ?_; intro w6 hR6)
    go_wp2_with (refine wpList_clear2 rfl _ 89 rfl 93 _ Try.underlying89 Try.zeroValue93 rfl (by simp [Value.cells]; rfl) (some ⟨g, tot * 2, none⟩) (j + q - tot) (c - tot) (tot * 2) rfl hR6 (.inl rfl) (fun _ => rfl) f6.out ?_; intro w7 cur7 hR7 hC7)
    go_ret
    exact ⟨rfl, cur7, hR7, hC7⟩

set_option maxHeartbeats 1000000 in
set_option maxRecDepth 100000 in
/-- Nothing is put in. -/
theorem replFitNilI (g c i j q tot : Nat) (cur : List Value) (w : World) (hR : Rowed w (some g) g 93 cur w) (hcl : cur.length = c * 2)
    (hi : i < j) (hq : 0 < q) (hnc : j + q ≤ c) (htot : Hid (tot = i + q)) (B : Hid (c ≤ 9223372036854775807)) (h1 : ∀ u ∈ (cur.drop (j * 2)).take (q * 2), u.oneCell' = true) :
    Calls Try.prog 70 #[.slice (some ⟨g, 0, none⟩) (j + q) c, .int .i64 i, .int .i64 j, .slice none 0 0] w fun e w' => e = .returned (.slice (some ⟨g, 0, none⟩) tot c) ∧ ∃ cur', Rowed w (some g) g 93 cur' w' ∧
      Hid (cur'.length = (splice cur (i * 2) ((cur.drop (j * 2)).take (q * 2))).length ∧ cur'.take (tot * 2) = (splice cur (i * 2) ((cur.drop (j * 2)).take (q * 2))).take (tot * 2)) := by
  have ht := htot.out
  have hB := B.out
  have hz1 : ¬ ((i : Int) = (j : Int)) := by omega
  have hz2 : ¬ ((j : Int) = (j : Int) + (q : Int)) := by omega
  have hz3 : ¬ (q = 0) := by omega
  have hw1 : IntKind.i64.wrap (i : Int) = (i : Int) := by rw [IntKind.wrap_i64]; omega
  have hw2 : IntKind.i64.wrap ((i : Int) + (q : Int)) = (tot : Int) := by rw [IntKind.wrap_i64]; omega
  have hn1 : ¬ ((c : Int) < (tot : Int)) := by omega
  have hb5 : (i : Int) ≤ (j : Int) := by omega
  have hb6 : (i : Int) ≤ (j : Int) + (q : Int) := by omega
  have hb7 : (j : Int) ≤ (j : Int) + (q : Int) := by omega
  have hb8 : (j : Int) ≤ (c : Int) := by omega
  have hb4 : ¬ (c = i) := by omega
  have hb4' : ¬ (c = j) := by omega
  have hic : i ≤ c := by omega
  have hjc : j ≤ c := by omega
  have htc : tot ≤ c := by omega
  have htc' : (tot : Int) ≤ (c : Int) := by omega
  have htc2 : (tot : Int) ≤ (j : Int) + (q : Int) := by omega
  have htc3 : tot ≤ j + q := by omega
  have hb11 : i ≤ tot := by omega
  have hb12 : (i : Int) ≤ (tot : Int) := by omega
  obtain ⟨X, hX⟩ : ∃ X, X = (cur.drop (j * 2)).take (q * 2) := ⟨_, rfl⟩
  have lX : X.length = q * 2 := by rw [hX, List.length_take, List.length_drop, hcl]; omega
  have HX : Hid (X.length = Nat.min q (tot - i) * 2) := by
    show X.length = _
    rw [lX, show Nat.min q (tot - i) = q from by show min _ _ = _; omega]
  have e4 : Hid (∀ u ∈ X, u.oneCell' = true) := fun u hu => h1 u (hX ▸ hu)
  have f4 : Hid (i * 2 + X.length ≤ cur.length) := by show _ ≤ _; omega
  have f6 : Hid (tot * 2 + (j + q - tot) * 2 ≤ (splice cur (i * 2) X).length) := by show _ ≤ _; rw [length_splice _ _ _ f4.out]; omega
  have e5 : Hid (∀ t v, X[t]? = some v → cur[j * 2 + t]? = some v) := fun t v hj => by
    rw [hX, List.getElem?_take] at hj
    split at hj
    · rwa [List.getElem?_drop] at hj
    · cases hj
  have HRQ : Hid (∀ nq, Rowed w (some g) g 93 cur (w.drewN nq)) := fun nq => hR.drew nq
  have hct : (c = tot → j + q - tot = 0) := by omega
  have HCT := hide hct
  rw [← hX]
  clear hX lX h1 hR hcl ht hB hct
  by_cases hctq : c = tot
  · have hl0 := HCT.out hctq
    subst hctq
    have f6 : Hid (c * 2 + 0 * 2 ≤ (splice cur (i * 2) X).length) := by have := f6.out; rw [hl0] at this; exact this
    go_enter Try.func70, Try.ntmps70
    go_wp2_with fail
    go_quiet (fail)
    have hR1 := HRQ.out nq
    generalize w.drewN nq = W at hR1 ⊢
    have f1 : Hid (([] : List Value).length = Nat.min 0 (c - i) * 2) := by show _ = _; rw [show Nat.min 0 (c - i) = 0 from Nat.min_eq_left (by omega)]; rfl
    have f3 : Hid (i * 2 + ([] : List Value).length ≤ cur.length) := by show _ ≤ _; have := f4.out; simp only [List.length_nil]; omega
    go_wp2_with (refine wpList_copy2 rfl _ _ 89 89 rfl 93 Try.underlying89 sizeI (some ⟨g, i * 2, none⟩) none (c - i) (c - i) 0 0 rfl rfl hR1 (.inl rfl) (i * 2) [] f1.out (fun h => absurd h (Nat.lt_irrefl 0)) f3.out (fun _ h => absurd h List.not_mem_nil) ?_; intro w4 hR4)
    have hR4' : Rowed w (some g) g 93 cur w4 := by simpa [splice] using hR4
    have hR5 := hR4'.drew1
    have f5 : Hid (∀ t v, X[t]? = some v → w4.drew.cell? ((⟨g, j * 2, none⟩ : Addr).add t) = some v) := fun t v hj => by
      rw [add_g, hR5.cell]
      exact e5.out t v hj
    go_region_law (refine step_copy3 rfl (.tmp 103) (.tmp 106) 89 89 rfl 93 Try.underlying89 sizeI (i * 2) (c - i) (c - i) ⟨g, j * 2, none⟩ q (c - j) (by simp [Act.eval, Act.put]) (by simp [Act.eval, Act.put]) hR5 (.inl rfl) X HX.out f5.out f4.out e4.out ?_; intro w6 hR6)
    go_wp2_with (refine wpList_clear2 rfl _ 89 rfl 93 _ Try.underlying89 Try.zeroValue93 rfl (by simp [Value.cells]; rfl) _ 0 _ (c * 2) rfl hR6 (.inl rfl) (fun h => absurd h (Nat.lt_irrefl 0)) f6.out ?_; intro w7 cur7 hR7 hC7)
    go_ret
    exact ⟨rfl, cur7, hR7, hC7⟩
  · go_enter Try.func70, Try.ntmps70
    go_wp2_with fail
    go_quiet (fail)
    have hR1 := HRQ.out nq
    generalize w.drewN nq = W at hR1 ⊢
    have f1 : Hid (([] : List Value).length = Nat.min 0 (tot - i) * 2) := by show _ = _; rw [show Nat.min 0 (tot - i) = 0 from Nat.min_eq_left (by omega)]; rfl
    have f3 : Hid (i * 2 + ([] : List Value).length ≤ cur.length) := by show _ ≤ _; have := f4.out; simp only [List.length_nil]; omega
    go_wp2_with (refine wpList_copy2 rfl _ _ 89 89 rfl 93 Try.underlying89 sizeI (some ⟨g, i * 2, none⟩) none (tot - i) (c - i) 0 0 rfl rfl hR1 (.inl rfl) (i * 2) [] f1.out (fun h => absurd h (Nat.lt_irrefl 0)) f3.out (fun _ h => absurd h List.not_mem_nil) ?_; intro w4 hR4)
    have hR4' : Rowed w (some g) g 93 cur w4 := by simpa [splice] using hR4
    have hR5 := hR4'.drew1
    have f5 : Hid (∀ t v, X[t]? = some v → w4.drew.cell? ((⟨g, j * 2, none⟩ : Addr).add t) = some v) := fun t v hj => by
      rw [add_g, hR5.cell]
      exact e5.out t v hj
    go_region_law (refine step_copy3 rfl (.tmp 103) (.tmp 106) 89 89 rfl 93 Try.underlying89 sizeI (i * 2) (tot - i) (c - i) ⟨g, j * 2, none⟩ q (c - j) (by simp [Act.eval, Act.put]) (by simp [Act.eval, Act.put]) hR5 (.inl rfl) X HX.out f5.out f4.out e4.out ?_; intro w6 hR6)
    go_wp2_with (refine wpList_clear2 rfl _ 89 rfl 93 _ Try.underlying89 Try.zeroValue93 rfl (by simp [Value.cells]; rfl) (some ⟨g, tot * 2, none⟩) (j + q - tot) (c - tot) (tot * 2) rfl hR6 (.inl rfl) (fun _ => rfl) f6.out ?_; intro w7 cur7 hR7 hC7)
    go_ret
    exact ⟨rfl, cur7, hR7, hC7⟩

end Go.Proofs.Ytdalghfhpekcfaa
