/- slices.Replace over runs, in the middle of the list, in place, where more is put in than goes. -/
import Derived.Test.YtdalghfhpekcfaaReplFitI
namespace Go.Proofs.Ytdalghfhpekcfaa
open Go.RowKit Go.Shelf

set_option maxHeartbeats 1000000 in
set_option maxRecDepth 100000 in
/-- What is put in is longer than what goes. -/
theorem replWideI (g c i j q m tot : Nat) (cur news : List Value) (w : World) (hR : Rowed w (some g) g 93 cur w) (hcl : cur.length = c * 2) (gv cv : Nat) (hv : LaidI w gv m news) (hne : gv ≠ g)
    (h0 : 0 < m) (hi : i < j) (hq : 0 < q) (hnc : j + q ≤ c) (htot : Hid (tot = i + m + q)) (hfit : j < i + m) (htc : tot ≤ c) (B : Hid (c ≤ 9223372036854775807)) (h1 : ∀ u ∈ (cur.drop (j * 2)).take (q * 2), u.oneCell' = true) :
    Calls Try.prog 70 #[.slice (some ⟨g, 0, none⟩) (j + q) c, .int .i64 i, .int .i64 j, .slice (some ⟨gv, 0, none⟩) m cv] w fun e w' => e = .returned (.slice (some ⟨g, 0, none⟩) tot c) ∧ Rowed w (some g) g 93 (splice (splice cur ((i + m) * 2) ((cur.drop (j * 2)).take (q * 2))) (i * 2) news) w' := by
  have ht := htot.out
  have hB := B.out
  have hz1 : ¬ ((i : Int) = (j : Int)) := by omega
  have hz2 : ¬ ((j : Int) = (j : Int) + (q : Int)) := by omega
  have hz3 : ¬ (q = 0) := by omega
  have hw1 : IntKind.i64.wrap ((i : Int) + (m : Int)) = (i : Int) + (m : Int) := by rw [IntKind.wrap_i64]; omega
  have hw2 : IntKind.i64.wrap ((i : Int) + (m : Int) + (q : Int)) = (tot : Int) := by rw [IntKind.wrap_i64]; omega
  have hn1 : ¬ ((c : Int) < (tot : Int)) := by omega
  have hn2 : ¬ ((i : Int) + (m : Int) ≤ (j : Int)) := by omega
  have hb1 : (0 : Int) ≤ (i : Int) + (m : Int) := by omega
  have hb5 : (i : Int) ≤ (j : Int) := by omega
  have hb6 : (i : Int) ≤ (j : Int) + (q : Int) := by omega
  have hb7 : (j : Int) ≤ (j : Int) + (q : Int) := by omega
  have hb8 : (j : Int) ≤ (c : Int) := by omega
  have hb4 : ¬ (c = i) := by omega
  have hb4' : ¬ (c = j) := by omega
  have hb10 : ¬ (c = i + m) := by omega
  have hic : i ≤ c := by omega
  have hjc : j ≤ c := by omega
  have htc' : (tot : Int) ≤ (c : Int) := by omega
  have htn : ((i : Int) + (m : Int)).toNat = i + m := by omega
  have hb11 : i ≤ tot := by omega
  have hb12 : (i : Int) ≤ (tot : Int) := by omega
  have hb13 : (i : Int) + (m : Int) ≤ (tot : Int) := by omega
  have hb14 : i + m ≤ tot := by omega
  obtain ⟨X, hX⟩ : ∃ X, X = (cur.drop (j * 2)).take (q * 2) := ⟨_, rfl⟩
  have lX : X.length = q * 2 := by rw [hX, List.length_take, List.length_drop, hcl]; omega
  have HV := hide hv
  have HX : Hid (X.length = Nat.min q (tot - (i + m)) * 2) := by
    show X.length = _
    rw [lX, show Nat.min q (tot - (i + m)) = q from by show min _ _ = _; omega]
  have e4 : Hid (∀ u ∈ X, u.oneCell' = true) := fun u hu => h1 u (hX ▸ hu)
  have f4 : Hid ((i + m) * 2 + X.length ≤ cur.length) := by show _ ≤ _; omega
  have f3 : Hid (i * 2 + news.length ≤ (splice cur ((i + m) * 2) X).length) := by show _ ≤ _; rw [length_splice _ _ _ f4.out, hv.len]; omega
  have f1 : Hid (news.length = Nat.min m (tot - i) * 2) := by show _ = _; rw [hv.len, show Nat.min m (tot - i) = m from Nat.min_eq_left (by omega)]
  have e5 : Hid (∀ t v, X[t]? = some v → cur[j * 2 + t]? = some v) := fun t v hj => by
    rw [hX, List.getElem?_take] at hj
    split at hj
    · rwa [List.getElem?_drop] at hj
    · cases hj
  have HRQ : Hid (∀ nq, Rowed w (some g) g 93 cur (w.drewN nq)) := fun nq => hR.drew nq
  have HOV : Hid (∀ nq o lb cb, (callFunc 94 #[.slice (some ⟨g, o, none⟩) lb cb, .slice (some ⟨gv, 0, none⟩) m cv]).run Try.prog (w.drewN nq) = .ok (.value (.bool false)) (w.drewN nq)) := fun nq o lb cb => by
    obtain ⟨y, hy, hy0⟩ := hv.blk
    exact overI (w.drewN nq) g o lb cb gv 0 m cv cur.toArray y _ _ hR.heap hy hy0 (Ne.symm hne)
  rw [← hX]
  clear hX lX h1 hR hv hcl ht hB
  go_enter Try.func70, Try.ntmps70
  go_wp2_with fail
  go_quiet (fail)
  have hR1 := HRQ.out nq
  have hov := HOV.out nq
  generalize w.drewN nq = W at hR1 hov ⊢
  go_wp2_with (simp only [hov])
  have hR2 := hR1.drew1
  have f5 : Hid (∀ t v, X[t]? = some v → W.drew.cell? ((⟨g, j * 2, none⟩ : Addr).add t) = some v) := fun t v hj => by
    rw [add_g, hR2.cell]
    exact e5.out t v hj
  go_region_law (refine step_copy3 rfl (.tmp 126) (.tmp 129) 89 89 rfl 93 Try.underlying89 sizeI ((i + m) * 2) (tot - (i + m)) (c - (i + m)) ⟨g, j * 2, none⟩ q (c - j) (by simp [Act.eval, Act.put]) (by simp [Act.eval, Act.put]) hR2 (.inl rfl) X HX.out f5.out f4.out e4.out ?_; intro w4 hR4)
  have f2 : Hid (∀ j v, news[j]? = some v → w4.cell? ((⟨gv, 0, none⟩ : Addr).add j) = some v) := fun j v hj => by
    rw [add_g, Nat.zero_add]
    exact hR4.other (HV.out.cells j v hj) (by simpa using hne)
  go_wp2_with (refine wpList_copy3 rfl _ _ 89 89 rfl 93 Try.underlying89 sizeI (i * 2) (tot - i) (c - i) ⟨gv, 0, none⟩ m cv rfl rfl hR4 (.inl rfl) news f1.out f2.out f3.out HV.out.one ?_; intro w5 hR5)
  go_ret
  exact ⟨rfl, hR5⟩
end Go.Proofs.Ytdalghfhpekcfaa
