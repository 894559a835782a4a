/- lay over runs of bytes. -/
import Derived.Test.YtdalghfhpekcfaaAddK
import Derived.Deep.QuietTactic
namespace Go.Proofs.Ytdalghfhpekcfaa
open Go.RowKit Go.Shelf

theorem enc_set_hi (k : IntKind) (z : Int) : ∀ (rs : List (Int × Int)) (i : Nat), i < rs.length → (enc k rs).set (i * 2 + 1) (.int k z) = enc k (rs.set i (lo rs i, z))
  | [], i, h => by simp at h
  | r :: rs, 0, _ => by simp [enc, lo]
  | r :: rs, i + 1, h => by
    rw [show (i + 1) * 2 + 1 = i * 2 + 1 + 1 + 1 by omega, enc_cons, List.set_cons_succ, List.set_cons_succ, enc_set_hi k z rs i (by simpa using h), List.set_cons_succ, enc_cons]
    simp [lo]

/-- What lay makes of the runs. -/
def layM (rs : List (Int × Int)) (r : Int × Int) : List (Int × Int) :=
  if rs = [] ∨ ¬ r.1 ≤ hi rs (rs.length - 1) + 1 then rs ++ [r] else rs.set (rs.length - 1) (lo rs (rs.length - 1), max (hi rs (rs.length - 1)) r.2)

/-- Runs that lie in a block of their own, at B or behind. -/
structure NewK (B : Nat) (w0 w : World) (v : Value) (rs : List (Int × Int)) : Prop where
  row : w.ownsRow 0 107 2 v rs.length (enc .i8 rs)
  blk : ∀ k, v.ownBlock = some k → B ≤ k
  below : Below B w0 w
  size : B ≤ w.heap.size

theorem NewK.alloc {B : Nat} {w0 w : World} {v : Value} {rs : List (Int × Int)} (h : NewK B w0 w v rs) (o : Obj) : NewK B w0 (w.alloc o) v rs :=
  ⟨h.row.alloc _, h.blk, h.below.alloc h.size _, by have := h.size; simp; omega⟩

theorem NewK.drew {B : Nat} {w0 w : World} {v : Value} {rs : List (Int × Int)} (h : NewK B w0 w v rs) (q : Nat) : NewK B w0 (w.drewN q) v rs :=
  ⟨h.row, h.blk, below_drewN h.below q, h.size⟩

theorem NewK.append {B : Nat} {w0 W : World} {v : Value} {rs : List (Int × Int)} (h : NewK B w0 W v rs) (y z : Int) (hn : rs.length ≤ 1099511627776) :
    ∃ g' cap' w', (Builtin.append_ #[102, 102] 102 #[v, .slice (some ⟨W.heap.size, 0, none⟩) 1 1]).run Try.prog (W.alloc (.cells #[.int .i8 y, .int .i8 z] 107)) = .ok (.slice (some ⟨g', 0, none⟩) (rs.length + 1) cap') w' ∧ Hid (NewK B w0 w' (.slice (some ⟨g', 0, none⟩) (rs.length + 1) cap') (rs ++ [(y, z)])) := by
  obtain ⟨i0, hi0, hz0, hzs, hzb⟩ := info_parts infoK
  obtain ⟨g', cap', w', hr, h1, h2, h3⟩ := run_append2 (P := Try.prog) (w := W.alloc (.cells #[.int .i8 y, .int .i8 z] 107)) 102 102 107 i0 _ Try.underlying102 hi0 hz0 hzs rfl (by rw [hzb]; omega) v rs.length _ (h.row.alloc _) ⟨W.heap.size, 0, none⟩ 1 1 (enc .i8 [(y, z)]) rfl
    (fun j u hj => by
      have := (litRowK W y z).cells (g := W.heap.size) rfl j u hj
      exact this) (enc_one _ _) (by omega) (by omega)
  refine ⟨g', cap', w', hr, ?_, ?_, ?_, ?_⟩
  · rw [enc_append, List.length_append]; exact h1
  · intro k hk
    simp only [Value.ownBlock, Option.some.injEq] at hk
    subst hk
    rcases h3.out with h4 | h4
    · exact h.blk _ h4
    · have := h.size; simp at h4; omega
  · exact (h.below.alloc h.size _).grown h2 (by have := h.size; simp; omega) h.blk
  · have e1 := h2.size; have := h.size; simp only [World.alloc, Array.size_push] at e1; omega

theorem NewK.shape {B : Nat} {w0 W : World} {v : Value} {rs : List (Int × Int)} (h : NewK B w0 W v rs) : ∃ a c, v = .slice a rs.length c := by
  rcases h.row.2 with ⟨rfl, h3⟩ | ⟨g, cap, cur, rfl, -⟩
  · exact ⟨none, 0, by rw [h3]⟩
  · exact ⟨_, _, rfl⟩

theorem NewK.lit {B : Nat} {w0 w : World} {v : Value} {rs : List (Int × Int)} (h : NewK B w0 w v rs) (y z : Int) (hn : rs.length ≤ 1099511627776) (q : Nat) :
    ∃ g' cap' w', (Builtin.append_ #[102, 102] 102 #[v, .slice (some ⟨w.heap.size + 1, 0, none⟩) 1 1]).run Try.prog (((w.alloc (.cells #[.int .i8 y, .int .i8 z] 107)).drewN q).alloc (.cells #[.int .i8 y, .int .i8 z] 107)) = .ok (.slice (some ⟨g', 0, none⟩) (rs.length + 1) cap') w' ∧ Hid (NewK B w0 w' (.slice (some ⟨g', 0, none⟩) (rs.length + 1) cap') (rs ++ [(y, z)])) := by
  have := ((h.alloc (.cells #[.int .i8 y, .int .i8 z] 107)).drew q).append y z hn
  rwa [show ((w.alloc (.cells #[.int .i8 y, .int .i8 z] 107)).drewN q).heap.size = w.heap.size + 1 from Array.size_push ..] at this

set_option maxHeartbeats 1000000 in
set_option maxRecDepth 100000 in
theorem layNoneK {B : Nat} {w0 : World} {v : Value} (y z : Int) (w : World) (h : NewK B w0 w v []) :
    Calls Try.prog 105 #[v, .agg #[.int .i8 y, .int .i8 z]] w fun e w' => ∃ g c, e = .returned (.slice (some ⟨g, 0, none⟩) 1 c) ∧ Hid (NewK B w0 w' (.slice (some ⟨g, 0, none⟩) 1 c) [(y, z)]) := by
  obtain ⟨a, c, rfl⟩ := h.shape
  have HRun := hide (h.lit y z (by simp))
  clear h
  go_enter Try.func105, Try.ntmps105
  go_wp2_with fail
  go_quiet (fail)
  obtain ⟨g', cap', w', hr, hN⟩ := unhide HRun nq
  have HR := hide hr
  clear hr HRun
  go_wp2_with (at_builtin; refine Lib.wpList_append_run _ rfl _ _ 102 102 rfl (.slice a 0 c) (.slice (some ⟨w.heap.size + 1, 0, none⟩) 1 1) rfl rfl _ _ HR.out ?_)
  go_ret
  exact ⟨g', cap', rfl, hN⟩

set_option maxHeartbeats 1000000 in
set_option maxRecDepth 100000 in
theorem laySomeK {B : Nat} {w0 : World} {v : Value} {rs : List (Int × Int)} (y z : Int) (w : World) (h : NewK B w0 w v rs) (h0 : 0 < rs.length) (hn : rs.length ≤ 1099511627776) (hF : ∀ t, t < rs.length → (-128) ≤ hi rs t ∧ hi rs t ≤ 127) (HA : Hid (((-128) ≤ y ∧ y ≤ 127) ∧ (-128) ≤ z ∧ z ≤ 127)) :
    Calls Try.prog 105 #[v, .agg #[.int .i8 y, .int .i8 z]] w fun e w' => ∃ g c, e = .returned (.slice (some ⟨g, 0, none⟩) (layM rs (y, z)).length c) ∧ Hid (NewK B w0 w' (.slice (some ⟨g, 0, none⟩) (layM rs (y, z)).length c) (layM rs (y, z))) := by
  obtain ⟨m, hm⟩ : ∃ m, rs.length = m + 1 := ⟨rs.length - 1, by omega⟩
  obtain ⟨g, c, cur, rfl, hnc, -, -, -, hgl, -⟩ := owns_rowed h.row h0
  have hfm := hF m (by omega)
  have hcell := (owns_cells h.row m (by omega)).2
  have hfz : w.frozen? ⟨g, m * 2 + 1, none⟩ = false := by
    rcases h.row.2 with ⟨e, -⟩ | ⟨g2, cap2, cur2, e, -, hg, -⟩
    · cases e
    · cases e; simp [World.frozen?, hg]
  have hgw : g < w.heap.size := hgl
  have hmz : decide ((m : Int) < 0) = false := by simp
  have hml : (m : Int) < (rs.length : Int) := by omega
  have hwk : IntKind.i64.wrap ((rs.length : Int) - 1) = (m : Int) := by rw [IntKind.wrap_i64]; omega
  have e1 : rs.length - 1 = m := by omega
  have e2 : rs ≠ [] := fun e => by rw [e] at h0; simp at h0
  have HM : Hid (layM rs (y, z) = if ¬ y ≤ hi rs m + 1 then rs ++ [(y, z)] else rs.set m (lo rs m, max (hi rs m) z)) := by
    show _ = _
    unfold layM
    rw [e1]
    simp [e2]
  have HRun := hide (h.lit y z hn)
  have HS : Hid (∀ q u, NewK B w0 (((w.alloc (.cells #[.int .i8 y, .int .i8 z] 107)).drewN q).setCell ⟨g, m * 2 + 1, none⟩ (.int .i8 u)) (.slice (some ⟨g, 0, none⟩) rs.length c) (rs.set m (lo rs m, u))) := fun q u => by
    have hN := (h.alloc (.cells #[.int .i8 y, .int .i8 z] 107)).drew q
    obtain ⟨k1, k2⟩ := World.ownsRow.stored hN.row (m * 2 + 1) (.int .i8 u)
    rw [enc_set_hi _ _ _ _ (by omega)] at k1
    exact ⟨by rw [List.length_set]; exact k1, hN.blk, hN.below.setCell (p := ⟨g, m * 2 + 1, none⟩) (h.blk g rfl) _, by have := hN.size; have := k2.size; omega⟩
  have HT : Hid (∀ q, Calls Try.prog 77 #[.int .i8 (hi rs m), .int .i8 y] ((w.alloc (.cells #[.int .i8 y, .int .i8 z] 107)).drewN q) fun e w' => e = .returned (.bool (decide (y ≤ hi rs m + 1))) ∧ ∃ q', w' = (w.alloc (.cells #[.int .i8 y, .int .i8 z] 107)).drewN q') := fun q => by
    refine (touchK (hi rs m) y _ (hide ⟨hfm.1, hfm.2, (unhide HA).1.2⟩)).mono ?_
    rintro e w' ⟨rfl, rfl⟩
    exact ⟨rfl, q, rfl⟩
  generalize hi rs m = x at *
  generalize hL : rs.length = L at *
  have HL := hide hL
  have HNL := hide hn
  clear h hF hn e1 e2 h0 hm hL hnc
  by_cases hc : y ≤ x + 1
  · have hcd : decide (y ≤ x + 1) = true := by simpa using hc
    rw [hcd] at HT
    rw [show layM rs (y, z) = rs.set m (lo rs m, max x z) from (unhide HM).trans (if_neg (by omega)), List.length_set, unhide HL]
    clear HRun HM
    go_enter Try.func105, Try.ntmps105
    go_wp2_with fail
    go_quiet ((go_at_call 77; exact unhide HT _))
    go_wp2_with fail
    clear HT
    go_region
    go_wp2_with fail
    · go_ret
      refine ⟨g, c, rfl, ?_⟩
      rw [show max x z = z by omega]
      exact unhide HS (nq + 1) z
    · go_ret
      refine ⟨g, c, rfl, ?_⟩
      rw [show max x z = x by omega]
      exact unhide HS (nq + 1) x
  · have hcd : decide (y ≤ x + 1) = false := by simpa using hc
    rw [hcd] at HT
    rw [show layM rs (y, z) = rs ++ [(y, z)] from (unhide HM).trans (if_pos (by omega)), List.length_append, unhide HL]
    clear HS HM
    go_enter Try.func105, Try.ntmps105
    go_wp2_with fail
    go_quiet ((go_at_call 77; exact unhide HT _))
    obtain ⟨g', cap', w', hr, hN⟩ := unhide HRun nq
    have HR := hide hr
    clear hr HRun HT
    go_wp2_with (at_builtin; refine Lib.wpList_append_run _ rfl _ _ 102 102 rfl (.slice (some ⟨g, 0, none⟩) L c) (.slice (some ⟨w.heap.size + 1, 0, none⟩) 1 1) rfl rfl _ _ HR.out ?_)
    go_ret
    exact ⟨g', cap', rfl, hN⟩

theorem layK {B : Nat} {w0 : World} {v : Value} {rs : List (Int × Int)} (y z : Int) (w : World) (h : NewK B w0 w v rs) (hn : rs.length ≤ 1099511627776) (hC : Canon rs) (hF : Fits (-128) 127 rs) (HA : Hid (((-128) ≤ y ∧ y ≤ 127) ∧ (-128) ≤ z ∧ z ≤ 127)) :
    Calls Try.prog 105 #[v, .agg #[.int .i8 y, .int .i8 z]] w fun e w' => ∃ g c, e = .returned (.slice (some ⟨g, 0, none⟩) (layM rs (y, z)).length c) ∧ Hid (NewK B w0 w' (.slice (some ⟨g, 0, none⟩) (layM rs (y, z)).length c) (layM rs (y, z))) := by
  cases rs with
  | nil => exact layNoneK y z w h
  | cons r rs => exact laySomeK y z w h (by simp) hn (fun t ht => by have := hF t ht; have := hC.run t ht; omega) HA

/-! ### what is laid, as numbers -/

theorem lay_runs {rs : List (Int × Int)} (hC : Canon rs) {r : Int × Int} (hr : r.1 ≤ r.2) (hl : ∀ t, t < rs.length → lo rs t ≤ r.1) :
    Canon (layM rs r) ∧ (∀ x, In (layM rs r) x ↔ In rs x ∨ r.1 ≤ x ∧ x ≤ r.2) ∧ (∀ t, t < (layM rs r).length → lo (layM rs r) t ≤ r.1) ∧ (layM rs r).length ≤ rs.length + 1 := by
  unfold layM
  split
  · rename_i h
    have h1 : ∀ t, t < rs.length → hi rs t + 1 < r.1 := fun t ht => by
      rcases h with h | h
      · rw [h] at ht; simp at ht
      · have := (hC.mono (t := t) (u := rs.length - 1) (by omega) (by omega)).2; omega
    obtain ⟨k1, k2⟩ := add_runs hC hr (f := rs.length) (e := rs.length) (l := r.1) (h := r.2) (Nat.le_refl _) (Nat.le_refl _) h1 (fun t a b => by omega) (fun t a b => by omega) (by simp) (by simp)
    have e : rs.take rs.length ++ [(r.1, r.2)] ++ rs.drop rs.length = rs ++ [r] := by simp
    have hlo := fun t => lo3 rs [(r.1, r.2)] rs.length rs.length t (Nat.le_refl _)
    rw [e] at k1 k2 hlo
    refine ⟨k1, k2, fun t ht => ?_, by simp⟩
    rw [hlo]
    simp only [List.length_append, List.length_cons, List.length_nil] at ht
    split
    · exact hl t (by assumption)
    · rw [if_pos (by simpa using ht), show t - rs.length = 0 by omega]
      simp [lo]
  · rename_i h
    have h0 : rs ≠ [] := fun e => h (.inl e)
    have hp : 0 < rs.length := List.length_pos_iff.2 h0
    have h2 : r.1 ≤ hi rs (rs.length - 1) + 1 := by
      rcases Int.lt_or_le (hi rs (rs.length - 1) + 1) r.1 with h3 | h3
      · exact absurd (.inr (by omega)) h
      · exact h3
    have h3 := hl (rs.length - 1) (by omega)
    have h4 := hC.run (rs.length - 1) (by omega)
    obtain ⟨k1, k2⟩ := add_runs hC hr (f := rs.length - 1) (e := rs.length) (l := lo rs (rs.length - 1)) (h := max (hi rs (rs.length - 1)) r.2) (by omega) (Nat.le_refl _)
      (fun t ht => by have := hC.gap t (rs.length - 1) ht (by omega); omega) (fun t a b => by omega)
      (fun t a b => by
        have : t = rs.length - 1 := by omega
        subst this; omega) (by rw [if_pos (by omega)]; omega) (by rw [if_pos (by omega)]; omega)
    have e : rs.take (rs.length - 1) ++ [(lo rs (rs.length - 1), max (hi rs (rs.length - 1)) r.2)] ++ rs.drop rs.length = rs.set (rs.length - 1) (lo rs (rs.length - 1), max (hi rs (rs.length - 1)) r.2) := by
      rw [List.set_eq_take_append_cons_drop, if_pos (by omega), show rs.length - 1 + 1 = rs.length by omega]
      simp
    have hlo := fun t => lo3 rs [(lo rs (rs.length - 1), max (hi rs (rs.length - 1)) r.2)] (rs.length - 1) rs.length t (by omega)
    rw [e] at k1 k2 hlo
    refine ⟨k1, k2, fun t ht => ?_, by simp⟩
    rw [hlo]
    rw [List.length_set] at ht
    split
    · exact hl t ht
    · rw [if_pos (by simp; omega), show t - (rs.length - 1) = 0 by omega]
      simpa [lo] using h3

theorem in_take_succ {rs : List (Int × Int)} {i : Nat} (h : i < rs.length) (x : Int) : In (rs.take (i + 1)) x ↔ In (rs.take i) x ∨ lo rs i ≤ x ∧ x ≤ hi rs i := by
  have g : ∀ n t, t < n → lo (rs.take n) t = lo rs t ∧ hi (rs.take n) t = hi rs t := fun n t ht => by simp [lo, hi, List.getD_eq_getElem?_getD, ht]
  constructor
  · rintro ⟨t, h1, h2, h3⟩
    rw [List.length_take] at h1
    obtain ⟨g1, g2⟩ := g (i + 1) t (by omega)
    rw [g1] at h2
    rw [g2] at h3
    rcases Nat.lt_or_ge t i with h4 | h4
    · exact .inl ⟨t, by rw [List.length_take]; omega, by rw [(g i t h4).1]; exact h2, by rw [(g i t h4).2]; exact h3⟩
    · have : t = i := by omega
      subst this
      exact .inr ⟨h2, h3⟩
  · rintro (⟨t, h1, h2, h3⟩ | ⟨h2, h3⟩)
    · rw [List.length_take] at h1
      obtain ⟨g1, g2⟩ := g i t (by omega)
      rw [g1] at h2
      rw [g2] at h3
      exact ⟨t, by rw [List.length_take]; omega, by rw [(g (i + 1) t (by omega)).1]; exact h2, by rw [(g (i + 1) t (by omega)).2]; exact h3⟩
    · exact ⟨i, by rw [List.length_take]; omega, by rw [(g (i + 1) i (by omega)).1]; exact h2, by rw [(g (i + 1) i (by omega)).2]; exact h3⟩

/-- Between two rounds of merge: i runs of a and j of b are laid. -/
structure Mid (a b : List (Int × Int)) (i j : Nat) (acc : List (Int × Int)) : Prop where
  canon : Canon acc
  tell : ∀ x, In acc x ↔ In (a.take i) x ∨ In (b.take j) x
  lowA : ∀ t u, t < acc.length → i ≤ u → u < a.length → lo acc t ≤ lo a u
  lowB : ∀ t u, t < acc.length → j ≤ u → u < b.length → lo acc t ≤ lo b u
  len : acc.length ≤ i + j
  fits : Fits (-128) 127 acc

theorem mid_start (a b : List (Int × Int)) : Mid a b 0 0 [] :=
  ⟨canon_nil, fun x => by simp [In], fun t u h => by simp at h, fun t u h => by simp at h, by simp, fun t h => by simp at h⟩

theorem Mid.layA {a b : List (Int × Int)} {i j : Nat} {acc : List (Int × Int)} (h : Mid a b i j acc) (ha : Canon a) (fa : Fits (-128) 127 a) (hi1 : i < a.length) (hb : Canon b) (hle : j < b.length → lo a i ≤ lo b j) : Mid a b (i + 1) j (layM acc (lo a i, hi a i)) := by
  obtain ⟨k1, k2, k3, k4⟩ := lay_runs h.canon (r := (lo a i, hi a i)) (ha.run i hi1) (fun t ht => h.lowA t i ht (Nat.le_refl _) hi1)
  refine ⟨k1, fun x => ?_, fun t u h1 h2 h3 => ?_, fun t u h1 h2 h3 => ?_, by have := h.len; omega, fits_of_in k1 fun x hx => ?_⟩
  · rw [k2, h.tell, in_take_succ hi1]
    constructor
    · rintro ((h1 | h1) | h1)
      · exact .inl (.inl h1)
      · exact .inr h1
      · exact .inl (.inr h1)
    · rintro ((h1 | h1) | h1)
      · exact .inl (.inl h1)
      · exact .inr h1
      · exact .inl (.inr h1)
  · have := k3 t h1; have := (ha.mono (t := i) (u := u) (by omega) h3).1; simp only at *; omega
  · have := k3 t h1; have := hle (by omega); have := (hb.mono (t := j) (u := u) h2 h3).1; simp only at *; omega
  · rcases (k2 x).1 hx with h1 | h1
    · exact h.fits.in h1
    · have := fa i hi1; simp only at h1; omega

theorem Mid.swap {a b : List (Int × Int)} {i j : Nat} {acc : List (Int × Int)} (h : Mid a b i j acc) : Mid b a j i acc :=
  ⟨h.canon, fun x => (h.tell x).trans Or.comm, h.lowB, h.lowA, by have := h.len; omega, h.fits⟩

end Go.Proofs.Ytdalghfhpekcfaa
