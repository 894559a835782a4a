/- Push, Lower, Pop, Drop over an order that answers anything. -/
import Derived.Test.YtfhpabcjbjmcmaaWrongB
namespace Go.Proofs.Ytfhpabcjbjmcmaa
open Go.RowKit Go.Maps

/-- What a call leaves. -/
def ChangedW [Inhabited EntI] (lv : Value) (Inv : Nat → World → Prop) (A DD : Nat → Prop) (c K : Nat) (w : World) (p m : Nat) (v : Value) (es1 : List EntI) (n : Nat) (w' : World) : Prop :=
  ∃ v' es' c', es'.Perm es1 ∧ c' ≤ c + K ∧ WH lv Inv DD c' w' p m v' es' n ∧ Turned (FootA p m v A) w w' ∧ ∀ b, v'.ownBlock = some b → v.ownBlock = some b ∨ w.heap.size ≤ b

set_option maxHeartbeats 2000000 in
set_option maxRecDepth 100000 in
/-- A key that isn't in. -/
theorem pushNewW [Inhabited EntI] {p m : Nat} {lv v : Value} {Inv : Nat → World → Prop} {A DD : Nat → Prop} {cq : Nat} {es : List EntI} {n : Nat} (k : Int) (r : Int) (w : World) (hW : WH lv Inv DD cq w p m v es n) (he : Env lv Inv A DD) (hk : KeyOkI k) (hnin : ∀ x ∈ es, x.key ≠ k) (hn : es.length < 1000000) (hnn : n < 1099511627776) (hcq : cq ≤ 900000000) :
    Calls Try.prog 14 #[.pointer (some ⟨p, 0, none⟩), .int .i64 (k), .int .i64 r] w fun e w' => e = .returned (.bool true) ∧ Hid (ChangedW lv Inv A DD cq (es.length + 1) w p m v (es ++ [⟨k, r, n⟩]) (n + 1) w') := by
  have h := hW.at_
  have HW := hide hW
  have HE := hide he
  have HCQ := hide hcq
  have HNN := hide hn
  clear hW hcq
  obtain ⟨D, hD, hM⟩ := h.map
  have hhas : Maps.has D (klI k) = false := by
    cases hh : Maps.has D (klI k) with
    | false => rfl
    | true =>
      obtain ⟨i, hi, he⟩ := hM.only k hh
      exact absurd he (hnin _ (at_mem es i hi))
  obtain ⟨-, c1, c2, c3, cf⟩ := h.cells
  obtain ⟨i0, hi0, hz0, hzs, hzb⟩ := info_parts infoI
  have hmp := h.ne3
  have hpl := h.lt (.inl rfl)
  have hml := h.lt (.inr (.inl rfl))
  have hne1 := h.ne1
  have hne2 := h.ne2
  have hrowA : (w.alloc (.cells #[.int .i64 (k), .int .i64 r, .int .i64 n] 73)).drew.ownsRow 0 73 3 v es.length (encI es) := row_keptI h.row (fun j hj => ((Below.refl w.heap.size w).alloc (Nat.le_refl _) _).block j (h.row.lt j hj).2)
  obtain ⟨v', w', hr, hown', hgr, -, hloc⟩ := run_append_own_at (P := Try.prog) (w.alloc (.cells #[.int .i64 (k), .int .i64 r, .int .i64 n] 73)).drew 0 56 56 73 i0 _ 3 24 Try.underlying56 hi0 hz0 hzs hzb rfl (by omega) v es.length (encI es) hrowA ⟨w.heap.size, 0, none⟩ 1 1 [.int .i64 (k), .int .i64 r, .int .i64 n] rfl
    (cells_new3 w _ _ _ _) (by intro u hu; simp at hu; rcases hu with rfl | rfl | rfl <;> rfl) (by unfold maxLen; omega) (by omega) (Nat.zero_le _)
  have hsz : (w.alloc (.cells #[.int .i64 (k), .int .i64 r, .int .i64 n] 73)).drew.heap.size = w.heap.size + 1 := by show (w.alloc _).heap.size = _; simp
  have hw1 : ∀ j, j < w.heap.size → v.ownBlock ≠ some j → w'.heap[j]? = w.heap[j]? := fun j hj hne => by
    rw [hgr.block j (by rw [hsz]; omega) (fun e => hne e.symm)]
    show (w.alloc _).heap[j]? = _
    exact ((Below.refl w.heap.size w).alloc (Nat.le_refl _) _).block j hj
  have box1 : w'.heap[p]? = some (.cells #[lv, v, .map (some m), .int .i64 n] 58 (0, 0)) := (hw1 p hpl hne1).trans h.box
  have d1 : w'.cell? ⟨p, 1, none⟩ = some v := by rw [cell_of_row w' p _ _ _ _ box1]; rfl
  have d2 : w'.cell? ⟨p, 2, none⟩ = some (.map (some m)) := by rw [cell_of_row w' p _ _ _ _ box1]; rfl
  have d3 : w'.cell? ⟨p, 3, none⟩ = some (.int .i64 n) := by rw [cell_of_row w' p _ _ _ _ box1]; rfl
  have df : ∀ o, w'.frozen? ⟨p, o, none⟩ = false := fun o => frozen_of_row w' p o _ _ box1
  have HM5 : Hid ((w'.setCell ⟨p, 1, none⟩ v').ownsMap Try.prog 3 (plainElem Try.prog 3) m es.length D) := by
    obtain ⟨es', clock, h1, h2⟩ := hD
    exact ⟨es', clock, (heap_setCell_other _ _ _ _ hmp).trans ((hw1 m hml hne2).trans h1), h2⟩
  have HR := hide hr
  obtain ⟨g, c', hv'⟩ : ∃ g c', v' = .slice (some ⟨g, 0, none⟩) (es.length + 1) c' := by
    rcases hown'.2 with ⟨-, h3⟩ | ⟨g, cap, cur, rfl, -⟩
    · omega
    · exact ⟨g, cap, rfl⟩
  obtain ⟨ao, c0, hv⟩ : ∃ ao c0, v = .slice ao es.length c0 := by
    rcases h.row.2 with ⟨rfl, h3⟩ | ⟨g, cap, cur, rfl, -⟩
    · exact ⟨none, 0, by rw [h3]⟩
    · exact ⟨_, _, rfl⟩
  have HP : Hid (∀ w2, w2.ownsMap Try.prog 3 (plainElem Try.prog 3) m (es.length + 1) (D.put (klI k) (.lit (.int .i64 es.length))) → (w'.setCell ⟨p, 1, none⟩ v').grownBy w2 (some m) → _) := fun w2 hm hg => pushAtI h hM hk hhas hown' hgr hloc hm hg
  have HD := hide hD
  have hlz : (0 : Int) ≤ (es.length : Int) := by omega
  clear h hM hown' hgr hloc hD he hw1 box1 hr hrowA hnin hi0 hsz
  subst hv' hv
  generalize hL : es.length = L at *
  have HLL := hide hL
  clear hL
  go_enter Try.func14, Try.ntmps14
  go_wp2_with (at_lookup; refine wpList_lookup_own_ok_int _ rfl _ _ 55 rfl 3 3 .i64 lawI Try.underlying55 Try.underlying3 (zeroI _) m L D rfl (unhide HD) _ _ rfl (keyI hk) ?_; intro c hat hwc; rw [hhas])
  go_region_law (refine step_append_run rfl (.tmp 29) (.tmp 37) 56 rfl _ _ (by simp [Act.eval]) (by simp [Act.eval]) _ _ HR.out ?_)
  all_goals
    go_wp2_with (at_mapUpdate; refine wpList_mapUpdate_in _ rfl _ _ _ 55 rfl 3 3 lawI Try.underlying55 _ m L D rfl (unhide HM5) (by unfold maxLen; omega) _ _ _ rfl rfl (keyI hk) _ [] (plainElem_int Try.underlying3 (WalkArith.wf_i64 (by omega))) ?_; intro w2 hown2 hturn2; have HP2 := hide (unhide HP w2 hown2 hturn2.grown); have g3 : w2.cell? ⟨p, 3, none⟩ = some (.int .i64 n) := (cell_turned hturn2 _ (Ne.symm hmp)).trans ((World.cell?_setCell_other _ _ _ _ (by simp)).trans d3); have gf : ∀ o, w2.frozen? ⟨p, o, none⟩ = false := fun o => (hturn2.frozen _).trans ((World.frozen?_setCell _ _ _ _).trans (df o)); clear hown2 hturn2)
    have HW8 := hide ((unhide HW).moved (unhide HE) (unhide HP2).1 (unhide HP2).2.1 (fun j hf => by
      rcases hf with hf | hf | hf
      · exact .inl (.inl hf)
      · exact .inl (.inr (.inl hf))
      · rcases (unhide HP2).2.2 j hf with e | e
        · exact .inl (.inr (.inr e))
        · exact .inr e))
    have HR8 := hide (riseW L _ (unhide HW8) (unhide HE) (by rw [List.length_append, unhide HLL]; simp) (by rw [List.length_append, unhide HLL]; have := unhide HNN; simp; omega) (by have := unhide HCQ; omega))
    refine (unhide HR8).mono ?_
    rintro e w8 ⟨rfl, h8⟩
    clear HR8
    go_wp2_with fail
    go_ret
    obtain ⟨es', c', g1, g2, g3, g4⟩ := unhide h8
    rw [List.length_append, unhide HLL] at g2
    refine ⟨rfl, _, es', c', g1, g2, g3, (turnedF (unhide HP2).2.1).then_ g4 (fun j hj hf => ?_), (unhide HP2).2.2⟩
    rcases hf with (hf | hf | hf) | hf
    · exact .inl (.inl hf)
    · exact .inl (.inr (.inl hf))
    · rcases (unhide HP2).2.2 j hf with e | e
      · exact .inl (.inr (.inr e))
      · omega
    · exact .inr hf

set_option maxHeartbeats 1000000 in
set_option maxRecDepth 100000 in
theorem lowerInW [Inhabited EntI] {p m : Nat} {lv v : Value} {Inv : Nat → World → Prop} {A DD : Nat → Prop} {cq : Nat} {es : List EntI} {n : Nat} (i : Nat) (r : Int) (w : World) (hW : WH lv Inv DD cq w p m v es n) (he : Env lv Inv A DD) (hi : i < es.length) (hn : es.length ≤ 1000000) (hcq : cq ≤ 900000000) :
    Calls Try.prog 17 #[.pointer (some ⟨p, 0, none⟩), .int .i64 ((at_ es i).key), .int .i64 r] w fun e w' => ∃ R : Bool, e = .returned (.bool R) ∧ Hid (ChangedW lv Inv A DD cq (es.length + 1) w p m v (if R = true then lowered (at_ es i).key r es else es) n w') := by
  have h := hW.at_
  obtain ⟨D, hD, hM⟩ := h.map
  have hk := h.keys i hi
  have hhas : Maps.has D (klI (at_ es i).key) = true := (hM.at_ i hi).1
  have HLOOK : Hid (∀ c : Int, D.atKey (klI (at_ es i).key) (.lit (.int .i64 0)) = .lit (.int .i64 c) → c = (i : Int)) := fun c hc => lookI hM hi hc
  obtain ⟨c0, c1, c2, -, -⟩ := h.cells
  obtain ⟨b, c, rfl, -, -, -, -, fr, hc⟩ := h.some_ (by omega)
  have d2 := (hc i hi).2.1
  have hiz : (i : Int) < (es.length : Int) := by omega
  have HE := hide he
  have HW := hide hW
  have HI := hide hi
  have HN := hide hn
  have HCQ := hide hcq
  have hsl : Hid (es.set i { at_ es i with rank := r } = lowered (at_ es i).key r es) := set_lowered hM.once hi r
  obtain ⟨g, cb, hlv, eg, hless⟩ := he.fn
  have HC : Hid (∀ q, Calls Try.prog g (#[.int .i64 r, .int .i64 (at_ es i).rank] ++ cb) (w.drewN q) fun e w' => ∃ R : Bool, e = .returned (.bool R) ∧ ((w'.cell? ⟨p, 1, none⟩ = some (.slice (some ⟨b, 0, none⟩) es.length c) ∧ w'.cell? ⟨b, i * 3 + 1, none⟩ = some (.int .i64 (at_ es i).rank) ∧ ∀ o, w'.frozen? ⟨b, o, none⟩ = false) ∧ Hid (WH lv Inv DD (cq + 1) w' p m (.slice (some ⟨b, 0, none⟩) es.length c) es n ∧ Turned A w w'))) := fun q => by
    refine (hless r (at_ es i).rank cq (w.drewN q) (by omega) ((unhide HW).draw (unhide HE) q).inv).mono ?_
    rintro e w' ⟨R, he1, hh⟩
    have ht : Turned A w w' := ⟨(unhide hh).2.os, (unhide hh).2.tape, (unhide hh).2.output, (unhide hh).2.size, (unhide hh).2.block⟩
    have hw1 := (unhide HW).asked (unhide HE) (unhide hh).1 ht
    obtain ⟨-, k1, -⟩ := hw1.at_.cells
    obtain ⟨b1, cc1, hv1, -, -, -, -, fr1, hc1⟩ := hw1.at_.some_ (by omega)
    obtain ⟨rfl, rfl⟩ : b = b1 ∧ c = cc1 := by
      simp only [Value.slice.injEq, Option.some.injEq, Addr.mk.injEq, and_true] at hv1
      exact ⟨hv1.1, hv1.2.2⟩
    exact ⟨R, he1, ⟨k1, (hc1 i hi).2.1, fr1⟩, hw1, ht⟩
  have HRA : Hid (∀ u, Hid (WH lv Inv DD (cq + 1) u p m (.slice (some ⟨b, 0, none⟩) es.length c) es n ∧ Turned A w u) → WH lv Inv DD (cq + 1) (u.setCell ⟨b, i * 3 + 1, none⟩ (.int .i64 r)) p m (.slice (some ⟨b, 0, none⟩) es.length c) (es.set i { at_ es i with rank := r }) n ∧ Turned (FootA p m (.slice (some ⟨b, 0, none⟩) es.length c) A) w (u.setCell ⟨b, i * 3 + 1, none⟩ (.int .i64 r))) := fun u hu => by
    obtain ⟨g1, g2⟩ := rankAtI (r := r) (unhide hu).1.at_ (unhide HI)
    exact ⟨(unhide hu).1.moved (unhide HE) g1 g2 (fun _ hk => .inl hk), (turnedA (unhide hu).2).trans (turnedF g2)⟩
  have HD := hide hD
  have hXl : Hid ((es.set i { at_ es i with rank := r }).length = es.length) := List.length_set ..
  subst hlv
  generalize hkk : (at_ es i).key = kk at *
  generalize hrr : (at_ es i).rank = rr at *
  generalize hX : es.set i { at_ es i with rank := r } = esX at *
  generalize hLL : es.length = L at *
  clear h hM hD hless hc hkk hrr hi hn hcq he hW hX hLL
  go_enter Try.func17, Try.ntmps17
  go_wp2_with (at_lookup; refine wpList_lookup_own_ok_int _ rfl _ _ 55 rfl 3 3 .i64 lawI Try.underlying55 Try.underlying3 (zeroI _) m L D rfl (unhide HD) _ _ rfl (keyI hk) ?_; intro cc hat hwc; rw [hhas, unhide HLOOK cc hat])
  refine region_still_tail 16 mixed (by kernel_rfl) ?_
  simp only [List.take_succ_cons, List.take_zero, List.drop_succ_cons, List.drop_zero]
  repeat still_step
  refine wpStill_nil ?_
  go_wp2_with fail
  refine (unhide HC _).mono ?_
  rintro e w1 ⟨R, rfl, ⟨k1, k2, k3⟩, hT⟩
  cases R with
  | false =>
    go_wp2_with fail
    go_ret
    refine ⟨false, rfl, ?_⟩
    obtain ⟨g1, g2⟩ := unhide hT
    exact ⟨_, es, cq + 1, by simp, by omega, g1, turnedA g2, fun b hb => .inl hb⟩
  | true =>
    have CR := hide (riseW i _ (unhide HRA w1 hT).1 (unhide HE) (by rw [unhide hXl]; exact unhide HI) (by rw [unhide hXl]; exact unhide HN) (by have := unhide HCQ; omega))
    go_wp2_with fail
    refine (unhide CR).mono ?_
    rintro e w2 ⟨rfl, h2⟩
    clear CR
    go_wp2_with fail
    go_ret
    refine ⟨true, rfl, ?_⟩
    obtain ⟨es', c', g1, g2, g3, g4⟩ := unhide h2
    rw [unhide hXl] at g2
    exact ⟨_, es', c', by rw [if_pos rfl, ← unhide hsl]; exact g1, by omega, g3, (unhide HRA w1 hT).2.trans g4, fun b hb => .inl hb⟩

set_option maxHeartbeats 400000 in
set_option maxRecDepth 100000 in
theorem popSomeW [Inhabited EntI] {p m : Nat} {lv v : Value} {Inv : Nat → World → Prop} {A DD : Nat → Prop} {cq : Nat} {es : List EntI} {n : Nat} (w : World) (hW : WH lv Inv DD cq w p m v es n) (he : Env lv Inv A DD) (h0 : 0 < es.length) (hn : es.length ≤ 1000000) (hcq : cq ≤ 900000000) :
    Calls Try.prog 15 #[.pointer (some ⟨p, 0, none⟩)] w fun e w' => e = .returned (.tuple #[.int .i64 ((at_ es 0).key), .int .i64 (at_ es 0).rank, .bool true]) ∧ Hid (ChangedW lv Inv A DD cq (3 * es.length + 2) w p m v (without (at_ es 0).key es) n w') := by
  have HC := hide (peekSomeI w hW.at_ h0)
  have HR : Hid (∀ q, _) := fun q => removeW 0 (w.drewN q) (hW.draw he q) he h0 hn hcq
  generalize hkk : (at_ es 0).key = kk at *
  generalize (at_ es 0).rank = rr at *
  clear hW he hkk
  go_enter Try.func15, Try.ntmps15
  go_wp2_with fail
  refine (unhide HC).mono ?_
  rintro e w' ⟨rfl, q, rfl⟩
  go_wp2_with fail
  refine (unhide HR q).mono ?_
  rintro e w2 ⟨rfl, h2⟩
  clear HC HR
  go_wp2_with fail
  go_ret3
  obtain ⟨v', es', c', g1, g2, g3, g4, g5⟩ := unhide h2
  exact ⟨rfl, v', es', c', g1, by omega, g3, ((Turned.refl _ w).drewN q).trans g4, fun b hb => .inl (by rw [← g5]; exact hb)⟩

set_option maxHeartbeats 400000 in
set_option maxRecDepth 100000 in
theorem dropInW [Inhabited EntI] {p m : Nat} {lv v : Value} {Inv : Nat → World → Prop} {A DD : Nat → Prop} {cq : Nat} {es : List EntI} {n : Nat} (i : Nat) (w : World) (hW : WH lv Inv DD cq w p m v es n) (he : Env lv Inv A DD) (hi : i < es.length) (hn : es.length ≤ 1000000) (hcq : cq ≤ 900000000) :
    Calls Try.prog 25 #[.pointer (some ⟨p, 0, none⟩), .int .i64 (at_ es i).key] w fun e w' => e = .returned (.bool true) ∧ Hid (ChangedW lv Inv A DD cq (3 * es.length + 2) w p m v (without (at_ es i).key es) n w') := by
  have h := hW.at_
  obtain ⟨D, hD, hM⟩ := h.map
  have hk := h.keys i hi
  have hhas : Maps.has D (klI (at_ es i).key) = true := (hM.at_ i hi).1
  have HLOOK : Hid (∀ c : Int, D.atKey (klI (at_ es i).key) (.lit (.int .i64 0)) = .lit (.int .i64 c) → c = (i : Int)) := fun c hc => lookI hM hi hc
  have c2 := h.cells.2.2.1
  have CR := hide (removeW i w hW he hi hn hcq)
  have HD := hide hD
  generalize (at_ es i).key = kk at *
  clear h hM hD he hi hW hcq
  go_enter Try.func25, Try.ntmps25
  go_wp2_with (at_lookup; refine wpList_lookup_own_ok_int _ rfl _ _ 55 rfl 3 3 .i64 lawI Try.underlying55 Try.underlying3 (zeroI _) m es.length D rfl (unhide HD) _ _ rfl (keyI hk) ?_; intro cc hat hwc; rw [hhas, unhide HLOOK cc hat])
  refine (unhide CR).mono ?_
  rintro e w2 ⟨rfl, h2⟩
  clear CR
  go_wp2_with fail
  go_ret
  obtain ⟨v', es', c', g1, g2, g3, g4, g5⟩ := unhide h2
  exact ⟨rfl, v', es', c', g1, by omega, g3, g4, fun b hb => .inl (by rw [← g5]; exact hb)⟩
end Go.Proofs.Ytfhpabcjbjmcmaa
