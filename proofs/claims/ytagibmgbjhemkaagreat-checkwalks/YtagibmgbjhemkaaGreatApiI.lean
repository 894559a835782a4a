/- New, Len, Peek, Pop, Lower. -/
import Derived.Test.YtagibmgbjhemkaaGreatAtI
import Derived.Test.YtagibmgbjhemkaaGreatRiseI
namespace Go.Proofs.YtagibmgbjhemkaaGreat

section
open Go.RowKit Go.Maps
theorem infoI : (Tryz.prog.info? 190).map (fun i => (i.zero, i.size, i.bytes)) = some (some (.agg #[.int .i64 0, .int .i64 0, .int .i64 0]), 3, 24) := by kernel_rfl
theorem zeroI (w : World) : (zeroValue 3).run Tryz.prog w = .ok (.int .i64 0) w := by kernel_rfl
theorem pushAtI [Inhabited EntI] {w w' w2 : World} {p m n : Nat} {lv v v' : Value} {es : List EntI} {D : DataW Unit} {k : Int} {r : Int} (h : HAtI w p m lv v es n) (hM : MapIs klI D es) (hk : KeyOkI k) (hnot : Maps.has D (klI k) = false)
    (hown : w'.ownsRow 0 190 3 v' (es.length + 1) (encI es ++ [.int .i64 (k), .int .i64 r, .int .i64 n])) (hgr : (w.alloc (.cells #[.int .i64 (k), .int .i64 r, .int .i64 n] 190)).drew.grownBy w' v.ownBlock)
    (hloc : v'.ownBlock = v.ownBlock ∨ v'.ownBlock = some (w.alloc (.cells #[.int .i64 (k), .int .i64 r, .int .i64 n] 190)).drew.heap.size)
    (hmap : w2.ownsMap Tryz.prog 3 (plainElem Tryz.prog 3) m (es.length + 1) (D.put (klI k) (.lit (.int .i64 es.length)))) (hg : (w'.setCell ⟨p, 1, none⟩ v').grownBy w2 (some m)) :
    HAtI (w2.setCell ⟨p, 3, none⟩ (.int .i64 ((n : Int) + 1))) p m lv v' (es ++ [⟨k, r, n⟩]) (n + 1) ∧ Turned (Foot p m v) w (w2.setCell ⟨p, 3, none⟩ (.int .i64 ((n : Int) + 1))) ∧ ∀ b, v'.ownBlock = some b → v.ownBlock = some b ∨ w.heap.size ≤ b := by
  have hpl := h.lt (.inl rfl); have hml := h.lt (.inr (.inl rfl)); have hsz : (w.alloc (.cells #[.int .i64 (k), .int .i64 r, .int .i64 n] 190)).drew.heap.size = w.heap.size + 1 := by show (w.alloc _).heap.size = _; simp
  have hloc' : ∀ b, v'.ownBlock = some b → v.ownBlock = some b ∨ w.heap.size + 1 ≤ b := fun b hb => by
    rcases hloc with e | e
    · exact .inl (e ▸ hb)
    · rw [hb, hsz] at e; exact .inr (by have := Option.some.inj e; omega)
  have hw1 : ∀ j, j < w.heap.size → v.ownBlock ≠ some j → w'.heap[j]? = w.heap[j]? := fun j hj hne => by
    rw [hgr.block j (by rw [hsz]; omega) (fun e => hne e.symm)]
    show (w.alloc _).heap[j]? = _; exact ((Below.refl w.heap.size w).alloc (Nat.le_refl _) _).block j hj
  have hws : w.heap.size + 1 ≤ w'.heap.size := by have := hgr.size; omega
  have hwx : (w'.setCell ⟨p, 1, none⟩ v').heap.size = w'.heap.size := by simp
  have hmp := h.ne3; have box1 : w'.heap[p]? = some (.cells #[lv, v, .map (some m), .int .i64 n] 183 (0, 0)) := (hw1 p hpl h.ne1).trans h.box; have box2 : w2.heap[p]? = some (.cells #[lv, v', .map (some m), .int .i64 n] 183 (0, 0)) := by
    rw [hg.block p (by omega) (fun e => hmp (by simpa using e.symm)), heap_setCell_same _ _ _ _ _ _ box1]; rfl
  have hne1 : v'.ownBlock ≠ some p := fun e => by
    rcases hloc' p e with e | e
    · exact h.ne1 e
    · omega
  have hne2 : v'.ownBlock ≠ some m := fun e => by
    rcases hloc' m e with e | e
    · exact h.ne2 e
    · omega
  have hMI := mapIs_push injI litI hM (⟨k, r, n⟩ : EntI) hnot; have hlen : (es ++ [(⟨k, r, n⟩ : EntI)]).length = es.length + 1 := by simp
  refine ⟨⟨?_, ?_, ⟨_, ?_, hMI⟩, ?_, hne1, hne2, hmp⟩, ?_, fun b hb => (hloc' b hb).imp id (fun e => by omega)⟩
  · rw [heap_setCell_same _ _ _ _ _ _ box2]; rfl
  · rw [hlen]; have henc : encI (es ++ [⟨k, r, n⟩]) = encI es ++ [.int .i64 (k), .int .i64 r, .int .i64 n] := by unfold encI; rw [enc3_append]; rfl
    rw [henc]; have hlt' := hown.lt; refine row_keptI hown (fun b hb => ?_)
    have hbp : b ≠ p := fun e => hne1 (e ▸ hb)
    have hbm : b ≠ m := fun e => hne2 (e ▸ hb)
    rw [heap_setCell_other _ _ _ _ hbp, hg.block b (by have := (hlt' b hb).2; omega) (fun e => hbm (by simpa using e)), heap_setCell_other _ _ _ _ hbp]
  · rw [hlen]; obtain ⟨es', clock, h1, h2⟩ := hmap; exact ⟨es', clock, (heap_setCell_other _ _ _ _ hmp).trans h1, h2⟩
  · intro i hi; rw [hlen] at hi; rcases Nat.lt_or_ge i es.length with h1 | h1
    · have : at_ (es ++ [(⟨k, r, n⟩ : EntI)]) i = at_ es i := by unfold at_; rw [List.getD_eq_getElem?_getD, List.getD_eq_getElem?_getD, List.getElem?_append_left h1]
      rw [this]; exact h.keys i h1
    · have : at_ (es ++ [(⟨k, r, n⟩ : EntI)]) i = ⟨k, r, n⟩ := by
        have e : i = es.length := by omega
        subst e; unfold at_; rw [List.getD_eq_getElem?_getD, List.getElem?_append_right (Nat.le_refl _)]; simp
      rw [this]; exact hk
  · refine ⟨?_, ?_, ?_, ?_, fun j hj hf => ?_⟩
    · exact hg.os.trans hgr.os
    · exact hg.tape.trans hgr.tape
    · exact hg.output.trans hgr.output
    · have := hg.size; have : (w2.setCell ⟨p, 3, none⟩ (.int .i64 ((n : Int) + 1))).heap.size = w2.heap.size := by simp
      omega
    · have e1 : j ≠ p := fun e => hf (.inl e)
      have e2 : j ≠ m := fun e => hf (.inr (.inl e))
      rw [heap_setCell_other _ _ _ _ e1, hg.block j (by omega) (fun e => e2 (by simpa using e)), heap_setCell_other _ _ _ _ e1]
      exact hw1 j hj (fun e => hf (.inr (.inr e)))
set_option maxHeartbeats 2000000 in
set_option maxRecDepth 100000 in
theorem pushNewI [Inhabited EntI] {p m : Nat} {lv v : Value} {es : List EntI} {n : Nat} {gg : Int → Int} (k : Int) (r : Int) (w : World) (h : HAtI w p m lv v es n) (hl : Less lv gg) (hk : KeyOkI k) (hnin : ∀ x ∈ es, x.key ≠ k) (hn : es.length < 1099511627776) (hnn : n < 1099511627776) :
    Calls Tryz.prog 106 #[.pointer (some ⟨p, 0, none⟩), .int .i64 (k), .int .i64 r] w fun e w' => e = .returned (.bool true) ∧ Hid (∃ v' es', es'.Perm (es ++ [⟨k, r, n⟩]) ∧ HAtI w' p m lv v' es' (n + 1) ∧ Turned (Foot p m v) w w' ∧
      (∀ b, v'.ownBlock = some b → v.ownBlock = some b ∨ w.heap.size ≤ b) ∧ (HeapOrd (le gg) es → HeapOrd (le gg) es')) := by
  obtain ⟨D, hD, hM⟩ := h.map; have hhas : Maps.has D (klI k) = false := by
    cases hh : Maps.has D (klI k) with
    | false => rfl
    | true =>
      obtain ⟨i, hi, he⟩ := hM.only k hh; exact absurd he (hnin _ (at_mem es i hi))
  obtain ⟨-, c1, c2, c3, cf⟩ := h.cells; obtain ⟨i0, hi0, hz0, hzs, hzb⟩ := info_parts infoI; have hmp := h.ne3; have hpl := h.lt (.inl rfl); have hml := h.lt (.inr (.inl rfl)); have hne1 := h.ne1; have hne2 := h.ne2; have hrowA : (w.alloc (.cells #[.int .i64 (k), .int .i64 r, .int .i64 n] 190)).drew.ownsRow 0 190 3 v es.length (encI es) := row_keptI h.row (fun j hj => ((Below.refl w.heap.size w).alloc (Nat.le_refl _) _).block j (h.row.lt j hj).2)
  obtain ⟨v', w', hr, hown', hgr, -, hloc⟩ := run_append_own_at (P := Tryz.prog) (w.alloc (.cells #[.int .i64 (k), .int .i64 r, .int .i64 n] 190)).drew 0 181 181 190 i0 _ 3 24 Tryz.underlying181 hi0 hz0 hzs hzb rfl (by omega) v es.length (encI es) hrowA ⟨w.heap.size, 0, none⟩ 1 1 [.int .i64 (k), .int .i64 r, .int .i64 n] rfl
    (cells_new3 w _ _ _ _) (by intro u hu; simp at hu; rcases hu with rfl | rfl | rfl <;> rfl) (by unfold maxLen; omega) (by omega) (Nat.zero_le _)
  have hsz : (w.alloc (.cells #[.int .i64 (k), .int .i64 r, .int .i64 n] 190)).drew.heap.size = w.heap.size + 1 := by show (w.alloc _).heap.size = _; simp
  have hw1 : ∀ j, j < w.heap.size → v.ownBlock ≠ some j → w'.heap[j]? = w.heap[j]? := fun j hj hne => by
    rw [hgr.block j (by rw [hsz]; omega) (fun e => hne e.symm)]
    show (w.alloc _).heap[j]? = _; exact ((Below.refl w.heap.size w).alloc (Nat.le_refl _) _).block j hj
  have box1 : w'.heap[p]? = some (.cells #[lv, v, .map (some m), .int .i64 n] 183 (0, 0)) := (hw1 p hpl hne1).trans h.box; have d1 : w'.cell? ⟨p, 1, none⟩ = some v := by rw [cell_of_row w' p _ _ _ _ box1]; rfl
  have d2 : w'.cell? ⟨p, 2, none⟩ = some (.map (some m)) := by rw [cell_of_row w' p _ _ _ _ box1]; rfl
  have d3 : w'.cell? ⟨p, 3, none⟩ = some (.int .i64 n) := by rw [cell_of_row w' p _ _ _ _ box1]; rfl
  have df : ∀ o, w'.frozen? ⟨p, o, none⟩ = false := fun o => frozen_of_row w' p o _ _ box1
  have HM5 : Hid ((w'.setCell ⟨p, 1, none⟩ v').ownsMap Tryz.prog 3 (plainElem Tryz.prog 3) m es.length D) := by
    obtain ⟨es', clock, h1, h2⟩ := hD; exact ⟨es', clock, (heap_setCell_other _ _ _ _ hmp).trans ((hw1 m hml hne2).trans h1), h2⟩
  have HR := hide hr; obtain ⟨g, c', hv'⟩ : ∃ g c', v' = .slice (some ⟨g, 0, none⟩) (es.length + 1) c' := by
    rcases hown'.2 with ⟨-, h3⟩ | ⟨g, cap, cur, rfl, -⟩
    · omega
    · exact ⟨g, cap, rfl⟩
  obtain ⟨ao, c0, hv⟩ : ∃ ao c0, v = .slice ao es.length c0 := by
    rcases h.row.2 with ⟨rfl, h3⟩ | ⟨g, cap, cur, rfl, -⟩
    · exact ⟨none, 0, by rw [h3]⟩
    · exact ⟨_, _, rfl⟩
  have HP : Hid (∀ w2, w2.ownsMap Tryz.prog 3 (plainElem Tryz.prog 3) m (es.length + 1) (D.put (klI k) (.lit (.int .i64 es.length))) → (w'.setCell ⟨p, 1, none⟩ v').grownBy w2 (some m) → _) := fun w2 hm hg => pushAtI h hM hk hhas hown' hgr hloc hm hg
  have HL := hide hl; have HD := hide hD; have hlz : (0 : Int) ≤ (es.length : Int) := by omega
  have HEO : Hid (HeapOrd (le gg) es → ∀ full, RiseAt (le gg) full es.length es.length (es ++ [⟨k, r, n⟩])) := fun ho full => by
    have hat : ∀ j, j < es.length → at_ (es ++ [(⟨k, r, n⟩ : EntI)]) j = at_ es j := fun j hj => by unfold at_; rw [List.getD_eq_getElem?_getD, List.getD_eq_getElem?_getD, List.getElem?_append_left hj]
    refine ⟨Nat.le_refl _, by simp, fun j hj hjl hne _ => ?_, fun h0 c hc hcl hpc => ?_⟩
    · simp at hjl; have hp : par j < j := by unfold par; omega
      unfold Ok; rw [hat j (by omega), hat (par j) (by omega)]
      exact ho j hj (by omega)
    · simp at hcl; unfold par at hpc; omega
  clear h hM hown' hgr hloc hD hl hw1 box1 hr hrowA hnin hi0 hsz; subst hv' hv; generalize hL : es.length = L at *; have HLL := hide hL; clear hL
  go_enter Tryz.func106, Tryz.ntmps106
  go_wp2_with (at_lookup; refine wpList_lookup_own_ok_int _ rfl _ _ 180 rfl 3 3 .i64 lawI Tryz.underlying180 Tryz.underlying3 (zeroI _) m L D rfl (unhide HD) _ _ rfl (keyI hk) ?_; intro c hat hwc; rw [hhas])
  go_region_law (refine step_append_run rfl (.tmp 29) (.tmp 37) 181 rfl _ _ (by simp [Act.eval]) (by simp [Act.eval]) _ _ HR.out ?_)
  all_goals
    go_wp2_with (at_mapUpdate; refine wpList_mapUpdate_in _ rfl _ _ _ 180 rfl 3 3 lawI Tryz.underlying180 _ m L D rfl (unhide HM5) (by unfold maxLen; omega) _ _ _ rfl rfl (keyI hk) _ [] (plainElem_int Tryz.underlying3 (WalkArith.wf_i64 (by omega))) ?_; intro w2 hown2 hturn2; have HP2 := hide (unhide HP w2 hown2 hturn2.grown); have g3 : w2.cell? ⟨p, 3, none⟩ = some (.int .i64 n) := (cell_turned hturn2 _ (Ne.symm hmp)).trans ((World.cell?_setCell_other _ _ _ _ (by simp)).trans d3); have gf : ∀ o, w2.frozen? ⟨p, o, none⟩ = false := fun o => (hturn2.frozen _).trans ((World.frozen?_setCell _ _ _ _).trans (df o)); clear hown2 hturn2)
    have HR8 := hide (riseI L _ (unhide HP2).1 (unhide HL) (by rw [List.length_append, unhide HLL]; simp) (by rw [List.length_append, unhide HLL]; simp; omega))
    refine (unhide HR8).mono ?_
    rintro e w8 ⟨rfl, h8⟩
    clear HR8
    go_wp2_with fail
    go_ret
    obtain ⟨es', g1, g2, g3, g4⟩ := unhide h8; refine ⟨rfl, _, es', g1, g2, (unhide HP2).2.1.then_ g3 (fun j hj hf => ?_), (unhide HP2).2.2, fun ho => (g4 True (unhide HEO ho True)).1 trivial⟩
    rcases hf with hf | hf | hf
    · exact .inl hf
    · exact .inr (.inl hf)
    · rcases (unhide HP2).2.2 j hf with e | e
      · exact .inr (.inr e)
      · omega
end

section
open Go.RowKit Go.Maps
theorem child_cases {k c : Nat} (hc : 0 < c) (h : par c = k) : c = 2 * k + 1 ∨ c = 2 * k + 2 := by unfold par at h; omega
set_option maxHeartbeats 2000000 in
set_option maxRecDepth 100000 in
theorem sinkI [Inhabited EntI] {p m : Nat} {lv v : Value} {es : List EntI} {n : Nat} {gg : Int → Int} (i : Nat) (w : World) (h : HAtI w p m lv v es n) (hl : Less lv gg) (hi : i < es.length) (hn : es.length ≤ 1099511627776) :
    Calls Tryz.prog 146 #[.pointer (some ⟨p, 0, none⟩), .int .i64 i] w fun e w' => e = .returned (.tuple #[]) ∧ Hid (∃ es', es'.Perm es ∧ HAtI w' p m lv v es' n ∧ Turned (Foot p m v) w w' ∧ (SinkAt (le gg) i es → HeapOrd (le gg) es')) := by
  obtain ⟨b, c, rfl, -, -, -, -, -, -⟩ := h.some_ (by omega)
  have HL := hide hl; have H0 := hide h; obtain ⟨L, hLe⟩ : ∃ L, L = es.length := ⟨_, rfl⟩; have HLE := hide hLe; rw [← hLe] at hi hn H0 ⊢; clear hl h hLe
  go_enter Tryz.func146, Tryz.ntmps146
  go_wp2_with fail
  go_loopw [1] (fun s1 wr => ∃ (k : Nat) (es' : List EntI), s1 = .int .i64 k ∧ k < L ∧ Hid (es'.Perm es ∧ HAtI wr p m lv (.slice (some ⟨b, 0, none⟩) L c) es' n ∧ Turned (Foot p m (.slice (some ⟨b, 0, none⟩) L c)) w wr ∧ (SinkAt (le gg) i es → SinkAt (le gg) k es'))) (fun s1 _ => L - (intOf s1).toNat)
  case atStart => exact ⟨i, es, rfl, hi, List.Perm.refl _, unhide H0, Turned.refl _ _, fun h => h⟩
  case round =>
    obtain ⟨k, es', rfl, hk, hS⟩ := hrel; have hLl : Hid (es'.length = L) := (unhide hS).1.length_eq.trans (unhide HLE).symm; have c1 := (unhide hS).2.1.cells.2.1
    by_cases h1 : 2 * k + 1 < L
    · have h1z : 2 * (k : Int) + 1 < (L : Int) := by omega
      have CA : Hid (∀ (q x y : Nat), x < L → y < L → Calls Tryz.prog 133 #[.pointer (some ⟨p, 0, none⟩), .int .i64 x, .int .i64 y] (wr.drewN q) fun e w' => e = .returned (.bool (aheadB gg (at_ es' x) (at_ es' y))) ∧ ∃ q', w' = (wr.drewN q).drewN q') := fun q x y hx hy =>
        aheadI x y (wr.drewN q) ((unhide hS).2.1.drewN q) (unhide HL) (by rw [unhide hLl]; exact hx) (by rw [unhide hLl]; exact hy)
      have CS : Hid (∀ (q x y : Nat), x < L → y < L → Calls Tryz.prog 134 #[.pointer (some ⟨p, 0, none⟩), .int .i64 x, .int .i64 y] (wr.drewN q) fun e w' => e = .returned (.tuple #[]) ∧ Hid (HAtI w' p m lv (.slice (some ⟨b, 0, none⟩) L c) (swapL es' x y) n ∧ Turned (Foot p m (.slice (some ⟨b, 0, none⟩) L c)) (wr.drewN q) w')) := fun q x y hx hy =>
        swapI x y (wr.drewN q) ((unhide hS).2.1.drewN q) (by rw [unhide hLl]; exact hx) (by rw [unhide hLl]; exact hy) (by rw [unhide hLl]; exact hn)
      by_cases h2 : 2 * k + 2 < L
      · have h2z : 2 * (k : Int) + 1 + 1 < (L : Int) := by omega
        have h2y : 2 * (k : Int) + 2 < (L : Int) := by omega
        have C1 := unhide CA 0 (2 * k + 2) (2 * k + 1) h2 h1; rw [show ((2 * k + 2 : Nat) : Int) = 2 * (k : Int) + 1 + 1 by omega, show ((2 * k + 1 : Nat) : Int) = 2 * (k : Int) + 1 by omega] at C1
        cases ha : aheadB gg (at_ es' (2 * k + 2)) (at_ es' (2 * k + 1)) with
        | true =>
          rw [ha] at C1; have HMIN : Hid (∀ c, 0 < c → c < es'.length → par c = k → le gg (at_ es' (2 * k + 2)) (at_ es' c)) := fun c hc _ hpc => by
            rcases child_cases hc hpc with rfl | rfl
            · exact le_of_ahead gg ha
            · exact le_refl gg _
          have HC1 := hide C1; clear ha C1
          go_wp2_with fail
          refine (unhide HC1).mono ?_
          rintro e w' ⟨rfl, q, rfl⟩
          clear HC1; have CB := unhide CA q (2 * k + 2) k (by omega) hk
          have CT := unhide CS; rw [show (((2 * k + 2) : Nat) : Int) = 2 * (k : Int) + 1 + 1 by omega] at CB
          cases hb : aheadB gg (at_ es' (2 * k + 2)) (at_ es' k) with
          | false =>
            rw [hb] at CB; have HBB := hide hb; have HCB := hide CB; clear hb CB CT CA CS
            go_wp2_with fail
            refine (unhide HCB).mono ?_
            rintro e w' ⟨rfl, q2, rfl⟩
            clear HCB
            go_wp2_with fail
            refine bodyPost_ret (results_none rfl _ _ _) rfl ?_; obtain ⟨g1, g2, g3, g4⟩ := unhide hS; exact ⟨rfl, es', g1, g2.drewN _, g3.drewN _, fun hf => sink_end (g4 hf) (fun c hc hcl hpc => le_trans gg _ _ _ (le_of_not_ahead gg (unhide HBB)) (unhide HMIN c hc hcl hpc))⟩
          | true =>
            rw [hb] at CB; have HBB := hide hb; have HCB := hide CB; have HCT : Hid (∀ q2, Calls Tryz.prog 134 #[.pointer (some ⟨p, 0, none⟩), .int .i64 k, .int .i64 (2 * (k : Int) + 1 + 1)] (wr.drewN q2) fun e w' => e = .returned (.tuple #[]) ∧ Hid (HAtI w' p m lv (.slice (some ⟨b, 0, none⟩) L c) (swapL es' k (2 * k + 2)) n ∧ Turned (Foot p m (.slice (some ⟨b, 0, none⟩) L c)) wr w')) := fun q2 => by
              have := CT q2 k (2 * k + 2) hk (by omega)
              rw [show (((2 * k + 2) : Nat) : Int) = 2 * (k : Int) + 1 + 1 by omega] at this
              refine this.mono ?_; exact fun e w' hh => ⟨hh.1, hh.2.out.1, ((Turned.refl _ wr).drewN _).trans hh.2.out.2⟩
            clear hb CB CT CA CS
            go_wp2_with fail
            refine (unhide HCB).mono ?_
            rintro e w' ⟨rfl, q2, rfl⟩
            clear HCB
            go_wp2_with fail
            refine (unhide HCT _).mono ?_
            rintro e w' ⟨rfl, hs2⟩
            clear HCT
            go_wp2_with fail
            go_roundw
            case rel =>
              obtain ⟨g1, g2, g3, g4⟩ := unhide hS; obtain ⟨f1, f2⟩ := unhide hs2; have hkl : k < es'.length := by rw [unhide hLl]; exact hk
              have hcl : 2 * k + 2 < es'.length := by rw [unhide hLl]; omega
              exact ⟨2 * k + 2, swapL es' k (2 * k + 2), by go_num, by omega, (swap_perm es' k (2 * k + 2) hkl hcl).trans g1, f1, g3.trans f2, fun hf => sink_step (g4 hf) hcl (by omega) (by unfold par; omega) (unhide HMIN) (le_of_ahead gg (unhide HBB))⟩
            case measure => simp [intOf]; omega
        | false =>
          rw [ha] at C1; have HMIN : Hid (∀ c, 0 < c → c < es'.length → par c = k → le gg (at_ es' (2 * k + 1)) (at_ es' c)) := fun c hc _ hpc => by
            rcases child_cases hc hpc with rfl | rfl
            · exact le_refl gg _
            · exact le_of_not_ahead gg ha
          have HC1 := hide C1; clear ha C1
          go_wp2_with fail
          refine (unhide HC1).mono ?_
          rintro e w' ⟨rfl, q, rfl⟩
          clear HC1; have CB := unhide CA q (2 * k + 1) k (by omega) hk
          have CT := unhide CS; rw [show (((2 * k + 1) : Nat) : Int) = 2 * (k : Int) + 1 by omega] at CB
          cases hb : aheadB gg (at_ es' (2 * k + 1)) (at_ es' k) with
          | false =>
            rw [hb] at CB; have HBB := hide hb; have HCB := hide CB; clear hb CB CT CA CS
            go_wp2_with fail
            refine (unhide HCB).mono ?_
            rintro e w' ⟨rfl, q2, rfl⟩
            clear HCB
            go_wp2_with fail
            refine bodyPost_ret (results_none rfl _ _ _) rfl ?_; obtain ⟨g1, g2, g3, g4⟩ := unhide hS; exact ⟨rfl, es', g1, g2.drewN _, g3.drewN _, fun hf => sink_end (g4 hf) (fun c hc hcl hpc => le_trans gg _ _ _ (le_of_not_ahead gg (unhide HBB)) (unhide HMIN c hc hcl hpc))⟩
          | true =>
            rw [hb] at CB; have HBB := hide hb; have HCB := hide CB; have HCT : Hid (∀ q2, Calls Tryz.prog 134 #[.pointer (some ⟨p, 0, none⟩), .int .i64 k, .int .i64 (2 * (k : Int) + 1)] (wr.drewN q2) fun e w' => e = .returned (.tuple #[]) ∧ Hid (HAtI w' p m lv (.slice (some ⟨b, 0, none⟩) L c) (swapL es' k (2 * k + 1)) n ∧ Turned (Foot p m (.slice (some ⟨b, 0, none⟩) L c)) wr w')) := fun q2 => by
              have := CT q2 k (2 * k + 1) hk (by omega)
              rw [show (((2 * k + 1) : Nat) : Int) = 2 * (k : Int) + 1 by omega] at this
              refine this.mono ?_; exact fun e w' hh => ⟨hh.1, hh.2.out.1, ((Turned.refl _ wr).drewN _).trans hh.2.out.2⟩
            clear hb CB CT CA CS
            go_wp2_with fail
            refine (unhide HCB).mono ?_
            rintro e w' ⟨rfl, q2, rfl⟩
            clear HCB
            go_wp2_with fail
            refine (unhide HCT _).mono ?_
            rintro e w' ⟨rfl, hs2⟩
            clear HCT
            go_wp2_with fail
            go_roundw
            case rel =>
              obtain ⟨g1, g2, g3, g4⟩ := unhide hS; obtain ⟨f1, f2⟩ := unhide hs2; have hkl : k < es'.length := by rw [unhide hLl]; exact hk
              have hcl : 2 * k + 1 < es'.length := by rw [unhide hLl]; omega
              exact ⟨2 * k + 1, swapL es' k (2 * k + 1), by go_num, by omega, (swap_perm es' k (2 * k + 1) hkl hcl).trans g1, f1, g3.trans f2, fun hf => sink_step (g4 hf) hcl (by omega) (by unfold par; omega) (unhide HMIN) (le_of_ahead gg (unhide HBB))⟩
            case measure => simp [intOf]; omega
      · have h2z : ¬ 2 * (k : Int) + 1 + 1 < (L : Int) := by omega
        have h2y : ¬ 2 * (k : Int) + 2 < (L : Int) := by omega
        have HMIN : Hid (∀ c, 0 < c → c < es'.length → par c = k → le gg (at_ es' (2 * k + 1)) (at_ es' c)) := fun c hc hcl hpc => by
          rw [unhide hLl] at hcl; rcases child_cases hc hpc with rfl | rfl
          · exact le_refl gg _
          · omega
        have CB := unhide CA 0 (2 * k + 1) k (by omega) hk
        have CT := unhide CS; rw [show (((2 * k + 1) : Nat) : Int) = 2 * (k : Int) + 1 by omega] at CB
        cases hb : aheadB gg (at_ es' (2 * k + 1)) (at_ es' k) with
        | false =>
          rw [hb] at CB; have HBB := hide hb; have HCB := hide CB; clear hb CB CT CA CS
          go_wp2_with fail
          refine (unhide HCB).mono ?_
          rintro e w' ⟨rfl, q2, rfl⟩
          clear HCB
          go_wp2_with fail
          refine bodyPost_ret (results_none rfl _ _ _) rfl ?_; obtain ⟨g1, g2, g3, g4⟩ := unhide hS; exact ⟨rfl, es', g1, g2.drewN _, g3.drewN _, fun hf => sink_end (g4 hf) (fun c hc hcl hpc => le_trans gg _ _ _ (le_of_not_ahead gg (unhide HBB)) (unhide HMIN c hc hcl hpc))⟩
        | true =>
          rw [hb] at CB; have HBB := hide hb; have HCB := hide CB; have HCT : Hid (∀ q2, Calls Tryz.prog 134 #[.pointer (some ⟨p, 0, none⟩), .int .i64 k, .int .i64 (2 * (k : Int) + 1)] (wr.drewN q2) fun e w' => e = .returned (.tuple #[]) ∧ Hid (HAtI w' p m lv (.slice (some ⟨b, 0, none⟩) L c) (swapL es' k (2 * k + 1)) n ∧ Turned (Foot p m (.slice (some ⟨b, 0, none⟩) L c)) wr w')) := fun q2 => by
            have := CT q2 k (2 * k + 1) hk (by omega)
            rw [show (((2 * k + 1) : Nat) : Int) = 2 * (k : Int) + 1 by omega] at this
            refine this.mono ?_; exact fun e w' hh => ⟨hh.1, hh.2.out.1, ((Turned.refl _ wr).drewN _).trans hh.2.out.2⟩
          clear hb CB CT CA CS
          go_wp2_with fail
          refine (unhide HCB).mono ?_
          rintro e w' ⟨rfl, q2, rfl⟩
          clear HCB
          go_wp2_with fail
          refine (unhide HCT _).mono ?_
          rintro e w' ⟨rfl, hs2⟩
          clear HCT
          go_wp2_with fail
          go_roundw
          case rel =>
            obtain ⟨g1, g2, g3, g4⟩ := unhide hS; obtain ⟨f1, f2⟩ := unhide hs2; have hkl : k < es'.length := by rw [unhide hLl]; exact hk
            have hcl : 2 * k + 1 < es'.length := by rw [unhide hLl]; omega
            exact ⟨2 * k + 1, swapL es' k (2 * k + 1), by go_num, by omega, (swap_perm es' k (2 * k + 1) hkl hcl).trans g1, f1, g3.trans f2, fun hf => sink_step (g4 hf) hcl (by omega) (by unfold par; omega) (unhide HMIN) (le_of_ahead gg (unhide HBB))⟩
          case measure => simp [intOf]; omega
    · have h1z : ¬ 2 * (k : Int) + 1 < (L : Int) := by omega
      go_wp2_with fail
      go_end0
      obtain ⟨g1, g2, g3, g4⟩ := unhide hS; exact ⟨rfl, es', g1, g2, g3, fun hf => sink_end (g4 hf) (fun c hc hcl hpc => by
        rw [unhide hLl] at hcl; rcases child_cases hc hpc with rfl | rfl <;> omega)⟩
end

section
open Go.RowKit Go.Maps
theorem cutAtI [Inhabited EntI] {w w2 : World} {p m b c last n : Nat} {lv : Value} {es : List EntI} {D : DataW Unit} (h : HAtI w p m lv (.slice (some ⟨b, 0, none⟩) es.length c) es n) (hl : es.length = last + 1) (hM : MapIs klI D es)
    (hmap : w2.ownsMap Tryz.prog 3 (plainElem Tryz.prog 3) m es.length (D.del (klI (at_ es last).key))) (hg : w.grownBy w2 (some m)) :
    HAtI ((((w2.setCell ⟨b, last * 3, none⟩ (.int .i64 0)).setCell ⟨b, last * 3 + 1, none⟩ (.int .i64 0)).setCell ⟨b, last * 3 + 2, none⟩ (.int .i64 0)).setCell ⟨p, 1, none⟩ (.slice (some ⟨b, 0, none⟩) last c)) p m lv (.slice (some ⟨b, 0, none⟩) last c) (es.take last) n ∧
    Turned (Foot p m (.slice (some ⟨b, 0, none⟩) es.length c)) w ((((w2.setCell ⟨b, last * 3, none⟩ (.int .i64 0)).setCell ⟨b, last * 3 + 1, none⟩ (.int .i64 0)).setCell ⟨b, last * 3 + 2, none⟩ (.int .i64 0)).setCell ⟨p, 1, none⟩ (.slice (some ⟨b, 0, none⟩) last c)) := by
  have hbp : b ≠ p := fun e => h.ne1 (by simp [Value.ownBlock, e])
  have hbm : b ≠ m := fun e => h.ne2 (by simp [Value.ownBlock, e])
  have hmp := h.ne3; have hpl := h.lt (.inl rfl); have hbl := h.lt (k := b) (.inr (.inr rfl)); have hlen : (es.take last).length = last := by simp; omega
  have hrow2 : w2.ownsRow 0 190 3 (.slice (some ⟨b, 0, none⟩) es.length c) es.length (encI es) := row_keptI h.row (fun k hk => by
    have : k = b := by simpa [Value.ownBlock, eq_comm] using hk
    subst this; exact hg.block k hbl (fun e => hbm (by simpa using e)))
  have hrow3 := row_cut (stored3I (i := last) (⟨0, 0, 0⟩ : EntI) hrow2) (K := last) (by omega)
  have etake : (encI (es.set last ⟨0, 0, 0⟩)).take (last * 3) = encI (es.take last) := by
    unfold encI; rw [enc3_take, List.take_set_of_le (Nat.le_refl _)]
  rw [etake] at hrow3; have hbox2 : w2.heap[p]? = some (.cells #[lv, .slice (some ⟨b, 0, none⟩) es.length c, .map (some m), .int .i64 n] 183 (0, 0)) := (hg.block p hpl (fun e => hmp (by simpa using e.symm))).trans h.box
  have hMI := mapIs_drop injI hM hl; refine ⟨⟨?_, ?_, ⟨_, ?_, hMI⟩, ?_, ?_, ?_, hmp⟩, ?_⟩
  · have e1 : (((w2.setCell ⟨b, last * 3, none⟩ (.int .i64 0)).setCell ⟨b, last * 3 + 1, none⟩ (.int .i64 0)).setCell ⟨b, last * 3 + 2, none⟩ (.int .i64 0)).heap[p]? = some (.cells #[lv, .slice (some ⟨b, 0, none⟩) es.length c, .map (some m), .int .i64 n] 183 (0, 0)) := by
      rw [heap_setCell_other _ _ _ _ (Ne.symm hbp), heap_setCell_other _ _ _ _ (Ne.symm hbp), heap_setCell_other _ _ _ _ (Ne.symm hbp)]; exact hbox2
    rw [heap_setCell_same _ _ _ _ _ _ e1]; rfl
  · rw [hlen]; exact row_keptI hrow3 (fun k hk => by
      have : k = b := by simpa [Value.ownBlock, eq_comm] using hk
      subst this; exact heap_setCell_other _ _ _ _ hbp)
  · rw [← hMI.size]; have := ownsMap_size hmap; obtain ⟨es', clock, h1, h2⟩ := this; refine ⟨es', clock, ?_, h2⟩; rw [heap_setCell_other _ _ _ _ hmp, heap_setCell_other _ _ _ _ (Ne.symm hbm), heap_setCell_other _ _ _ _ (Ne.symm hbm), heap_setCell_other _ _ _ _ (Ne.symm hbm)]; exact h1
  · intro i hi; rw [hlen] at hi; rw [at_take es hi]; exact h.keys i (by omega)
  · exact h.ne1
  · exact h.ne2
  · have hS : ∀ (V : World) (o : Nat) (u : Value), Turned (Foot p m (.slice (some ⟨b, 0, none⟩) es.length c)) V (V.setCell ⟨b, o, none⟩ u) := fun V o u => turned_setCell V _ u (.inr (.inr rfl))
    have hP : ∀ (V : World) (o : Nat) (u : Value), Turned (Foot p m (.slice (some ⟨b, 0, none⟩) es.length c)) V (V.setCell ⟨p, o, none⟩ u) := fun V o u => turned_setCell V _ u (.inl rfl)
    exact ((((turned_grown hg (.inr (.inl rfl))).trans (hS _ _ _)).trans (hS _ _ _)).trans (hS _ _ _)).trans (hP _ _ _)
set_option maxHeartbeats 2000000 in
set_option maxRecDepth 100000 in
theorem removeI [Inhabited EntI] {p m : Nat} {lv v : Value} {es : List EntI} {n : Nat} {gg : Int → Int} (i : Nat) (w : World) (h : HAtI w p m lv v es n) (hl : Less lv gg) (hi : i < es.length) (hn : es.length ≤ 1099511627776) :
    Calls Tryz.prog 130 #[.pointer (some ⟨p, 0, none⟩), .int .i64 i] w fun e w' => e = .returned (.tuple #[]) ∧ Hid (∃ v' es', es'.Perm (without (at_ es i).key es) ∧ HAtI w' p m lv v' es' n ∧ Turned (Foot p m v) w w' ∧ v'.ownBlock = v.ownBlock ∧
      (HeapOrd (le gg) es → HeapOrd (le gg) es')) := by
  obtain ⟨b, c, rfl, hbp, hbm, hLc, hcm, -, -⟩ := h.some_ (by omega)
  obtain ⟨last, hlast⟩ : ∃ last, es.length = last + 1 := ⟨es.length - 1, by omega⟩
  have HL := hide hl; have c1 := h.cells.2.1; have hmp := h.ne3; have HTW : Hid (((swapL es i last).take last).Perm (without (at_ es i).key es)) := by
    have := take_without (h.map.elim fun D hD => hD.2.once) hi
    rw [show es.length - 1 = last by omega] at this
    exact this
  have CS := hide (swapI i last w h hi (by omega) hn)
  have H0 := hide h; have HLA := hide hlast; rw [hlast] at c1 hi hn hLc CS H0 ⊢; clear hl h; have hilt : i ≤ last := by omega
  have hlasz : last < 1099511627776 := by omega
  unfold maxLen at hcm; clear hlast; have hidx : (last : Int) < (last : Int) + 1 := by omega
  go_enter Tryz.func130, Tryz.ntmps130
  go_wp2_with fail
  refine (unhide CS).mono ?_
  rintro e w1 ⟨rfl, hs⟩
  clear CS c1; have hL1 : (swapL es i last).length = last + 1 := by rw [swapL_length]; exact unhide HLA
  obtain ⟨D, hD, hM⟩ := (unhide hs).1.map; have hA1 : HAtI w1 p m lv (.slice (some ⟨b, 0, none⟩) (swapL es i last).length c) (swapL es i last) n := by rw [hL1]; exact (unhide hs).1
  obtain ⟨-, d1, d2, -, dfz⟩ := (unhide hs).1.cells; obtain ⟨b', c', hv', -, -, -, -, hfr, hcl⟩ := (unhide hs).1.some_ (by omega)
  obtain ⟨rfl, rfl⟩ : b' = b ∧ c' = c := by
    simp only [Value.slice.injEq, Option.some.injEq, Addr.mk.injEq, and_true] at hv'; exact ⟨hv'.1.symm, hv'.2.2.symm⟩
  have dk := (hcl last (by omega)).1
  have dr := (hcl last (by omega)).2.1
  have dt := (hcl last (by omega)).2.2
  have hkey := (unhide hs).1.keys last (by omega)
  have HD := hide hD; have HM := hide hM; have HA1 := hide hA1; obtain ⟨kk, hkk⟩ : ∃ kk, (at_ (swapL es i last) last).key = kk := ⟨_, rfl⟩; obtain ⟨rr, hrr⟩ : ∃ rr, (at_ (swapL es i last) last).rank = rr := ⟨_, rfl⟩; obtain ⟨tt, htt⟩ : ∃ tt : Int, ((at_ (swapL es i last) last).turn : Int) = tt := ⟨_, rfl⟩; rw [hkk] at dk hkey; rw [hrr] at dr; rw [htt] at dt; have HKK := hide hkk; clear hcl hv' hD hM hA1 hkk hrr htt
  go_wp2_with fail
  refine region_still_tail 12 mixed (by kernel_rfl) ?_
  simp only [List.take_succ_cons, List.take_zero, List.drop_succ_cons, List.drop_zero]
  repeat still_step
  refine wpStill_nil ?_; refine wpList_delete_own w1.drew rfl _ _ 180 3 rfl 3 lawI Tryz.underlying180 _ m (swapL es i last).length D rfl (World.ownsMap.drew (unhide HD)) _ _ rfl (keyI hkey) ?_; intro w2 hown2 hturn2; have hg2 : w1.grownBy w2 (some m) := grown_drew hturn2.grown; have other : ∀ (x : Addr), x.block ≠ m → w2.cell? x = w1.cell? x := fun x hx => by
    obtain ⟨es1, cl, es1', cl', hb1, rfl⟩ := hturn2; exact cell_of_heap ((ChangeMaps.heap_setBlock_other hb1 _ hx).trans rfl)
  have otherF : ∀ (x : Addr), w2.frozen? x = w1.frozen? x := fun x => hturn2.frozen x
  have e1 := (other ⟨p, 1, none⟩ (Ne.symm hmp)).trans d1; have ek := (other ⟨b', last * 3, none⟩ hbm).trans dk; have er := (other ⟨b', last * 3 + 1, none⟩ hbm).trans dr; have et := (other ⟨b', last * 3 + 2, none⟩ hbm).trans dt; have ef : ∀ o, w2.frozen? ⟨b', o, none⟩ = false := fun o => (otherF _).trans (hfr o)
  have ep : ∀ o, w2.frozen? ⟨p, o, none⟩ = false := fun o => (otherF _).trans (dfz o)
  have HC := hide (cutAtI (unhide HA1) hL1 (unhide HM) (by rw [unhide HKK]; exact hown2) hg2)
  clear hown2 hturn2 hg2 other otherF d1 d2 dfz dk dr dt hfr hkey HD HM; have hpb' : p ≠ b' := Ne.symm hbp; have hL2 : ((swapL es i last).take last).length = last := by rw [List.length_take, hL1]; omega
  have hT1 : Hid (Turned (Foot p m (.slice (some ⟨b', 0, none⟩) (last + 1) c')) w w1) := (unhide hs).2; have HL1 := hide hL1; have HL2 := hide hL2; clear hs HA1 hL1 hL2
  by_cases hlt : i < last
  · have hltz : (i : Int) < (last : Int) := by omega
    have HR := hide (riseI i _ (unhide HC).1 (unhide HL) (by rw [unhide HL2]; exact hlt) (by rw [unhide HL2]; omega))
    go_wp2_with fail
    refine (unhide HR).mono ?_
    rintro e w5 ⟨rfl, hr5⟩
    obtain ⟨es5, g1, g2, g3, g4⟩ := unhide hr5; have hl5 : es5.length = last := g1.length_eq.trans (unhide HL2); have HS5 := hide (sinkI i w5 g2 (unhide HL) (by omega) (by omega))
    have G : Hid (es5.Perm ((swapL es i last).take last) ∧ Turned (Foot p m (.slice (some ⟨b', 0, none⟩) last c')) _ w5 ∧ ∀ full, RiseAt (le gg) full i i ((swapL es i last).take last) → (full → HeapOrd (le gg) es5) ∧ SinkAt (le gg) i es5) := ⟨g1, g3, g4⟩; clear HR hr5 g1 g2 g3 g4 hl5
    go_wp2_with fail
    refine (unhide HS5).mono ?_
    rintro e w6 ⟨rfl, hr6⟩
    clear HS5
    go_wp2_with fail
    go_end0
    obtain ⟨es6, f1, f2, f3, f4⟩ := unhide hr6; obtain ⟨g1, g3, g4⟩ := unhide G; refine ⟨rfl, _, es6, (f1.trans g1).trans (unhide HTW), f2, (((unhide hT1).trans ?_).trans g3).trans f3, rfl, fun ho => f4 ((g4 False ?_).2)⟩
    · have := (unhide HC).2; rw [unhide HL1] at this; exact this
    · have := sinkAt_cut (le_trans gg) ho (i := i) (by rw [unhide HLA]; omega)
      rw [unhide HLA] at this; exact this
  · have hltz : ¬ (i : Int) < (last : Int) := by omega
    go_wp2_with fail
    go_end0
    refine ⟨rfl, _, _, unhide HTW, (unhide HC).1, (unhide hT1).trans ?_, rfl, fun ho => ?_⟩
    · have := (unhide HC).2; rw [unhide HL1] at this; exact this
    · obtain rfl : i = last := by omega
      rw [swapL_self es i (by rw [unhide HLA]; omega)]
      exact heapOrd_take ho i
end

section
open Go.RowKit Go.Maps
set_option maxHeartbeats 400000 in
set_option maxRecDepth 100000 in
theorem newI [Inhabited EntI] (g : Nat) (cb : Array Value) (w : World) :
    Calls Tryz.prog 96 #[.func (.func g) #[] cb] w fun e w' => e = .returned (.pointer (some ⟨w.heap.size + 1, 0, none⟩)) ∧ Hid (HAtI w' (w.heap.size + 1) w.heap.size (.func (.func g) #[] cb) (.slice none 0 0) [] 0 ∧ Below w.heap.size w w') := by
  have hmm := @run_makeMap Tryz.prog; have hnil : ∀ w : World, (binOp .eql 163 (.func (.func g) #[] cb) .nilFunc).run Tryz.prog w = .ok (.bool false) w := eql_func (.func g) cb; have HA : Hid (HAtI ((w.alloc (.map #[] 0)).alloc (.cells #[.func (.func g) #[] cb, .slice none 0 0, .map (some w.heap.size), .int .i64 0] 183)) (w.heap.size + 1) w.heap.size (.func (.func g) #[] cb) (.slice none 0 0) [] 0 ∧ Below w.heap.size w ((w.alloc (.map #[] 0)).alloc (.cells #[.func (.func g) #[] cb, .slice none 0 0, .map (some w.heap.size), .int .i64 0] 183))) := by
    refine ⟨⟨?_, World.ownsRow_nil _ _ _ _, ⟨.map [], (World.ownsMap_made w _ _ _).alloc _, ?_⟩, fun i hi => by simp at hi, by simp [Value.ownBlock], by simp [Value.ownBlock], by omega⟩, ((Below.refl _ _).alloc (Nat.le_refl _) _).alloc (by simp) _⟩
    · have := heap_alloc_new (w.alloc (.map #[] 0)) (.cells #[.func (.func g) #[] cb, .slice none 0 0, .map (some w.heap.size), .int .i64 0] 183); have e : (w.alloc (.map #[] 0)).heap.size = w.heap.size + 1 := by simp
      rw [e] at this; exact this
    · exact ⟨tidy_empty, List.Pairwise.nil, rfl, fun i hi => by simp at hi, fun k hk => by simp [Maps.has] at hk⟩
  go_enter Tryz.func96, Tryz.ntmps96
  go_wp2
  go_ret
  exact ⟨by simp, unhide HA⟩
set_option maxHeartbeats 400000 in
set_option maxRecDepth 100000 in
theorem peekNoneI [Inhabited EntI] {p m : Nat} {lv v : Value} {n : Nat} (w : World) (h : HAtI w p m lv v [] n) : Calls Tryz.prog 114 #[.pointer (some ⟨p, 0, none⟩)] w fun e w' => e = .returned (.tuple #[.int .i64 0, .int .i64 0, .bool false]) ∧ w' = w := by
  have c1 := h.cells.2.1; obtain ⟨ao, c0, rfl⟩ : ∃ ao c0, v = .slice ao 0 c0 := by
    rcases h.row.2 with ⟨rfl, h3⟩ | ⟨g, cap, cur, rfl, -⟩
    · exact ⟨none, 0, rfl⟩
    · exact ⟨_, _, rfl⟩
  clear h
  go_enter Tryz.func114, Tryz.ntmps114
  go_wp2
  go_ret3
  exact ⟨rfl, rfl⟩
set_option maxHeartbeats 400000 in
set_option maxRecDepth 100000 in
theorem peekSomeI [Inhabited EntI] {p m : Nat} {lv v : Value} {es : List EntI} {n : Nat} (w : World) (h : HAtI w p m lv v es n) (h0 : 0 < es.length) :
    Calls Tryz.prog 114 #[.pointer (some ⟨p, 0, none⟩)] w fun e w' => e = .returned (.tuple #[.int .i64 ((at_ es 0).key), .int .i64 (at_ es 0).rank, .bool true]) ∧ ∃ q, w' = w.drewN q := by
  have c1 := h.cells.2.1; obtain ⟨b, c, rfl, -, -, -, -, -, hc⟩ := h.some_ h0; have d1 := (hc 0 h0).1; have d2 := (hc 0 h0).2.1; rw [Nat.zero_mul] at d1 d2; have hz : (0 : Int) < (es.length : Int) := by omega
  have hz2 : ((es.length : Int) == 0) = false := by simp; intro e; rw [e] at h0; simp at h0
  generalize (at_ es 0).key = kk at *; generalize (at_ es 0).rank = rr at *; generalize es.length = L at *; clear h hc
  go_enter Tryz.func114, Tryz.ntmps114
  go_wp2_with fail
  go_quiet (fail)
  go_wp2_with fail
  go_ret3
  exact ⟨rfl, _, rfl⟩
theorem lookI [Inhabited EntI] {D : DataW Unit} {es : List EntI} (hM : MapIs klI D es) {i : Nat} (hi : i < es.length) {c : Int} (hat : D.atKey (klI (at_ es i).key) (.lit (.int .i64 0)) = .lit (.int .i64 c)) : c = (i : Int) := by
  have := (hM.at_ i hi).2; rw [hat] at this; simpa using this
end

end Go.Proofs.YtagibmgbjhemkaaGreat
