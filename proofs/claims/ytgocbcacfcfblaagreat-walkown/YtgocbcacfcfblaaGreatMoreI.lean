/- Peek, Get and Drop of a right heap over int keys. -/
import Derived.Test.YtgocbcacfcfblaaGreatPushI
import Derived.Test.YtgocbcacfcfblaaGreatLaws2
namespace Go.Proofs.YtgocbcacfcfblaaGreat

section
open Go.RowKit Go.Maps
theorem child_cases {k c : Nat} (hc : 0 < c) (h : par c = k) : c = 2 * k + 1 ∨ c = 2 * k + 2 := by unfold par at h; omega

set_option maxHeartbeats 2000000 in
set_option maxRecDepth 100000 in
theorem sinkI [Inhabited EntI] {p m : Nat} {lv v : Value} {es : List EntI} {n : Nat} {gg : Int → Int} (i : Nat) (w : World) (h : HAtI w p m lv v es n) (hl : Less lv gg) (hi : i < es.length) (hn : es.length ≤ 1099511627776) :
    Calls Tryz.prog 129 #[.pointer (some ⟨p, 0, none⟩), .int .i64 i] w fun e w' => e = .returned (.tuple #[]) ∧ Hid (∃ es', es'.Perm es ∧ HAtI w' p m lv v es' n ∧ Turned (Foot p m v) w w' ∧ (SinkAt (le gg) i es → HeapOrd (le gg) es')) := by
  obtain ⟨b, c, rfl, -, -, -, -, -, -⟩ := h.some_ (by omega)
  have HL := hide hl
  have H0 := hide h
  obtain ⟨L, hLe⟩ : ∃ L, L = es.length := ⟨_, rfl⟩
  have HLE := hide hLe
  rw [← hLe] at hi hn H0 ⊢
  clear hl h hLe
  go_enter Tryz.func129, Tryz.ntmps129
  go_wp2_with fail
  go_loopw [1] (fun s1 wr => ∃ (k : Nat) (es' : List EntI), s1 = .int .i64 k ∧ k < L ∧ Hid (es'.Perm es ∧ HAtI wr p m lv (.slice (some ⟨b, 0, none⟩) L c) es' n ∧ Turned (Foot p m (.slice (some ⟨b, 0, none⟩) L c)) w wr ∧ (SinkAt (le gg) i es → SinkAt (le gg) k es'))) (fun s1 _ => L - (intOf s1).toNat)
  case atStart => exact ⟨i, es, rfl, hi, List.Perm.refl _, unhide H0, Turned.refl _ _, fun h => h⟩
  case round =>
    obtain ⟨k, es', rfl, hk, hS⟩ := hrel
    have hLl : Hid (es'.length = L) := (unhide hS).1.length_eq.trans (unhide HLE).symm
    have c1 := (unhide hS).2.1.cells.2.1
    by_cases h1 : 2 * k + 1 < L
    · have h1z : 2 * (k : Int) + 1 < (L : Int) := by omega
      have CA : Hid (∀ (q x y : Nat), x < L → y < L → Calls Tryz.prog 116 #[.pointer (some ⟨p, 0, none⟩), .int .i64 x, .int .i64 y] (wr.drewN q) fun e w' => e = .returned (.bool (aheadB gg (at_ es' x) (at_ es' y))) ∧ ∃ q', w' = (wr.drewN q).drewN q') := fun q x y hx hy =>
        aheadI x y (wr.drewN q) ((unhide hS).2.1.drewN q) (unhide HL) (by rw [unhide hLl]; exact hx) (by rw [unhide hLl]; exact hy)
      have CS : Hid (∀ (q x y : Nat), x < L → y < L → Calls Tryz.prog 117 #[.pointer (some ⟨p, 0, none⟩), .int .i64 x, .int .i64 y] (wr.drewN q) fun e w' => e = .returned (.tuple #[]) ∧ Hid (HAtI w' p m lv (.slice (some ⟨b, 0, none⟩) L c) (swapL es' x y) n ∧ Turned (Foot p m (.slice (some ⟨b, 0, none⟩) L c)) (wr.drewN q) w')) := fun q x y hx hy =>
        swapI x y (wr.drewN q) ((unhide hS).2.1.drewN q) (by rw [unhide hLl]; exact hx) (by rw [unhide hLl]; exact hy) (by rw [unhide hLl]; exact hn)
      by_cases h2 : 2 * k + 2 < L
      · have h2z : 2 * (k : Int) + 1 + 1 < (L : Int) := by omega
        have h2y : 2 * (k : Int) + 2 < (L : Int) := by omega
        have C1 := unhide CA 0 (2 * k + 2) (2 * k + 1) h2 h1
        rw [show ((2 * k + 2 : Nat) : Int) = 2 * (k : Int) + 1 + 1 by omega, show ((2 * k + 1 : Nat) : Int) = 2 * (k : Int) + 1 by omega] at C1
        cases ha : aheadB gg (at_ es' (2 * k + 2)) (at_ es' (2 * k + 1)) with
        | true =>
          rw [ha] at C1
          have HMIN : Hid (∀ c, 0 < c → c < es'.length → par c = k → le gg (at_ es' (2 * k + 2)) (at_ es' c)) := fun c hc _ hpc => by
            rcases child_cases hc hpc with rfl | rfl
            · exact le_of_ahead gg ha
            · exact le_refl gg _
          have HC1 := hide C1
          clear ha C1
          go_wp2_with fail
          refine (unhide HC1).mono ?_
          rintro e w' ⟨rfl, q, rfl⟩
          clear HC1
          have CB := unhide CA q (2 * k + 2) k (by omega) hk
          have CT := unhide CS
          rw [show (((2 * k + 2) : Nat) : Int) = 2 * (k : Int) + 1 + 1 by omega] at CB
          cases hb : aheadB gg (at_ es' (2 * k + 2)) (at_ es' k) with
          | false =>
            rw [hb] at CB
            have HBB := hide hb
            have HCB := hide CB
            clear hb CB CT CA CS
            go_wp2_with fail
            refine (unhide HCB).mono ?_
            rintro e w' ⟨rfl, q2, rfl⟩
            clear HCB
            go_wp2_with fail
            refine bodyPost_ret (results_none rfl _ _ _) rfl ?_
            obtain ⟨g1, g2, g3, g4⟩ := unhide hS
            exact ⟨rfl, es', g1, g2.drewN _, g3.drewN _, fun hf => sink_end (g4 hf) (fun c hc hcl hpc => le_trans gg _ _ _ (le_of_not_ahead gg (unhide HBB)) (unhide HMIN c hc hcl hpc))⟩
          | true =>
            rw [hb] at CB
            have HBB := hide hb
            have HCB := hide CB
            have HCT : Hid (∀ q2, Calls Tryz.prog 117 #[.pointer (some ⟨p, 0, none⟩), .int .i64 k, .int .i64 (2 * (k : Int) + 1 + 1)] (wr.drewN q2) fun e w' => e = .returned (.tuple #[]) ∧ Hid (HAtI w' p m lv (.slice (some ⟨b, 0, none⟩) L c) (swapL es' k (2 * k + 2)) n ∧ Turned (Foot p m (.slice (some ⟨b, 0, none⟩) L c)) wr w')) := fun q2 => by
              have := CT q2 k (2 * k + 2) hk (by omega)
              rw [show (((2 * k + 2) : Nat) : Int) = 2 * (k : Int) + 1 + 1 by omega] at this
              refine this.mono ?_
              exact fun e w' hh => ⟨hh.1, hh.2.out.1, ((Turned.refl _ wr).drewN _).trans hh.2.out.2⟩
            clear hb CB CT CA CS
            go_wp2_with fail
            refine (unhide HCB).mono ?_
            rintro e w' ⟨rfl, q2, rfl⟩
            clear HCB
            go_wp2_with fail
            refine (unhide HCT _).mono ?_
            rintro e w' ⟨rfl, hs2⟩
            clear HCT
            go_wp2_with fail
            go_roundw
            case rel =>
              obtain ⟨g1, g2, g3, g4⟩ := unhide hS
              obtain ⟨f1, f2⟩ := unhide hs2
              have hkl : k < es'.length := by rw [unhide hLl]; exact hk
              have hcl : 2 * k + 2 < es'.length := by rw [unhide hLl]; omega
              exact ⟨2 * k + 2, swapL es' k (2 * k + 2), by go_num, by omega, (swap_perm es' k (2 * k + 2) hkl hcl).trans g1, f1, g3.trans f2, fun hf => sink_step (g4 hf) hcl (by omega) (by unfold par; omega) (unhide HMIN) (le_of_ahead gg (unhide HBB))⟩
            case measure => simp [intOf]; omega
        | false =>
          rw [ha] at C1
          have HMIN : Hid (∀ c, 0 < c → c < es'.length → par c = k → le gg (at_ es' (2 * k + 1)) (at_ es' c)) := fun c hc _ hpc => by
            rcases child_cases hc hpc with rfl | rfl
            · exact le_refl gg _
            · exact le_of_not_ahead gg ha
          have HC1 := hide C1
          clear ha C1
          go_wp2_with fail
          refine (unhide HC1).mono ?_
          rintro e w' ⟨rfl, q, rfl⟩
          clear HC1
          have CB := unhide CA q (2 * k + 1) k (by omega) hk
          have CT := unhide CS
          rw [show (((2 * k + 1) : Nat) : Int) = 2 * (k : Int) + 1 by omega] at CB
          cases hb : aheadB gg (at_ es' (2 * k + 1)) (at_ es' k) with
          | false =>
            rw [hb] at CB
            have HBB := hide hb
            have HCB := hide CB
            clear hb CB CT CA CS
            go_wp2_with fail
            refine (unhide HCB).mono ?_
            rintro e w' ⟨rfl, q2, rfl⟩
            clear HCB
            go_wp2_with fail
            refine bodyPost_ret (results_none rfl _ _ _) rfl ?_
            obtain ⟨g1, g2, g3, g4⟩ := unhide hS
            exact ⟨rfl, es', g1, g2.drewN _, g3.drewN _, fun hf => sink_end (g4 hf) (fun c hc hcl hpc => le_trans gg _ _ _ (le_of_not_ahead gg (unhide HBB)) (unhide HMIN c hc hcl hpc))⟩
          | true =>
            rw [hb] at CB
            have HBB := hide hb
            have HCB := hide CB
            have HCT : Hid (∀ q2, Calls Tryz.prog 117 #[.pointer (some ⟨p, 0, none⟩), .int .i64 k, .int .i64 (2 * (k : Int) + 1)] (wr.drewN q2) fun e w' => e = .returned (.tuple #[]) ∧ Hid (HAtI w' p m lv (.slice (some ⟨b, 0, none⟩) L c) (swapL es' k (2 * k + 1)) n ∧ Turned (Foot p m (.slice (some ⟨b, 0, none⟩) L c)) wr w')) := fun q2 => by
              have := CT q2 k (2 * k + 1) hk (by omega)
              rw [show (((2 * k + 1) : Nat) : Int) = 2 * (k : Int) + 1 by omega] at this
              refine this.mono ?_
              exact fun e w' hh => ⟨hh.1, hh.2.out.1, ((Turned.refl _ wr).drewN _).trans hh.2.out.2⟩
            clear hb CB CT CA CS
            go_wp2_with fail
            refine (unhide HCB).mono ?_
            rintro e w' ⟨rfl, q2, rfl⟩
            clear HCB
            go_wp2_with fail
            refine (unhide HCT _).mono ?_
            rintro e w' ⟨rfl, hs2⟩
            clear HCT
            go_wp2_with fail
            go_roundw
            case rel =>
              obtain ⟨g1, g2, g3, g4⟩ := unhide hS
              obtain ⟨f1, f2⟩ := unhide hs2
              have hkl : k < es'.length := by rw [unhide hLl]; exact hk
              have hcl : 2 * k + 1 < es'.length := by rw [unhide hLl]; omega
              exact ⟨2 * k + 1, swapL es' k (2 * k + 1), by go_num, by omega, (swap_perm es' k (2 * k + 1) hkl hcl).trans g1, f1, g3.trans f2, fun hf => sink_step (g4 hf) hcl (by omega) (by unfold par; omega) (unhide HMIN) (le_of_ahead gg (unhide HBB))⟩
            case measure => simp [intOf]; omega
      · have h2z : ¬ 2 * (k : Int) + 1 + 1 < (L : Int) := by omega
        have h2y : ¬ 2 * (k : Int) + 2 < (L : Int) := by omega
        have HMIN : Hid (∀ c, 0 < c → c < es'.length → par c = k → le gg (at_ es' (2 * k + 1)) (at_ es' c)) := fun c hc hcl hpc => by
          rw [unhide hLl] at hcl
          rcases child_cases hc hpc with rfl | rfl
          · exact le_refl gg _
          · omega
        have CB := unhide CA 0 (2 * k + 1) k (by omega) hk
        have CT := unhide CS
        rw [show (((2 * k + 1) : Nat) : Int) = 2 * (k : Int) + 1 by omega] at CB
        cases hb : aheadB gg (at_ es' (2 * k + 1)) (at_ es' k) with
        | false =>
          rw [hb] at CB
          have HBB := hide hb
          have HCB := hide CB
          clear hb CB CT CA CS
          go_wp2_with fail
          refine (unhide HCB).mono ?_
          rintro e w' ⟨rfl, q2, rfl⟩
          clear HCB
          go_wp2_with fail
          refine bodyPost_ret (results_none rfl _ _ _) rfl ?_
          obtain ⟨g1, g2, g3, g4⟩ := unhide hS
          exact ⟨rfl, es', g1, g2.drewN _, g3.drewN _, fun hf => sink_end (g4 hf) (fun c hc hcl hpc => le_trans gg _ _ _ (le_of_not_ahead gg (unhide HBB)) (unhide HMIN c hc hcl hpc))⟩
        | true =>
          rw [hb] at CB
          have HBB := hide hb
          have HCB := hide CB
          have HCT : Hid (∀ q2, Calls Tryz.prog 117 #[.pointer (some ⟨p, 0, none⟩), .int .i64 k, .int .i64 (2 * (k : Int) + 1)] (wr.drewN q2) fun e w' => e = .returned (.tuple #[]) ∧ Hid (HAtI w' p m lv (.slice (some ⟨b, 0, none⟩) L c) (swapL es' k (2 * k + 1)) n ∧ Turned (Foot p m (.slice (some ⟨b, 0, none⟩) L c)) wr w')) := fun q2 => by
            have := CT q2 k (2 * k + 1) hk (by omega)
            rw [show (((2 * k + 1) : Nat) : Int) = 2 * (k : Int) + 1 by omega] at this
            refine this.mono ?_
            exact fun e w' hh => ⟨hh.1, hh.2.out.1, ((Turned.refl _ wr).drewN _).trans hh.2.out.2⟩
          clear hb CB CT CA CS
          go_wp2_with fail
          refine (unhide HCB).mono ?_
          rintro e w' ⟨rfl, q2, rfl⟩
          clear HCB
          go_wp2_with fail
          refine (unhide HCT _).mono ?_
          rintro e w' ⟨rfl, hs2⟩
          clear HCT
          go_wp2_with fail
          go_roundw
          case rel =>
            obtain ⟨g1, g2, g3, g4⟩ := unhide hS
            obtain ⟨f1, f2⟩ := unhide hs2
            have hkl : k < es'.length := by rw [unhide hLl]; exact hk
            have hcl : 2 * k + 1 < es'.length := by rw [unhide hLl]; omega
            exact ⟨2 * k + 1, swapL es' k (2 * k + 1), by go_num, by omega, (swap_perm es' k (2 * k + 1) hkl hcl).trans g1, f1, g3.trans f2, fun hf => sink_step (g4 hf) hcl (by omega) (by unfold par; omega) (unhide HMIN) (le_of_ahead gg (unhide HBB))⟩
          case measure => simp [intOf]; omega
    · have h1z : ¬ 2 * (k : Int) + 1 < (L : Int) := by omega
      go_wp2_with fail
      go_end0
      obtain ⟨g1, g2, g3, g4⟩ := unhide hS
      exact ⟨rfl, es', g1, g2, g3, fun hf => sink_end (g4 hf) (fun c hc hcl hpc => by
        rw [unhide hLl] at hcl
        rcases child_cases hc hpc with rfl | rfl <;> omega)⟩
end

section
open Go.RowKit Go.Maps
/-- What is left behind the delete and the two stores. -/
theorem cutAtI [Inhabited EntI] {w w2 : World} {p m b c last n : Nat} {lv : Value} {es : List EntI} {D : DataW Unit} (h : HAtI w p m lv (.slice (some ⟨b, 0, none⟩) es.length c) es n) (hl : es.length = last + 1) (hM : MapIs klI D es)
    (hmap : w2.ownsMap Tryz.prog 3 (plainElem Tryz.prog 3) m es.length (D.del (klI (at_ es last).key))) (hg : w.grownBy w2 (some m)) :
    HAtI ((((w2.setCell ⟨b, last * 3, none⟩ (.int .i64 0)).setCell ⟨b, last * 3 + 1, none⟩ (.int .i64 0)).setCell ⟨b, last * 3 + 2, none⟩ (.int .i64 0)).setCell ⟨p, 1, none⟩ (.slice (some ⟨b, 0, none⟩) last c)) p m lv (.slice (some ⟨b, 0, none⟩) last c) (es.take last) n ∧
    Turned (Foot p m (.slice (some ⟨b, 0, none⟩) es.length c)) w ((((w2.setCell ⟨b, last * 3, none⟩ (.int .i64 0)).setCell ⟨b, last * 3 + 1, none⟩ (.int .i64 0)).setCell ⟨b, last * 3 + 2, none⟩ (.int .i64 0)).setCell ⟨p, 1, none⟩ (.slice (some ⟨b, 0, none⟩) last c)) := by
  have hbp : b ≠ p := fun e => h.ne1 (by simp [Value.ownBlock, e])
  have hbm : b ≠ m := fun e => h.ne2 (by simp [Value.ownBlock, e])
  have hmp := h.ne3
  have hpl := h.lt (.inl rfl)
  have hbl := h.lt (k := b) (.inr (.inr rfl))
  have hlen : (es.take last).length = last := by simp; omega
  have hrow2 : w2.ownsRow 0 160 3 (.slice (some ⟨b, 0, none⟩) es.length c) es.length (encI es) := row_keptI h.row (fun k hk => by
    have : k = b := by simpa [Value.ownBlock, eq_comm] using hk
    subst this
    exact hg.block k hbl (fun e => hbm (by simpa using e)))
  have hrow3 := row_cut (stored3I (i := last) (⟨0, 0, 0⟩ : EntI) hrow2) (K := last) (by omega)
  have etake : (encI (es.set last ⟨0, 0, 0⟩)).take (last * 3) = encI (es.take last) := by
    unfold encI
    rw [enc3_take, List.take_set_of_le (Nat.le_refl _)]
  rw [etake] at hrow3
  have hbox2 : w2.heap[p]? = some (.cells #[lv, .slice (some ⟨b, 0, none⟩) es.length c, .map (some m), .int .i64 n] 154 (0, 0)) := (hg.block p hpl (fun e => hmp (by simpa using e.symm))).trans h.box
  have hMI := mapIs_drop injI hM hl
  refine ⟨⟨?_, ?_, ⟨_, ?_, hMI⟩, ?_, ?_, ?_, hmp⟩, ?_⟩
  · have e1 : (((w2.setCell ⟨b, last * 3, none⟩ (.int .i64 0)).setCell ⟨b, last * 3 + 1, none⟩ (.int .i64 0)).setCell ⟨b, last * 3 + 2, none⟩ (.int .i64 0)).heap[p]? = some (.cells #[lv, .slice (some ⟨b, 0, none⟩) es.length c, .map (some m), .int .i64 n] 154 (0, 0)) := by
      rw [heap_setCell_other _ _ _ _ (Ne.symm hbp), heap_setCell_other _ _ _ _ (Ne.symm hbp), heap_setCell_other _ _ _ _ (Ne.symm hbp)]; exact hbox2
    rw [heap_setCell_same _ _ _ _ _ _ e1]; rfl
  · rw [hlen]
    exact row_keptI hrow3 (fun k hk => by
      have : k = b := by simpa [Value.ownBlock, eq_comm] using hk
      subst this
      exact heap_setCell_other _ _ _ _ hbp)
  · rw [← hMI.size]
    have := ownsMap_size hmap
    obtain ⟨es', clock, h1, h2⟩ := this
    refine ⟨es', clock, ?_, h2⟩
    rw [heap_setCell_other _ _ _ _ hmp, heap_setCell_other _ _ _ _ (Ne.symm hbm), heap_setCell_other _ _ _ _ (Ne.symm hbm), heap_setCell_other _ _ _ _ (Ne.symm hbm)]; exact h1
  · intro i hi
    rw [hlen] at hi
    rw [at_take es hi]
    exact h.keys i (by omega)
  · exact h.ne1
  · exact h.ne2
  · have hS : ∀ (V : World) (o : Nat) (u : Value), Turned (Foot p m (.slice (some ⟨b, 0, none⟩) es.length c)) V (V.setCell ⟨b, o, none⟩ u) := fun V o u => turned_setCell V _ u (.inr (.inr rfl))
    have hP : ∀ (V : World) (o : Nat) (u : Value), Turned (Foot p m (.slice (some ⟨b, 0, none⟩) es.length c)) V (V.setCell ⟨p, o, none⟩ u) := fun V o u => turned_setCell V _ u (.inl rfl)
    exact ((((turned_grown hg (.inr (.inl rfl))).trans (hS _ _ _)).trans (hS _ _ _)).trans (hS _ _ _)).trans (hP _ _ _)

set_option maxHeartbeats 2000000 in
set_option maxRecDepth 100000 in
theorem removeI [Inhabited EntI] {p m : Nat} {lv v : Value} {es : List EntI} {n : Nat} {gg : Int → Int} (i : Nat) (w : World) (h : HAtI w p m lv v es n) (hl : Less lv gg) (hi : i < es.length) (hn : es.length ≤ 1099511627776) :
    Calls Tryz.prog 113 #[.pointer (some ⟨p, 0, none⟩), .int .i64 i] w fun e w' => e = .returned (.tuple #[]) ∧ Hid (∃ v' es', es'.Perm (without (at_ es i).key es) ∧ HAtI w' p m lv v' es' n ∧ Turned (Foot p m v) w w' ∧ v'.ownBlock = v.ownBlock ∧
      (HeapOrd (le gg) es → HeapOrd (le gg) es')) := by
  obtain ⟨b, c, rfl, hbp, hbm, hLc, hcm, -, -⟩ := h.some_ (by omega)
  obtain ⟨last, hlast⟩ : ∃ last, es.length = last + 1 := ⟨es.length - 1, by omega⟩
  have HL := hide hl
  have c1 := h.cells.2.1
  have hmp := h.ne3
  have HTW : Hid (((swapL es i last).take last).Perm (without (at_ es i).key es)) := by
    have := take_without (h.map.elim fun D hD => hD.2.once) hi
    rw [show es.length - 1 = last by omega] at this
    exact this
  have CS := hide (swapI i last w h hi (by omega) hn)
  have H0 := hide h
  have HLA := hide hlast
  rw [hlast] at c1 hi hn hLc CS H0 ⊢
  clear hl h
  have hilt : i ≤ last := by omega
  have hlasz : last < 1099511627776 := by omega
  unfold maxLen at hcm
  clear hlast
  have hidx : (last : Int) < (last : Int) + 1 := by omega
  go_enter Tryz.func113, Tryz.ntmps113
  go_wp2_with fail
  refine (unhide CS).mono ?_
  rintro e w1 ⟨rfl, hs⟩
  clear CS c1
  have hL1 : (swapL es i last).length = last + 1 := by rw [swapL_length]; exact unhide HLA
  obtain ⟨D, hD, hM⟩ := (unhide hs).1.map
  have hA1 : HAtI w1 p m lv (.slice (some ⟨b, 0, none⟩) (swapL es i last).length c) (swapL es i last) n := by rw [hL1]; exact (unhide hs).1
  obtain ⟨-, d1, d2, -, dfz⟩ := (unhide hs).1.cells
  obtain ⟨b', c', hv', -, -, -, -, hfr, hcl⟩ := (unhide hs).1.some_ (by omega)
  obtain ⟨rfl, rfl⟩ : b' = b ∧ c' = c := by
    simp only [Value.slice.injEq, Option.some.injEq, Addr.mk.injEq, and_true] at hv'
    exact ⟨hv'.1.symm, hv'.2.2.symm⟩
  have dk := (hcl last (by omega)).1
  have dr := (hcl last (by omega)).2.1
  have dt := (hcl last (by omega)).2.2
  have hkey := (unhide hs).1.keys last (by omega)
  have HD := hide hD
  have HM := hide hM
  have HA1 := hide hA1
  obtain ⟨kk, hkk⟩ : ∃ kk, (at_ (swapL es i last) last).key = kk := ⟨_, rfl⟩
  obtain ⟨rr, hrr⟩ : ∃ rr, (at_ (swapL es i last) last).rank = rr := ⟨_, rfl⟩
  obtain ⟨tt, htt⟩ : ∃ tt : Int, ((at_ (swapL es i last) last).turn : Int) = tt := ⟨_, rfl⟩
  rw [hkk] at dk hkey
  rw [hrr] at dr
  rw [htt] at dt
  have HKK := hide hkk
  clear hcl hv' hD hM hA1 hkk hrr htt
  go_wp2_with fail
  refine region_still_tail 12 mixed (by kernel_rfl) ?_
  simp only [List.take_succ_cons, List.take_zero, List.drop_succ_cons, List.drop_zero]
  repeat still_step
  refine wpStill_nil ?_
  refine wpList_delete_own w1.drew rfl _ _ 81 3 rfl 3 lawI Tryz.underlying81 _ m (swapL es i last).length D rfl (World.ownsMap.drew (unhide HD)) _ _ rfl (keyI hkey) ?_
  intro w2 hown2 hturn2
  have hg2 : w1.grownBy w2 (some m) := grown_drew hturn2.grown
  have other : ∀ (x : Addr), x.block ≠ m → w2.cell? x = w1.cell? x := fun x hx => by
    obtain ⟨es1, cl, es1', cl', hb1, rfl⟩ := hturn2
    exact cell_of_heap ((ChangeMaps.heap_setBlock_other hb1 _ hx).trans rfl)
  have otherF : ∀ (x : Addr), w2.frozen? x = w1.frozen? x := fun x => hturn2.frozen x
  have e1 := (other ⟨p, 1, none⟩ (Ne.symm hmp)).trans d1
  have ek := (other ⟨b', last * 3, none⟩ hbm).trans dk
  have er := (other ⟨b', last * 3 + 1, none⟩ hbm).trans dr
  have et := (other ⟨b', last * 3 + 2, none⟩ hbm).trans dt
  have ef : ∀ o, w2.frozen? ⟨b', o, none⟩ = false := fun o => (otherF _).trans (hfr o)
  have ep : ∀ o, w2.frozen? ⟨p, o, none⟩ = false := fun o => (otherF _).trans (dfz o)
  have HC := hide (cutAtI (unhide HA1) hL1 (unhide HM) (by rw [unhide HKK]; exact hown2) hg2)
  clear hown2 hturn2 hg2 other otherF d1 d2 dfz dk dr dt hfr hkey HD HM
  have hpb' : p ≠ b' := Ne.symm hbp
  have hL2 : ((swapL es i last).take last).length = last := by rw [List.length_take, hL1]; omega
  have hT1 : Hid (Turned (Foot p m (.slice (some ⟨b', 0, none⟩) (last + 1) c')) w w1) := (unhide hs).2
  have HL1 := hide hL1
  have HL2 := hide hL2
  clear hs HA1 hL1 hL2
  by_cases hlt : i < last
  · have hltz : (i : Int) < (last : Int) := by omega
    have HR := hide (riseI i _ (unhide HC).1 (unhide HL) (by rw [unhide HL2]; exact hlt) (by rw [unhide HL2]; omega))
    go_wp2_with fail
    refine (unhide HR).mono ?_
    rintro e w5 ⟨rfl, hr5⟩
    obtain ⟨es5, g1, g2, g3, g4⟩ := unhide hr5
    have hl5 : es5.length = last := g1.length_eq.trans (unhide HL2)
    have HS5 := hide (sinkI i w5 g2 (unhide HL) (by omega) (by omega))
    have G : Hid (es5.Perm ((swapL es i last).take last) ∧ Turned (Foot p m (.slice (some ⟨b', 0, none⟩) last c')) _ w5 ∧ ∀ full, RiseAt (le gg) full i i ((swapL es i last).take last) → (full → HeapOrd (le gg) es5) ∧ SinkAt (le gg) i es5) := ⟨g1, g3, g4⟩
    clear HR hr5 g1 g2 g3 g4 hl5
    go_wp2_with fail
    refine (unhide HS5).mono ?_
    rintro e w6 ⟨rfl, hr6⟩
    clear HS5
    go_wp2_with fail
    go_end0
    obtain ⟨es6, f1, f2, f3, f4⟩ := unhide hr6
    obtain ⟨g1, g3, g4⟩ := unhide G
    refine ⟨rfl, _, es6, (f1.trans g1).trans (unhide HTW), f2, (((unhide hT1).trans ?_).trans g3).trans f3, rfl, fun ho => f4 ((g4 False ?_).2)⟩
    · have := (unhide HC).2
      rw [unhide HL1] at this
      exact this
    · have := sinkAt_cut (le_trans gg) ho (i := i) (by rw [unhide HLA]; omega)
      rw [unhide HLA] at this
      exact this
  · have hltz : ¬ (i : Int) < (last : Int) := by omega
    go_wp2_with fail
    go_end0
    refine ⟨rfl, _, _, unhide HTW, (unhide HC).1, (unhide hT1).trans ?_, rfl, fun ho => ?_⟩
    · have := (unhide HC).2
      rw [unhide HL1] at this
      exact this
    · obtain rfl : i = last := by omega
      rw [swapL_self es i (by rw [unhide HLA]; omega)]
      exact heapOrd_take ho i
end

section
open Go.RowKit Go.Maps
set_option maxHeartbeats 400000 in
set_option maxRecDepth 100000 in
theorem newI [Inhabited EntI] (g : Nat) (cb : Array Value) (w : World) :
    Calls Tryz.prog 79 #[.func (.func g) #[] cb] w fun e w' => e = .returned (.pointer (some ⟨w.heap.size + 1, 0, none⟩)) ∧ Hid (HAtI w' (w.heap.size + 1) w.heap.size (.func (.func g) #[] cb) (.slice none 0 0) [] 0 ∧ Below w.heap.size w w') := by
  have hmm := @run_makeMap Tryz.prog
  have hnil : ∀ w : World, (binOp .eql 136 (.func (.func g) #[] cb) .nilFunc).run Tryz.prog w = .ok (.bool false) w := eql_func (.func g) cb
  have HA : Hid (HAtI ((w.alloc (.map #[] 0)).alloc (.cells #[.func (.func g) #[] cb, .slice none 0 0, .map (some w.heap.size), .int .i64 0] 154)) (w.heap.size + 1) w.heap.size (.func (.func g) #[] cb) (.slice none 0 0) [] 0 ∧ Below w.heap.size w ((w.alloc (.map #[] 0)).alloc (.cells #[.func (.func g) #[] cb, .slice none 0 0, .map (some w.heap.size), .int .i64 0] 154))) := by
    refine ⟨⟨?_, World.ownsRow_nil _ _ _ _, ⟨.map [], (World.ownsMap_made w _ _ _).alloc _, ?_⟩, fun i hi => by simp at hi, by simp [Value.ownBlock], by simp [Value.ownBlock], by omega⟩, ((Below.refl _ _).alloc (Nat.le_refl _) _).alloc (by simp) _⟩
    · have := heap_alloc_new (w.alloc (.map #[] 0)) (.cells #[.func (.func g) #[] cb, .slice none 0 0, .map (some w.heap.size), .int .i64 0] 154)
      have e : (w.alloc (.map #[] 0)).heap.size = w.heap.size + 1 := by simp
      rw [e] at this
      exact this
    · exact ⟨tidy_empty, List.Pairwise.nil, rfl, fun i hi => by simp at hi, fun k hk => by simp [Maps.has] at hk⟩
  go_enter Tryz.func79, Tryz.ntmps79
  go_wp2
  go_ret
  exact ⟨by simp, unhide HA⟩

set_option maxHeartbeats 400000 in
set_option maxRecDepth 100000 in
theorem peekNoneI [Inhabited EntI] {p m : Nat} {lv v : Value} {n : Nat} (w : World) (h : HAtI w p m lv v [] n) : Calls Tryz.prog 97 #[.pointer (some ⟨p, 0, none⟩)] w fun e w' => e = .returned (.tuple #[.int .i64 0, .int .i64 0, .bool false]) ∧ w' = w := by
  have c1 := h.cells.2.1
  obtain ⟨ao, c0, rfl⟩ : ∃ ao c0, v = .slice ao 0 c0 := by
    rcases h.row.2 with ⟨rfl, h3⟩ | ⟨g, cap, cur, rfl, -⟩
    · exact ⟨none, 0, rfl⟩
    · exact ⟨_, _, rfl⟩
  clear h
  go_enter Tryz.func97, Tryz.ntmps97
  go_wp2
  go_ret3
  exact ⟨rfl, rfl⟩

set_option maxHeartbeats 400000 in
set_option maxRecDepth 100000 in
theorem peekSomeI [Inhabited EntI] {p m : Nat} {lv v : Value} {es : List EntI} {n : Nat} (w : World) (h : HAtI w p m lv v es n) (h0 : 0 < es.length) :
    Calls Tryz.prog 97 #[.pointer (some ⟨p, 0, none⟩)] w fun e w' => e = .returned (.tuple #[.int .i64 ((at_ es 0).key), .int .i64 (at_ es 0).rank, .bool true]) ∧ ∃ q, w' = w.drewN q := by
  have c1 := h.cells.2.1
  obtain ⟨b, c, rfl, -, -, -, -, -, hc⟩ := h.some_ h0
  have d1 := (hc 0 h0).1
  have d2 := (hc 0 h0).2.1
  rw [Nat.zero_mul] at d1 d2
  have hz : (0 : Int) < (es.length : Int) := by omega
  have hz2 : ((es.length : Int) == 0) = false := by simp; intro e; rw [e] at h0; simp at h0
  generalize (at_ es 0).key = kk at *
  generalize (at_ es 0).rank = rr at *
  generalize es.length = L at *
  clear h hc
  go_enter Tryz.func97, Tryz.ntmps97
  go_wp2_with fail
  go_quiet (fail)
  go_wp2_with fail
  go_ret3
  exact ⟨rfl, _, rfl⟩

/-- What stands at a key. -/
theorem lookI [Inhabited EntI] {D : DataW Unit} {es : List EntI} (hM : MapIs klI D es) {i : Nat} (hi : i < es.length) {c : Int} (hat : D.atKey (klI (at_ es i).key) (.lit (.int .i64 0)) = .lit (.int .i64 c)) : c = (i : Int) := by
  have := (hM.at_ i hi).2
  rw [hat] at this
  simpa using this

/-- An entry's rank written. -/
theorem rankAtI [Inhabited EntI] {w : World} {p m n b c i : Nat} {lv : Value} {es : List EntI} {r : Int} (h : HAtI w p m lv (.slice (some ⟨b, 0, none⟩) es.length c) es n) (hi : i < es.length) :
    HAtI (w.setCell ⟨b, i * 3 + 1, none⟩ (.int .i64 r)) p m lv (.slice (some ⟨b, 0, none⟩) es.length c) (es.set i { at_ es i with rank := r }) n ∧ Turned (Foot p m (.slice (some ⟨b, 0, none⟩) es.length c)) w (w.setCell ⟨b, i * 3 + 1, none⟩ (.int .i64 r)) := by
  have hbp : p ≠ b := fun e => h.ne1 (by simp [Value.ownBlock, e])
  have hbm : m ≠ b := fun e => h.ne2 (by simp [Value.ownBlock, e])
  obtain ⟨D, hD, hM⟩ := h.map
  have hat : ∀ j, at_ (es.set i { at_ es i with rank := r }) j = if j = i then { at_ es i with rank := r } else at_ es j := fun j => at_set es i j _ hi
  have hlen : (es.set i { at_ es i with rank := r }).length = es.length := by simp
  refine ⟨⟨(heap_setCell_other _ _ _ _ hbp).trans h.box, ?_, ⟨D, ?_, mapIs_keys hM hlen (fun j _ => ?_)⟩, fun j hj => ?_, h.ne1, h.ne2, h.ne3⟩, turned_setCell w _ _ (.inr (.inr rfl))⟩
  · rw [hlen]
    have h1 := (h.row.stored (i * 3 + 1) (.int .i64 r)).1
    have henc : encI (es.set i { at_ es i with rank := r }) = (encI es).set (i * 3 + 1) (.int .i64 r) := by
      obtain ⟨e1, e2, e3⟩ := enc3_at (fun e : EntI => .int .i64 (e.key)) (fun e => .int .i64 e.rank) (fun e => .int .i64 e.turn) es i hi
      unfold encI
      rw [enc3_set]
      have s1 : (enc3 (fun e : EntI => .int .i64 (e.key)) (fun e => .int .i64 e.rank) (fun e => .int .i64 e.turn) es).set (i * 3) (.int .i64 ((at_ es i).key)) = enc3 (fun e : EntI => .int .i64 (e.key)) (fun e => .int .i64 e.rank) (fun e => .int .i64 e.turn) es := by
        obtain ⟨h1, h2⟩ := List.getElem?_eq_some_iff.1 e1
        rw [← h2]; exact List.set_getElem_self h1
      rw [s1]
      have e3' : ((enc3 (fun e : EntI => .int .i64 (e.key)) (fun e => .int .i64 e.rank) (fun e => .int .i64 e.turn) es).set (i * 3 + 1) (.int .i64 r))[i * 3 + 2]? = some (.int .i64 (at_ es i).turn) := by
        rw [List.getElem?_set_ne (by omega)]; exact e3
      obtain ⟨h1, h2⟩ := List.getElem?_eq_some_iff.1 e3'
      have h2' := h2.symm
      show List.set (List.set _ (i * 3 + 1) (Value.int .i64 r)) (i * 3 + 2) (Value.int .i64 (at_ es i).turn) = _
      rw [h2']; exact List.set_getElem_self h1
    rw [henc]; exact h1
  · rw [hlen]
    obtain ⟨es', clock, h1, h2⟩ := hD
    exact ⟨es', clock, (heap_setCell_other _ _ _ _ hbm).trans h1, h2⟩
  · rw [hat]; split
    · rename_i e; rw [e]
    · rfl
  · rw [hlen] at hj
    rw [hat]; split
    · exact h.keys i hi
    · exact h.keys j hj

/-- A rank that is lowered: only its parent may stand wrongly. -/
theorem riseAt_loweredI [Inhabited EntI] {es : List EntI} {i : Nat} {r : Int} {gg : Int → Int} (hi : i < es.length) (hlt : gg r < gg (at_ es i).rank) (ho : HeapOrd (le gg) es) (full : Prop) : RiseAt (le gg) full i i (es.set i { at_ es i with rank := r }) := by
  have hat : ∀ j, at_ (es.set i { at_ es i with rank := r }) j = if j = i then { at_ es i with rank := r } else at_ es j := fun j => at_set es i j _ hi
  have hlow : ∀ x : EntI, le gg (at_ es i) x → le gg { at_ es i with rank := r } x := fun x hx => by unfold le at *; simp only at *; omega
  refine ⟨Nat.le_refl _, by simpa using hi, fun j hj hjl hne _ => ?_, fun h0 c hc hcl hpc => ?_⟩
  · rw [List.length_set] at hjl
    unfold Ok
    rw [hat, hat, if_neg hne]
    split
    · rename_i e
      have := ho j hj hjl
      unfold Ok at this
      rw [e] at this
      exact hlow _ this
    · exact ho j hj hjl
  · rw [List.length_set] at hcl
    have hpi : par i < i := by unfold par; omega
    have hpc' : par c < c := by unfold par; omega
    rw [hat, hat, if_neg (by omega), if_neg (by omega)]
    have h1 := ho i h0 hi
    have h2 := ho c hc hcl
    unfold Ok at h1 h2
    rw [hpc] at h2
    exact le_trans gg _ _ _ h1 h2
end

section
open Go.RowKit Go.Maps
/-- At p stands a heap over '<' with these entries; its blocks are those of F. -/
def OnI [Inhabited EntI] (w : World) (p : Nat) (F : Nat → Prop) (ms : List EntI) (n : Nat) : Prop := ∃ m lv v es, HAtI w p m lv v es n ∧ Less lv (fun x => x) ∧ Is (fun x => x) es ms n ∧ ∀ k, F k ↔ Foot p m v k

theorem OnI.lt [Inhabited EntI] {w : World} {p : Nat} {F : Nat → Prop} {ms : List EntI} {n : Nat} (h : OnI w p F ms n) {k : Nat} (hk : F k) : k < w.heap.size := by
  obtain ⟨m, lv, v, es, h1, -, -, h4⟩ := h
  exact h1.lt ((h4 k).1 hk)

theorem OnI.kept [Inhabited EntI] {w w' : World} {p : Nat} {F : Nat → Prop} {ms : List EntI} {n : Nat} (h : OnI w p F ms n) (hk : ∀ k, F k → w'.heap[k]? = w.heap[k]?) : OnI w' p F ms n := by
  obtain ⟨m, lv, v, es, h1, h2, h3, h4⟩ := h
  exact ⟨m, lv, v, es, h1.kept (fun k hf => hk k ((h4 k).2 hf)), h2, h3, h4⟩

theorem keys_okI [Inhabited EntI] {w : World} {p m n : Nat} {lv v : Value} {es : List EntI} (h : HAtI w p m lv v es n) : ∀ x ∈ es, KeyOkI x.key := fun x hx => by
  obtain ⟨i, hi, rfl⟩ := mem_at hx
  exact h.keys i hi

theorem OnI.once [Inhabited EntI] {w : World} {p : Nat} {F : Nat → Prop} {ms : List EntI} {n : Nat} (h : OnI w p F ms n) : KeysOnce ms := by
  obtain ⟨m, lv, v, es, h1, -, h3, -⟩ := h
  obtain ⟨D, -, hM⟩ := h1.map
  exact keysOnce_perm h3.perm hM.once

theorem OnI.turns [Inhabited EntI] {w : World} {p : Nat} {F : Nat → Prop} {ms : List EntI} {n : Nat} (h : OnI w p F ms n) : ms.Pairwise (fun a b => a.turn < b.turn) := by
  obtain ⟨m, lv, v, es, -, -, h3, -⟩ := h
  exact h3.turns

theorem OnI.pushIn [Inhabited EntI] {w : World} {p : Nat} {F : Nat → Prop} {ms : List EntI} {n : Nat} (h : OnI w p F ms n) (k : Int) (r : Int) (hk : KeyOkI k) (hin : ∃ x ∈ ms, x.key = k) :
    Calls Tryz.prog 89 #[.pointer (some ⟨p, 0, none⟩), .int .i64 (k), .int .i64 r] w fun e w' => e = .returned (.bool false) ∧ w' = w := by
  obtain ⟨m, lv, v, es, h1, -, h3, -⟩ := h
  obtain ⟨x, hx, hxk⟩ := hin
  exact pushInI k r w h1 hk ⟨x, h3.perm.mem_iff.2 hx, hxk⟩

theorem OnI.push [Inhabited EntI] {w : World} {p : Nat} {F : Nat → Prop} {ms : List EntI} {n : Nat} (h : OnI w p F ms n) (k : Int) (r : Int) (hk : KeyOkI k) (hnin : ∀ x ∈ ms, x.key ≠ k) (hn : ms.length < 1099511627776) (hnn : n < 1099511627776) :
    Calls Tryz.prog 89 #[.pointer (some ⟨p, 0, none⟩), .int .i64 (k), .int .i64 r] w fun e w' => e = .returned (.bool true) ∧ ∃ F', OnI w' p F' (ms ++ [⟨k, r, n⟩]) (n + 1) ∧ Turned F w w' ∧ ∀ j, F' j → F j ∨ w.heap.size ≤ j := by
  obtain ⟨m, lv, v, es, h1, h2, h3, h4⟩ := h
  refine (pushNewI k r w h1 h2 hk (fun x hx => hnin x (h3.perm.mem_iff.1 hx)) (by rw [h3.perm.length_eq]; exact hn) hnn).mono ?_
  rintro e w' ⟨he, hh⟩
  obtain ⟨v', es', g1, g2, g3, g4, g5⟩ := hh.out
  refine ⟨he, Foot p m v', ⟨m, lv, v', es', g2, h2, h3.push g1 (g5 h3.ord), fun j => Iff.rfl⟩, g3.mono (fun j _ hf => (h4 j).2 hf), fun j hf => ?_⟩
  rcases hf with hf | hf | hf
  · exact .inl ((h4 j).2 (.inl hf))
  · exact .inl ((h4 j).2 (.inr (.inl hf)))
  · exact (g4 j hf).imp (fun e => (h4 j).2 (.inr (.inr e))) id

theorem newOnI [Inhabited EntI] (g : Nat) (w : World) (hl : Less (.func (.func g) #[] #[]) (fun x => x)) :
    Calls Tryz.prog 79 #[.func (.func g) #[] #[]] w fun e w' => e = .returned (.pointer (some ⟨w.heap.size + 1, 0, none⟩)) ∧ Below w.heap.size w w' ∧ ∃ F, OnI w' (w.heap.size + 1) F [] 0 ∧ ∀ j, F j → w.heap.size ≤ j := by
  refine (newI g #[] w).mono ?_
  rintro e w' ⟨he, hh⟩
  obtain ⟨g1, g2⟩ := hh.out
  refine ⟨he, g2, Foot (w.heap.size + 1) w.heap.size (.slice none 0 0), ⟨_, _, _, _, g1, hl, is_nil _, fun j => Iff.rfl⟩, fun j hf => ?_⟩
  rcases hf with hf | hf | hf
  · omega
  · omega
  · simp [Value.ownBlock] at hf

/-- The one heap of a law: its blocks lie from B on; below B all is as in w0. -/
structure LiveI [Inhabited EntI] (B : Nat) (w0 : World) (p : Nat) (ms : List EntI) (n : Nat) (w : World) : Prop where
  below : Below B w0 w
  room : B ≤ w.heap.size
  on : ∃ F, OnI w p F ms n ∧ ∀ j, F j → B ≤ j

theorem LiveI.turned [Inhabited EntI] {B : Nat} {w0 w w' : World} {p n n' : Nat} {ms ms' : List EntI} {F F' : Nat → Prop} (h : LiveI B w0 p ms n w) (hF : ∀ j, F j → B ≤ j) (ho : OnI w' p F' ms' n') (ht : Turned F w w') (hs : ∀ j, F' j → F j ∨ w.heap.size ≤ j) : LiveI B w0 p ms' n' w' :=
  ⟨h.below.trans (ht.below h.room hF), Nat.le_trans h.room ht.size, F', ho, fun j hj => (hs j hj).elim (hF j) (fun e => Nat.le_trans h.room e)⟩

theorem LiveI.step [Inhabited EntI] {B : Nat} {w0 w w' : World} {p n : Nat} {ms : List EntI} (h : LiveI B w0 p ms n w) (hb : Below w.heap.size w w') : LiveI B w0 p ms n w' := by
  obtain ⟨F, ho, hF⟩ := h.on
  exact ⟨h.below.trans (hb.mono h.room), Nat.le_trans h.room hb.size, F, ho.kept (fun k hk => hb.block k (ho.lt hk)), hF⟩

theorem newLI [Inhabited EntI] (g : Nat) (w : World) (hl : Less (.func (.func g) #[] #[]) (fun x => x)) :
    Calls Tryz.prog 79 #[.func (.func g) #[] #[]] w fun e w' => ∃ p, e = .returned (.pointer (some ⟨p, 0, none⟩)) ∧ LiveI w.heap.size w p [] 0 w' :=
  (newOnI g w hl).mono fun _ _ ⟨he, hb, F, ho, hF⟩ => ⟨_, he, hb, hb.size, F, ho, hF⟩

theorem pushInLI [Inhabited EntI] {B : Nat} {w0 w : World} {p n : Nat} {ms : List EntI} (k : Int) (r : Int) (h : LiveI B w0 p ms n w) (hk : KeyOkI k) (hin : ∃ x ∈ ms, x.key = k) :
    Calls Tryz.prog 89 #[.pointer (some ⟨p, 0, none⟩), .int .i64 (k), .int .i64 r] w fun e w' => e = .returned (.bool false) ∧ w' = w := by
  obtain ⟨F, ho, -⟩ := h.on
  exact ho.pushIn k r hk hin

theorem pushLI [Inhabited EntI] {B : Nat} {w0 w : World} {p n : Nat} {ms : List EntI} (k : Int) (r : Int) (h : LiveI B w0 p ms n w) (hk : KeyOkI k) (hnin : ∀ x ∈ ms, x.key ≠ k) (hn : ms.length < 1099511627776) (hnn : n < 1099511627776) :
    Calls Tryz.prog 89 #[.pointer (some ⟨p, 0, none⟩), .int .i64 (k), .int .i64 r] w fun e w' => e = .returned (.bool true) ∧ LiveI B w0 p (ms ++ [⟨k, r, n⟩]) (n + 1) w' := by
  obtain ⟨F, ho, hF⟩ := h.on
  exact (ho.push k r hk hnin hn hnn).mono fun _ _ ⟨he, F', g1, g2, g3⟩ => ⟨he, h.turned hF g1 g2 g3⟩
end

section
open Go.RowKit Go.Maps
theorem hasNot [Inhabited EntI] {D : DataW Unit} {es : List EntI} (hM : MapIs klI D es) {k : Int} (hnin : ∀ x ∈ es, x.key ≠ k) : Maps.has D (klI k) = false := by
  cases hh : Maps.has D (klI k) with
  | false => rfl
  | true =>
    obtain ⟨i, hi, he⟩ := hM.only k hh
    exact absurd he (hnin _ (at_mem es i hi))

set_option maxHeartbeats 400000 in
set_option maxRecDepth 100000 in
theorem dropOutI [Inhabited EntI] {p m : Nat} {lv v : Value} {es : List EntI} {n : Nat} (k : Int) (w : World) (h : HAtI w p m lv v es n) (hk : KeyOkI k) (hnin : ∀ x ∈ es, x.key ≠ k) :
    Calls Tryz.prog 104 #[.pointer (some ⟨p, 0, none⟩), .int .i64 k] w fun e w' => e = .returned (.bool false) ∧ w' = w := by
  obtain ⟨D, hD, hM⟩ := h.map
  have hhas := hasNot hM hnin
  have c2 := h.cells.2.2.1
  have HD := hide hD
  clear h hM hnin hD
  go_enter Tryz.func104, Tryz.ntmps104
  go_wp2_with (at_lookup; refine wpList_lookup_own_ok_int _ rfl _ _ 81 rfl 3 3 .i64 lawI Tryz.underlying81 Tryz.underlying3 (zeroI _) m es.length D rfl (unhide HD) _ _ rfl (keyI hk) ?_; intro c hat hwc; rw [hhas])
  go_ret
  exact ⟨rfl, rfl⟩

set_option maxHeartbeats 400000 in
set_option maxRecDepth 100000 in
theorem dropInI [Inhabited EntI] {p m : Nat} {lv v : Value} {es : List EntI} {n : Nat} {gg : Int → Int} (i : Nat) (w : World) (h : HAtI w p m lv v es n) (hl : Less lv gg) (hi : i < es.length) (hn : es.length ≤ 1099511627776) :
    Calls Tryz.prog 104 #[.pointer (some ⟨p, 0, none⟩), .int .i64 (at_ es i).key] w fun e w' => e = .returned (.bool true) ∧ Hid (∃ v' es', es'.Perm (without (at_ es i).key es) ∧ HAtI w' p m lv v' es' n ∧ Turned (Foot p m v) w w' ∧ v'.ownBlock = v.ownBlock ∧ (HeapOrd (le gg) es → HeapOrd (le gg) es')) := by
  obtain ⟨D, hD, hM⟩ := h.map
  have hk := h.keys i hi
  have hhas : Maps.has D (klI (at_ es i).key) = true := (hM.at_ i hi).1
  have HLOOK : Hid (∀ c : Int, D.atKey (klI (at_ es i).key) (.lit (.int .i64 0)) = .lit (.int .i64 c) → c = (i : Int)) := fun c hc => lookI hM hi hc
  have c2 := h.cells.2.2.1
  have CR := hide (removeI i w h hl hi hn)
  have HD := hide hD
  generalize (at_ es i).key = kk at *
  clear h hM hD hl hi
  go_enter Tryz.func104, Tryz.ntmps104
  go_wp2_with (at_lookup; refine wpList_lookup_own_ok_int _ rfl _ _ 81 rfl 3 3 .i64 lawI Tryz.underlying81 Tryz.underlying3 (zeroI _) m es.length D rfl (unhide HD) _ _ rfl (keyI hk) ?_; intro cc hat hwc; rw [hhas, unhide HLOOK cc hat])
  refine (unhide CR).mono ?_
  rintro e w2 ⟨rfl, h2⟩
  clear CR
  go_wp2_with fail
  go_ret
  exact ⟨rfl, unhide h2⟩

theorem OnI.dropOut [Inhabited EntI] {w : World} {p : Nat} {F : Nat → Prop} {ms : List EntI} {n : Nat} (h : OnI w p F ms n) (k : Int) (hk : KeyOkI k) (hnin : ∀ x ∈ ms, x.key ≠ k) :
    Calls Tryz.prog 104 #[.pointer (some ⟨p, 0, none⟩), .int .i64 k] w fun e w' => e = .returned (.bool false) ∧ w' = w := by
  obtain ⟨m, lv, v, es, h1, -, h3, -⟩ := h
  exact dropOutI k w h1 hk (fun x hx => hnin x (h3.perm.mem_iff.1 hx))

theorem OnI.drop [Inhabited EntI] {w : World} {p : Nat} {F : Nat → Prop} {ms : List EntI} {n : Nat} (h : OnI w p F ms n) {x : EntI} (hx : x ∈ ms) (hn : ms.length ≤ 1099511627776) :
    Calls Tryz.prog 104 #[.pointer (some ⟨p, 0, none⟩), .int .i64 x.key] w fun e w' => e = .returned (.bool true) ∧ ∃ F', OnI w' p F' (without x.key ms) n ∧ Turned F w w' ∧ ∀ j, F' j → F j ∨ w.heap.size ≤ j := by
  obtain ⟨m, lv, v, es, h1, h2, h3, h4⟩ := h
  obtain ⟨i, hi, rfl⟩ := mem_at (h3.perm.mem_iff.2 hx)
  refine (dropInI i w h1 h2 hi (by rw [h3.perm.length_eq]; exact hn)).mono ?_
  rintro e w' ⟨he, hh⟩
  obtain ⟨v', es', g1, g2, g3, g4, g5⟩ := hh.out
  refine ⟨he, Foot p m v', ⟨m, lv, v', es', g2, h2, h3.without g1 (g5 h3.ord), fun j => Iff.rfl⟩, g3.mono (fun j _ hf => (h4 j).2 hf), fun j hf => .inl ((h4 j).2 ?_)⟩
  rcases hf with hf | hf | hf
  · exact .inl hf
  · exact .inr (.inl hf)
  · exact .inr (.inr (by rw [← g4]; exact hf))

theorem OnI.peekNone [Inhabited EntI] {w : World} {p : Nat} {F : Nat → Prop} {n : Nat} (h : OnI w p F [] n) :
    Calls Tryz.prog 97 #[.pointer (some ⟨p, 0, none⟩)] w fun e w' => e = .returned (.tuple #[.int .i64 0, .int .i64 0, .bool false]) ∧ w' = w := by
  obtain ⟨m, lv, v, es, h1, -, h3, -⟩ := h
  obtain rfl : es = [] := h3.perm.eq_nil
  exact peekNoneI w h1

theorem OnI.peek [Inhabited EntI] {w : World} {p : Nat} {F : Nat → Prop} {ms : List EntI} {n : Nat} (h : OnI w p F ms n) (h0 : 0 < ms.length) :
    Calls Tryz.prog 97 #[.pointer (some ⟨p, 0, none⟩)] w fun e w' => ∃ x ∈ ms, e = .returned (.tuple #[.int .i64 x.key, .int .i64 x.rank, .bool true]) ∧ (∀ y ∈ ms, le (fun x => x) x y) ∧ ∃ q, w' = w.drewN q := by
  obtain ⟨m, lv, v, es, h1, -, h3, -⟩ := h
  have hl : 0 < es.length := by rw [h3.perm.length_eq]; exact h0
  obtain ⟨f1, f2⟩ := h3.first hl
  exact (peekSomeI w h1 hl).mono fun e w' ⟨he, hq⟩ => ⟨_, f1, he, f2, hq⟩

theorem LiveI.draw [Inhabited EntI] {B : Nat} {w0 w : World} {p n : Nat} {ms : List EntI} (h : LiveI B w0 p ms n w) (q : Nat) : LiveI B w0 p ms n (w.drewN q) := h.step (below_drewN (Below.refl _ _) q)
end

end Go.Proofs.YtgocbcacfcfblaaGreat
