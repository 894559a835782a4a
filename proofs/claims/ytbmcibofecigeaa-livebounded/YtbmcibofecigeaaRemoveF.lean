/- remove: an entry goes. -/
import Derived.Test.YtbmcibofecigeaaRiseF
import Derived.Test.YtbmcibofecigeaaLaws2
namespace Go.Proofs.Ytbmcibofecigeaa

section
open Go.RowKit Go.Maps
attribute [local go_sem] run_storeF

theorem child_cases {k c : Nat} (hc : 0 < c) (h : par c = k) : c = 2 * k + 1 ∨ c = 2 * k + 2 := by unfold par at h; omega

set_option maxHeartbeats 2000000 in
set_option maxRecDepth 100000 in
theorem sinkF [Inhabited EntF] {p m : Nat} {lv v : Value} {es : List EntF} {n : Nat} {gg : Nat → Int} (i : Nat) (w : World) (h : HAtF w p m lv v es n) (hl : LessF lv gg) (hi : i < es.length) (hn : es.length ≤ 1099511627776) :
    Calls Try.prog 83 #[.pointer (some ⟨p, 0, none⟩), .int .i64 i] w fun e w' => e = .returned (.tuple #[]) ∧ Hid (∃ es', es'.Perm es ∧ HAtF w' p m lv v es' n ∧ Turned (Foot p m v) w w' ∧ (SinkAt (le gg) i es → HeapOrd (le gg) es')) := by
  obtain ⟨b, c, rfl, -, -, -, -, -, -⟩ := h.some_ (by omega)
  have HL := hide hl
  have H0 := hide h
  obtain ⟨L, hLe⟩ : ∃ L, L = es.length := ⟨_, rfl⟩
  have HLE := hide hLe
  rw [← hLe] at hi hn H0 ⊢
  clear hl h hLe
  go_enter Try.func83, Try.ntmps83
  go_wp2_with fail
  go_loopw [1] (fun s1 wr => ∃ (k : Nat) (es' : List EntF), s1 = .int .i64 k ∧ k < L ∧ Hid (es'.Perm es ∧ HAtF wr p m lv (.slice (some ⟨b, 0, none⟩) L c) es' n ∧ Turned (Foot p m (.slice (some ⟨b, 0, none⟩) L c)) w wr ∧ (SinkAt (le gg) i es → SinkAt (le gg) k es'))) (fun s1 _ => L - (intOf s1).toNat)
  case atStart => exact ⟨i, es, rfl, hi, List.Perm.refl _, unhide H0, Turned.refl _ _, fun h => h⟩
  case round =>
    obtain ⟨k, es', rfl, hk, hS⟩ := hrel
    have hLl : Hid (es'.length = L) := (unhide hS).1.length_eq.trans (unhide HLE).symm
    have c1 := (unhide hS).2.1.cells.2.1
    by_cases h1 : 2 * k + 1 < L
    · have h1z : 2 * (k : Int) + 1 < (L : Int) := by omega
      have CA : Hid (∀ (q x y : Nat), x < L → y < L → Calls Try.prog 81 #[.pointer (some ⟨p, 0, none⟩), .int .i64 x, .int .i64 y] (wr.drewN q) fun e w' => e = .returned (.bool (aheadB gg (at_ es' x) (at_ es' y))) ∧ ∃ q', w' = (wr.drewN q).drewN q') := fun q x y hx hy =>
        aheadF x y (wr.drewN q) ((unhide hS).2.1.drewN q) (unhide HL) (by rw [unhide hLl]; exact hx) (by rw [unhide hLl]; exact hy)
      have CS : Hid (∀ (q x y : Nat), x < L → y < L → Calls Try.prog 82 #[.pointer (some ⟨p, 0, none⟩), .int .i64 x, .int .i64 y] (wr.drewN q) fun e w' => e = .returned (.tuple #[]) ∧ Hid (HAtF w' p m lv (.slice (some ⟨b, 0, none⟩) L c) (swapL es' x y) n ∧ Turned (Foot p m (.slice (some ⟨b, 0, none⟩) L c)) (wr.drewN q) w')) := fun q x y hx hy =>
        swapF x y (wr.drewN q) ((unhide hS).2.1.drewN q) (by rw [unhide hLl]; exact hx) (by rw [unhide hLl]; exact hy) (by rw [unhide hLl]; exact hn)
      by_cases h2 : 2 * k + 2 < L
      · have h2z : 2 * (k : Int) + 1 + 1 < (L : Int) := by omega
        have h2y : 2 * (k : Int) + 2 < (L : Int) := by omega
        have C1 := unhide CA 0 (2 * k + 2) (2 * k + 1) h2 h1
        rw [show ((2 * k + 2 : Nat) : Int) = 2 * (k : Int) + 1 + 1 by omega, show ((2 * k + 1 : Nat) : Int) = 2 * (k : Int) + 1 by omega] at C1
        cases ha : aheadB gg (at_ es' (2 * k + 2)) (at_ es' (2 * k + 1)) with
        | true =>
          rw [ha] at C1
          have HMIN : Hid (∀ c, 0 < c → c < es'.length → par c = k → le gg (at_ es' (2 * k + 2)) (at_ es' c)) := fun c hc _ hpc => by
            rcases child_cases hc hpc with rfl | rfl
            · exact le_of_ahead gg ha
            · exact le_refl gg _
          have HC1 := hide C1
          clear ha C1
          go_wp2_with fail
          refine (unhide HC1).mono ?_
          rintro e w' ⟨rfl, q, rfl⟩
          clear HC1
          have CB := unhide CA q (2 * k + 2) k (by omega) hk
          have CT := unhide CS
          rw [show (((2 * k + 2) : Nat) : Int) = 2 * (k : Int) + 1 + 1 by omega] at CB
          cases hb : aheadB gg (at_ es' (2 * k + 2)) (at_ es' k) with
          | false =>
            rw [hb] at CB
            have HBB := hide hb
            have HCB := hide CB
            clear hb CB CT CA CS
            go_wp2_with fail
            refine (unhide HCB).mono ?_
            rintro e w' ⟨rfl, q2, rfl⟩
            clear HCB
            go_wp2_with fail
            refine bodyPost_ret (results_none rfl _ _ _) rfl ?_
            obtain ⟨g1, g2, g3, g4⟩ := unhide hS
            exact ⟨rfl, es', g1, g2.drewN _, g3.drewN _, fun hf => sink_end (g4 hf) (fun c hc hcl hpc => le_trans gg _ _ _ (le_of_not_ahead gg (unhide HBB)) (unhide HMIN c hc hcl hpc))⟩
          | true =>
            rw [hb] at CB
            have HBB := hide hb
            have HCB := hide CB
            have HCT : Hid (∀ q2, Calls Try.prog 82 #[.pointer (some ⟨p, 0, none⟩), .int .i64 k, .int .i64 (2 * (k : Int) + 1 + 1)] (wr.drewN q2) fun e w' => e = .returned (.tuple #[]) ∧ Hid (HAtF w' p m lv (.slice (some ⟨b, 0, none⟩) L c) (swapL es' k (2 * k + 2)) n ∧ Turned (Foot p m (.slice (some ⟨b, 0, none⟩) L c)) wr w')) := fun q2 => by
              have := CT q2 k (2 * k + 2) hk (by omega)
              rw [show (((2 * k + 2) : Nat) : Int) = 2 * (k : Int) + 1 + 1 by omega] at this
              refine this.mono ?_
              exact fun e w' hh => ⟨hh.1, hh.2.out.1, ((Turned.refl _ wr).drewN _).trans hh.2.out.2⟩
            clear hb CB CT CA CS
            go_wp2_with fail
            refine (unhide HCB).mono ?_
            rintro e w' ⟨rfl, q2, rfl⟩
            clear HCB
            go_wp2_with fail
            refine (unhide HCT _).mono ?_
            rintro e w' ⟨rfl, hs2⟩
            clear HCT
            go_wp2_with fail
            go_roundw
            case rel =>
              obtain ⟨g1, g2, g3, g4⟩ := unhide hS
              obtain ⟨f1, f2⟩ := unhide hs2
              have hkl : k < es'.length := by rw [unhide hLl]; exact hk
              have hcl : 2 * k + 2 < es'.length := by rw [unhide hLl]; omega
              exact ⟨2 * k + 2, swapL es' k (2 * k + 2), by go_num, by omega, (swap_perm es' k (2 * k + 2) hkl hcl).trans g1, f1, g3.trans f2, fun hf => sink_step (g4 hf) hcl (by omega) (by unfold par; omega) (unhide HMIN) (le_of_ahead gg (unhide HBB))⟩
            case measure => simp [intOf]; omega
        | false =>
          rw [ha] at C1
          have HMIN : Hid (∀ c, 0 < c → c < es'.length → par c = k → le gg (at_ es' (2 * k + 1)) (at_ es' c)) := fun c hc _ hpc => by
            rcases child_cases hc hpc with rfl | rfl
            · exact le_refl gg _
            · exact le_of_not_ahead gg ha
          have HC1 := hide C1
          clear ha C1
          go_wp2_with fail
          refine (unhide HC1).mono ?_
          rintro e w' ⟨rfl, q, rfl⟩
          clear HC1
          have CB := unhide CA q (2 * k + 1) k (by omega) hk
          have CT := unhide CS
          rw [show (((2 * k + 1) : Nat) : Int) = 2 * (k : Int) + 1 by omega] at CB
          cases hb : aheadB gg (at_ es' (2 * k + 1)) (at_ es' k) with
          | false =>
            rw [hb] at CB
            have HBB := hide hb
            have HCB := hide CB
            clear hb CB CT CA CS
            go_wp2_with fail
            refine (unhide HCB).mono ?_
            rintro e w' ⟨rfl, q2, rfl⟩
            clear HCB
            go_wp2_with fail
            refine bodyPost_ret (results_none rfl _ _ _) rfl ?_
            obtain ⟨g1, g2, g3, g4⟩ := unhide hS
            exact ⟨rfl, es', g1, g2.drewN _, g3.drewN _, fun hf => sink_end (g4 hf) (fun c hc hcl hpc => le_trans gg _ _ _ (le_of_not_ahead gg (unhide HBB)) (unhide HMIN c hc hcl hpc))⟩
          | true =>
            rw [hb] at CB
            have HBB := hide hb
            have HCB := hide CB
            have HCT : Hid (∀ q2, Calls Try.prog 82 #[.pointer (some ⟨p, 0, none⟩), .int .i64 k, .int .i64 (2 * (k : Int) + 1)] (wr.drewN q2) fun e w' => e = .returned (.tuple #[]) ∧ Hid (HAtF w' p m lv (.slice (some ⟨b, 0, none⟩) L c) (swapL es' k (2 * k + 1)) n ∧ Turned (Foot p m (.slice (some ⟨b, 0, none⟩) L c)) wr w')) := fun q2 => by
              have := CT q2 k (2 * k + 1) hk (by omega)
              rw [show (((2 * k + 1) : Nat) : Int) = 2 * (k : Int) + 1 by omega] at this
              refine this.mono ?_
              exact fun e w' hh => ⟨hh.1, hh.2.out.1, ((Turned.refl _ wr).drewN _).trans hh.2.out.2⟩
            clear hb CB CT CA CS
            go_wp2_with fail
            refine (unhide HCB).mono ?_
            rintro e w' ⟨rfl, q2, rfl⟩
            clear HCB
            go_wp2_with fail
            refine (unhide HCT _).mono ?_
            rintro e w' ⟨rfl, hs2⟩
            clear HCT
            go_wp2_with fail
            go_roundw
            case rel =>
              obtain ⟨g1, g2, g3, g4⟩ := unhide hS
              obtain ⟨f1, f2⟩ := unhide hs2
              have hkl : k < es'.length := by rw [unhide hLl]; exact hk
              have hcl : 2 * k + 1 < es'.length := by rw [unhide hLl]; omega
              exact ⟨2 * k + 1, swapL es' k (2 * k + 1), by go_num, by omega, (swap_perm es' k (2 * k + 1) hkl hcl).trans g1, f1, g3.trans f2, fun hf => sink_step (g4 hf) hcl (by omega) (by unfold par; omega) (unhide HMIN) (le_of_ahead gg (unhide HBB))⟩
            case measure => simp [intOf]; omega
      · have h2z : ¬ 2 * (k : Int) + 1 + 1 < (L : Int) := by omega
        have h2y : ¬ 2 * (k : Int) + 2 < (L : Int) := by omega
        have HMIN : Hid (∀ c, 0 < c → c < es'.length → par c = k → le gg (at_ es' (2 * k + 1)) (at_ es' c)) := fun c hc hcl hpc => by
          rw [unhide hLl] at hcl
          rcases child_cases hc hpc with rfl | rfl
          · exact le_refl gg _
          · omega
        have CB := unhide CA 0 (2 * k + 1) k (by omega) hk
        have CT := unhide CS
        rw [show (((2 * k + 1) : Nat) : Int) = 2 * (k : Int) + 1 by omega] at CB
        cases hb : aheadB gg (at_ es' (2 * k + 1)) (at_ es' k) with
        | false =>
          rw [hb] at CB
          have HBB := hide hb
          have HCB := hide CB
          clear hb CB CT CA CS
          go_wp2_with fail
          refine (unhide HCB).mono ?_
          rintro e w' ⟨rfl, q2, rfl⟩
          clear HCB
          go_wp2_with fail
          refine bodyPost_ret (results_none rfl _ _ _) rfl ?_
          obtain ⟨g1, g2, g3, g4⟩ := unhide hS
          exact ⟨rfl, es', g1, g2.drewN _, g3.drewN _, fun hf => sink_end (g4 hf) (fun c hc hcl hpc => le_trans gg _ _ _ (le_of_not_ahead gg (unhide HBB)) (unhide HMIN c hc hcl hpc))⟩
        | true =>
          rw [hb] at CB
          have HBB := hide hb
          have HCB := hide CB
          have HCT : Hid (∀ q2, Calls Try.prog 82 #[.pointer (some ⟨p, 0, none⟩), .int .i64 k, .int .i64 (2 * (k : Int) + 1)] (wr.drewN q2) fun e w' => e = .returned (.tuple #[]) ∧ Hid (HAtF w' p m lv (.slice (some ⟨b, 0, none⟩) L c) (swapL es' k (2 * k + 1)) n ∧ Turned (Foot p m (.slice (some ⟨b, 0, none⟩) L c)) wr w')) := fun q2 => by
            have := CT q2 k (2 * k + 1) hk (by omega)
            rw [show (((2 * k + 1) : Nat) : Int) = 2 * (k : Int) + 1 by omega] at this
            refine this.mono ?_
            exact fun e w' hh => ⟨hh.1, hh.2.out.1, ((Turned.refl _ wr).drewN _).trans hh.2.out.2⟩
          clear hb CB CT CA CS
          go_wp2_with fail
          refine (unhide HCB).mono ?_
          rintro e w' ⟨rfl, q2, rfl⟩
          clear HCB
          go_wp2_with fail
          refine (unhide HCT _).mono ?_
          rintro e w' ⟨rfl, hs2⟩
          clear HCT
          go_wp2_with fail
          go_roundw
          case rel =>
            obtain ⟨g1, g2, g3, g4⟩ := unhide hS
            obtain ⟨f1, f2⟩ := unhide hs2
            have hkl : k < es'.length := by rw [unhide hLl]; exact hk
            have hcl : 2 * k + 1 < es'.length := by rw [unhide hLl]; omega
            exact ⟨2 * k + 1, swapL es' k (2 * k + 1), by go_num, by omega, (swap_perm es' k (2 * k + 1) hkl hcl).trans g1, f1, g3.trans f2, fun hf => sink_step (g4 hf) hcl (by omega) (by unfold par; omega) (unhide HMIN) (le_of_ahead gg (unhide HBB))⟩
          case measure => simp [intOf]; omega
    · have h1z : ¬ 2 * (k : Int) + 1 < (L : Int) := by omega
      go_wp2_with fail
      go_end0
      obtain ⟨g1, g2, g3, g4⟩ := unhide hS
      exact ⟨rfl, es', g1, g2, g3, fun hf => sink_end (g4 hf) (fun c hc hcl hpc => by
        rw [unhide hLl] at hcl
        rcases child_cases hc hpc with rfl | rfl <;> omega)⟩
end

section
open Go.RowKit Go.Maps
attribute [local go_sem] run_storeF

/-- What is left behind the delete and the two stores. -/
theorem cutAtF [Inhabited EntF] {w w2 : World} {p m b c last n : Nat} {lv : Value} {es : List EntF} {D : DataW Unit} (h : HAtF w p m lv (.slice (some ⟨b, 0, none⟩) es.length c) es n) (hl : es.length = last + 1) (hM : MapIs klF D es)
    (hmap : w2.ownsMap Try.prog 3 (plainElem Try.prog 3) m es.length (D.del (klF (at_ es last).key))) (hg : w.grownBy w2 (some m)) :
    HAtF ((((w2.setCell ⟨b, last * 3, none⟩ (.int .i64 0)).setCell ⟨b, last * 3 + 1, none⟩ (.float .f32 0)).setCell ⟨b, last * 3 + 2, none⟩ (.int .i64 0)).setCell ⟨p, 1, none⟩ (.slice (some ⟨b, 0, none⟩) last c)) p m lv (.slice (some ⟨b, 0, none⟩) last c) (es.take last) n ∧
    Turned (Foot p m (.slice (some ⟨b, 0, none⟩) es.length c)) w ((((w2.setCell ⟨b, last * 3, none⟩ (.int .i64 0)).setCell ⟨b, last * 3 + 1, none⟩ (.float .f32 0)).setCell ⟨b, last * 3 + 2, none⟩ (.int .i64 0)).setCell ⟨p, 1, none⟩ (.slice (some ⟨b, 0, none⟩) last c)) := by
  have hbp : b ≠ p := fun e => h.ne1 (by simp [Value.ownBlock, e])
  have hbm : b ≠ m := fun e => h.ne2 (by simp [Value.ownBlock, e])
  have hmp := h.ne3
  have hpl := h.lt (.inl rfl)
  have hbl := h.lt (k := b) (.inr (.inr rfl))
  have hlen : (es.take last).length = last := by simp; omega
  have hrow2 : w2.ownsRow 0 123 3 (.slice (some ⟨b, 0, none⟩) es.length c) es.length (encF es) := row_keptF h.row (fun k hk => by
    have : k = b := by simpa [Value.ownBlock, eq_comm] using hk
    subst this
    exact hg.block k hbl (fun e => hbm (by simpa using e)))
  have hrow3 := row_cut (stored3F (i := last) (⟨0, 0, 0⟩ : EntF) hrow2) (K := last) (by omega)
  have etake : (encF (es.set last ⟨0, 0, 0⟩)).take (last * 3) = encF (es.take last) := by
    unfold encF
    rw [enc3_take, List.take_set_of_le (Nat.le_refl _)]
  rw [etake] at hrow3
  have hbox2 : w2.heap[p]? = some (.cells #[lv, .slice (some ⟨b, 0, none⟩) es.length c, .map (some m), .int .i64 n] 111 (0, 0)) := (hg.block p hpl (fun e => hmp (by simpa using e.symm))).trans h.box
  have hMI := mapIs_drop injF hM hl
  refine ⟨⟨?_, ?_, ⟨_, ?_, hMI⟩, ?_, ?_, ?_, hmp⟩, ?_⟩
  · have e1 : (((w2.setCell ⟨b, last * 3, none⟩ (.int .i64 0)).setCell ⟨b, last * 3 + 1, none⟩ (.float .f32 0)).setCell ⟨b, last * 3 + 2, none⟩ (.int .i64 0)).heap[p]? = some (.cells #[lv, .slice (some ⟨b, 0, none⟩) es.length c, .map (some m), .int .i64 n] 111 (0, 0)) := by
      rw [heap_setCell_other _ _ _ _ (Ne.symm hbp), heap_setCell_other _ _ _ _ (Ne.symm hbp), heap_setCell_other _ _ _ _ (Ne.symm hbp)]; exact hbox2
    rw [heap_setCell_same _ _ _ _ _ _ e1]; rfl
  · rw [hlen]
    exact row_keptF hrow3 (fun k hk => by
      have : k = b := by simpa [Value.ownBlock, eq_comm] using hk
      subst this
      exact heap_setCell_other _ _ _ _ hbp)
  · rw [← hMI.size]
    have := ownsMap_size hmap
    obtain ⟨es', clock, h1, h2⟩ := this
    refine ⟨es', clock, ?_, h2⟩
    rw [heap_setCell_other _ _ _ _ hmp, heap_setCell_other _ _ _ _ (Ne.symm hbm), heap_setCell_other _ _ _ _ (Ne.symm hbm), heap_setCell_other _ _ _ _ (Ne.symm hbm)]; exact h1
  · intro i hi
    rw [hlen] at hi
    rw [at_take es hi]
    exact h.keys i (by omega)
  · exact h.ne1
  · exact h.ne2
  · have hS : ∀ (V : World) (o : Nat) (u : Value), Turned (Foot p m (.slice (some ⟨b, 0, none⟩) es.length c)) V (V.setCell ⟨b, o, none⟩ u) := fun V o u => turned_setCell V _ u (.inr (.inr rfl))
    have hP : ∀ (V : World) (o : Nat) (u : Value), Turned (Foot p m (.slice (some ⟨b, 0, none⟩) es.length c)) V (V.setCell ⟨p, o, none⟩ u) := fun V o u => turned_setCell V _ u (.inl rfl)
    exact ((((turned_grown hg (.inr (.inl rfl))).trans (hS _ _ _)).trans (hS _ _ _)).trans (hS _ _ _)).trans (hP _ _ _)

set_option maxHeartbeats 2000000 in
set_option maxRecDepth 100000 in
theorem removeF [Inhabited EntF] {p m : Nat} {lv v : Value} {es : List EntF} {n : Nat} {gg : Nat → Int} (i : Nat) (w : World) (h : HAtF w p m lv v es n) (hl : LessF lv gg) (hi : i < es.length) (hn : es.length ≤ 1099511627776) :
    Calls Try.prog 77 #[.pointer (some ⟨p, 0, none⟩), .int .i64 i] w fun e w' => e = .returned (.tuple #[]) ∧ Hid (∃ v' es', es'.Perm (without (at_ es i).key es) ∧ HAtF w' p m lv v' es' n ∧ Turned (Foot p m v) w w' ∧ v'.ownBlock = v.ownBlock ∧
      (HeapOrd (le gg) es → HeapOrd (le gg) es')) := by
  obtain ⟨b, c, rfl, hbp, hbm, hLc, hcm, -, -⟩ := h.some_ (by omega)
  obtain ⟨last, hlast⟩ : ∃ last, es.length = last + 1 := ⟨es.length - 1, by omega⟩
  have HL := hide hl
  have c1 := h.cells.2.1
  have hmp := h.ne3
  have HTW : Hid (((swapL es i last).take last).Perm (without (at_ es i).key es)) := by
    have := take_without (h.map.elim fun D hD => hD.2.once) hi
    rw [show es.length - 1 = last by omega] at this
    exact this
  have CS := hide (swapF i last w h hi (by omega) hn)
  have H0 := hide h
  have HLA := hide hlast
  rw [hlast] at c1 hi hn hLc CS H0 ⊢
  clear hl h
  have hilt : i ≤ last := by omega
  have hlasz : last < 1099511627776 := by omega
  unfold maxLen at hcm
  clear hlast
  have hidx : (last : Int) < (last : Int) + 1 := by omega
  go_enter Try.func77, Try.ntmps77
  go_wp2_with fail
  refine (unhide CS).mono ?_
  rintro e w1 ⟨rfl, hs⟩
  clear CS c1
  have hL1 : (swapL es i last).length = last + 1 := by rw [swapL_length]; exact unhide HLA
  obtain ⟨D, hD, hM⟩ := (unhide hs).1.map
  have hA1 : HAtF w1 p m lv (.slice (some ⟨b, 0, none⟩) (swapL es i last).length c) (swapL es i last) n := by rw [hL1]; exact (unhide hs).1
  obtain ⟨-, d1, d2, -, dfz⟩ := (unhide hs).1.cells
  obtain ⟨b', c', hv', -, -, -, -, hfr, hcl⟩ := (unhide hs).1.some_ (by omega)
  obtain ⟨rfl, rfl⟩ : b' = b ∧ c' = c := by
    simp only [Value.slice.injEq, Option.some.injEq, Addr.mk.injEq, and_true] at hv'
    exact ⟨hv'.1.symm, hv'.2.2.symm⟩
  have dk := (hcl last (by omega)).1
  have dr := (hcl last (by omega)).2.1
  have dt := (hcl last (by omega)).2.2
  have hkey := (unhide hs).1.keys last (by omega)
  have HD := hide hD
  have HM := hide hM
  have HA1 := hide hA1
  obtain ⟨kk, hkk⟩ : ∃ kk, (at_ (swapL es i last) last).key = kk := ⟨_, rfl⟩
  obtain ⟨rr, hrr⟩ : ∃ rr, (at_ (swapL es i last) last).rank = rr := ⟨_, rfl⟩
  obtain ⟨tt, htt⟩ : ∃ tt : Int, ((at_ (swapL es i last) last).turn : Int) = tt := ⟨_, rfl⟩
  rw [hkk] at dk hkey
  rw [hrr] at dr
  rw [htt] at dt
  have HKK := hide hkk
  clear hcl hv' hD hM hA1 hkk hrr htt
  go_wp2_with fail
  refine region_still_tail 12 mixed (by kernel_rfl) ?_
  simp only [List.take_succ_cons, List.take_zero, List.drop_succ_cons, List.drop_zero]
  repeat still_step
  refine wpStill_nil ?_
  refine wpList_delete_own w1.drew rfl _ _ 108 3 rfl 3 lawF Try.underlying108 _ m (swapL es i last).length D rfl (World.ownsMap.drew (unhide HD)) _ _ rfl (keyF hkey) ?_
  intro w2 hown2 hturn2
  have hg2 : w1.grownBy w2 (some m) := grown_drew hturn2.grown
  have other : ∀ (x : Addr), x.block ≠ m → w2.cell? x = w1.cell? x := fun x hx => by
    obtain ⟨es1, cl, es1', cl', hb1, rfl⟩ := hturn2
    exact cell_of_heap ((ChangeMaps.heap_setBlock_other hb1 _ hx).trans rfl)
  have otherF : ∀ (x : Addr), w2.frozen? x = w1.frozen? x := fun x => hturn2.frozen x
  have e1 := (other ⟨p, 1, none⟩ (Ne.symm hmp)).trans d1
  have ek := (other ⟨b', last * 3, none⟩ hbm).trans dk
  have er := (other ⟨b', last * 3 + 1, none⟩ hbm).trans dr
  have et := (other ⟨b', last * 3 + 2, none⟩ hbm).trans dt
  have ef : ∀ o, w2.frozen? ⟨b', o, none⟩ = false := fun o => (otherF _).trans (hfr o)
  have ep : ∀ o, w2.frozen? ⟨p, o, none⟩ = false := fun o => (otherF _).trans (dfz o)
  have HC := hide (cutAtF (unhide HA1) hL1 (unhide HM) (by rw [unhide HKK]; exact hown2) hg2)
  clear hown2 hturn2 hg2 other otherF d1 d2 dfz dk dr dt hfr hkey HD HM
  have hpb' : p ≠ b' := Ne.symm hbp
  have hL2 : ((swapL es i last).take last).length = last := by rw [List.length_take, hL1]; omega
  have hT1 : Hid (Turned (Foot p m (.slice (some ⟨b', 0, none⟩) (last + 1) c')) w w1) := (unhide hs).2
  have HL1 := hide hL1
  have HL2 := hide hL2
  clear hs HA1 hL1 hL2
  by_cases hlt : i < last
  · have hltz : (i : Int) < (last : Int) := by omega
    have HR := hide (riseF i _ (unhide HC).1 (unhide HL) (by rw [unhide HL2]; exact hlt) (by rw [unhide HL2]; omega))
    go_wp2_with fail
    refine (unhide HR).mono ?_
    rintro e w5 ⟨rfl, hr5⟩
    obtain ⟨es5, g1, g2, g3, g4⟩ := unhide hr5
    have hl5 : es5.length = last := g1.length_eq.trans (unhide HL2)
    have HS5 := hide (sinkF i w5 g2 (unhide HL) (by omega) (by omega))
    have G : Hid (es5.Perm ((swapL es i last).take last) ∧ Turned (Foot p m (.slice (some ⟨b', 0, none⟩) last c')) _ w5 ∧ ∀ full, RiseAt (le gg) full i i ((swapL es i last).take last) → (full → HeapOrd (le gg) es5) ∧ SinkAt (le gg) i es5) := ⟨g1, g3, g4⟩
    clear HR hr5 g1 g2 g3 g4 hl5
    go_wp2_with fail
    refine (unhide HS5).mono ?_
    rintro e w6 ⟨rfl, hr6⟩
    clear HS5
    go_wp2_with fail
    go_end0
    obtain ⟨es6, f1, f2, f3, f4⟩ := unhide hr6
    obtain ⟨g1, g3, g4⟩ := unhide G
    refine ⟨rfl, _, es6, (f1.trans g1).trans (unhide HTW), f2, (((unhide hT1).trans ?_).trans g3).trans f3, rfl, fun ho => f4 ((g4 False ?_).2)⟩
    · have := (unhide HC).2
      rw [unhide HL1] at this
      exact this
    · have := sinkAt_cut (le_trans gg) ho (i := i) (by rw [unhide HLA]; omega)
      rw [unhide HLA] at this
      exact this
  · have hltz : ¬ (i : Int) < (last : Int) := by omega
    go_wp2_with fail
    go_end0
    refine ⟨rfl, _, _, unhide HTW, (unhide HC).1, (unhide hT1).trans ?_, rfl, fun ho => ?_⟩
    · have := (unhide HC).2
      rw [unhide HL1] at this
      exact this
    · obtain rfl : i = last := by omega
      rw [swapL_self es i (by rw [unhide HLA]; omega)]
      exact heapOrd_take ho i
end

end Go.Proofs.Ytbmcibofecigeaa
