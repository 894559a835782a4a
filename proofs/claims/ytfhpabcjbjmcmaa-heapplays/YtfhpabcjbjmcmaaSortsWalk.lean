/- The walk of bramblelaw03.HeapSorts. -/
import Derived.Test.YtfhpabcjbjmcmaaLiveI
import Derived.Test.YtfhpabcjbjmcmaaAwake
import Derived.Deep.Cut
namespace Go.Proofs.Ytfhpabcjbjmcmaa
open Go.RowKit Go.Maps

theorem less_of {g : Nat} (hf : ∀ args w, (callFunc g args).run Try.prog w = .ok (.enter g args) w) (h : ∀ (x y : Int) (w : World), Calls Try.prog g #[.int .i64 x, .int .i64 y] w fun e w' => e = .returned (.bool (decide (x < y))) ∧ w' = w) : Less (.func (.func g) #[] #[]) (fun x => x) :=
  ⟨g, #[], rfl, hf, h⟩

set_option maxHeartbeats 400000 in
theorem less13 : Less (.func (.func 13) #[] #[]) (fun x => x) := by
  refine less_of (enters_of Try.func13 (by kernel_rfl) rfl) (fun x y w => ?_)
  go_enter Try.func13, Try.ntmps13
  go_wp2
  go_ret
  exact ⟨rfl, rfl⟩

/-- The entry that is put in at step j. -/
def ent (z : Nat → Int) (j : Nat) : EntI := ⟨j, z j, j⟩
def ents (z : Nat → Int) (k : Nat) : List EntI := (List.range k).map (ent z)
theorem ents_succ (z : Nat → Int) (k : Nat) : ents z (k + 1) = ents z k ++ [⟨k, z k, k⟩] := by simp [ents, List.range_succ, ent]
theorem ents_length (z : Nat → Int) (k : Nat) : (ents z k).length = k := by simp [ents]
theorem mem_ents {z : Nat → Int} {k : Nat} {x : EntI} (h : x ∈ ents z k) : ∃ j, j < k ∧ x = ent z j := by
  simp only [ents, List.mem_map, List.mem_range] at h
  obtain ⟨j, hj, rfl⟩ := h
  exact ⟨j, hj, rfl⟩

theorem length_without {α ρ : Type} [DecidableEq α] : ∀ {ms : List (Ent α ρ)} {x : Ent α ρ}, KeysOnce ms → x ∈ ms → (without x.key ms).length + 1 = ms.length
  | [], x, _, h => by simp at h
  | y :: ms, x, hk, h => by
    have hk2 : KeysOnce ms := (List.pairwise_cons.1 hk).2
    have hk1 := (List.pairwise_cons.1 hk).1
    by_cases e : y.key = x.key
    · have hw : without x.key (y :: ms) = ms := by
        unfold without
        rw [List.filter_cons, if_neg (by simp [e]), List.filter_eq_self.2 (fun z hz => by
          have := hk1 z hz
          rw [e] at this
          exact decide_eq_true (Ne.symm this))]
      rw [hw]; rfl
    · have hx : x ∈ ms := by
        rcases List.mem_cons.1 h with rfl | h
        · exact absurd rfl e
        · exact h
      have := length_without hk2 hx
      unfold without at this ⊢
      rw [List.filter_cons, if_pos (by simp [e]), List.length_cons, List.length_cons]
      omega

theorem key_ok (j : Nat) (h : j ≤ 1000) : KeyOkI (j : Int) := by
  show (Lit.int .i64 (j : Int)).wf = true
  exact WalkArith.wf_i64 (by omega)

theorem LiveI.once [Inhabited EntI] {B : Nat} {w0 w : World} {p n : Nat} {ms : List EntI} (h : LiveI B w0 p ms n w) : KeysOnce ms := by
  obtain ⟨F, ho, -⟩ := h.on
  exact ho.once

set_option maxHeartbeats 2000000 in
set_option maxRecDepth 100000 in
theorem sorts_some [Inhabited EntI] [Inhabited EntS] (b off len cap N : Nat) (z : Nat → Int) (w : World) (hN : Hid (N = min len 400)) (hcell : ∀ i, i < len → w.cell? ⟨b, off + i, none⟩ = some (.int .i64 (z i))) :
    Calls Try.prog 4 #[.slice (some ⟨b, off, none⟩) len cap] w fun e w' => e = .returned (.bool true) ∧ Below w.heap.size w w' := by
  have HC := hide hcell
  clear hcell
  go_enter Try.func4, Try.ntmps4
  go_wp2_with fail
  refine (newLI 13 w less13).mono ?_
  rintro e w1 ⟨p, rfl, L1⟩
  have HL1 := hide L1
  clear L1
  go_wp2_with fail
  refine (awake_any w1).mono ?_
  rintro e w2 ⟨rfl, hb2⟩
  have HL2 := hide ((unhide HL1).step hb2)
  clear HL1 hb2
  go_upto_region 4 with fail
  go_cut [4] from 21 (fun s4 wq => s4 = .int .i64 N ∧ wq = w2)
  case first =>
    rcases Nat.lt_trichotomy len 400 with h | h | h
    · have hN2 : N = len := by have := unhide hN; omega
      have h1 : (len : Int) < 400 := by omega
      clear hN
      go_wp2_with fail
      go_meet
      case rel => exact ⟨by rw [hN2], rfl⟩
    · have hN2 : N = len := by have := unhide hN; omega
      subst h
      clear hN
      go_wp2_with fail
      go_meet
      case rel => exact ⟨by rw [hN2]; rfl, rfl⟩
    · have hN2 : N = 400 := by have := unhide hN; omega
      have h1 : (400 : Int) < (len : Int) := by omega
      clear hN
      go_wp2_with fail
      go_meet
      case rel => exact ⟨by rw [hN2]; rfl, rfl⟩
  case rest =>
    obtain ⟨rfl, rfl⟩ := hcut
    have hN4 : N ≤ 400 := by have := unhide hN; omega
    have HNl : Hid (N ≤ len) := by show N ≤ len; have := unhide hN; omega
    clear hN
    go_wp2_with fail
    go_loopw [5] (fun s5 wr => ∃ k : Nat, k ≤ N ∧ s5 = .int .i64 k ∧ Hid (LiveI w.heap.size w p (ents z k) k wr)) (fun s5 _ => N - (intOf s5).toNat)
    case atStart => exact ⟨0, Nat.zero_le _, rfl, unhide HL2⟩
    case round =>
      obtain ⟨k, hk, rfl, HL⟩ := hrel
      by_cases hlt : k < N
      · have hltz : (k : Int) < (N : Int) := by omega
        have hll : (k : Int) < (len : Int) := by have := unhide HNl; omega
        have hbw : b < w.heap.size := World.block_lt_of_cell? _ _ (unhide HC k (by have := unhide HNl; omega))
        have c1 : wr.cell? ⟨b, off + k, none⟩ = some (.int .i64 (z k)) := ((unhide HL).below.cell (by exact hbw)).trans (unhide HC k (by have := unhide HNl; omega))
        have CP := hide (pushLI (k : Int) (z k) (unhide HL) (key_ok k (by omega)) (fun x hx => by
          obtain ⟨j, hj, rfl⟩ := mem_ents hx
          show (j : Int) ≠ (k : Int)
          omega) (by rw [ents_length]; omega) (by omega))
        generalize hzk : z k = zk at c1 CP
        have HZ := hide hzk
        clear hzk HL hbw
        go_wp2_with fail
        refine (unhide CP).mono ?_
        rintro e w3 ⟨rfl, L3⟩
        have HL3 := hide L3
        clear L3 CP
        go_wp2_with fail
        go_roundw
        case rel => exact ⟨k + 1, by omega, by go_num, by show LiveI _ _ _ _ _ _; rw [ents_succ, unhide HZ]; exact unhide HL3⟩
        case measure => simp [intOf]; omega
      · have hltz : ¬ (k : Int) < (N : Int) := by omega
        obtain rfl : k = N := by omega
        have HLN := hide (unhide HL)
        clear HL
        go_wp2_with fail
        go_loopw [6, 7] (fun s6 s7 wr => ∃ (i : Nat) (ms : List EntI), i ≤ k ∧ s7 = .int .i64 i ∧ ((s6 = .int .i64 (-1) ∧ Hid True) ∨ ∃ j : Nat, s6 = .int .i64 j ∧ j < k ∧ Hid (∀ x ∈ ms, le (fun x => x) (ent z j) x)) ∧ Hid (ms.length + i = k ∧ (∀ x ∈ ms, ∃ j, j < k ∧ x = ent z j) ∧ LiveI w.heap.size w p ms k wr)) (fun _ s7 _ => k - (intOf s7).toNat)
        case atStart => exact ⟨0, ents z k, Nat.zero_le _, rfl, .inl ⟨rfl, trivial⟩, by rw [ents_length]; rfl, fun x hx => mem_ents hx, unhide HLN⟩
        case round =>
          obtain ⟨i, ms, hik, rfl, hlast, HS⟩ := hrel
          by_cases hlt2 : i < k
          · have hltz2 : (i : Int) < (k : Int) := by omega
            have CP := hide (popLI (unhide HS).2.2 (by have := (unhide HS).1; omega) (by have := (unhide HS).1; omega))
            rcases hlast with ⟨rfl, -⟩ | ⟨j, rfl, hj, HLE⟩
            · go_wp2_with fail
              refine (unhide CP).mono ?_
              rintro e w4 ⟨x, hx, rfl, hle, L4⟩
              obtain ⟨j2, hj2, rfl⟩ := (unhide HS).2.1 x hx
              have HN2 : Hid ((without (ent z j2).key ms).length + (i + 1) = k ∧ (∀ x ∈ without (ent z j2).key ms, ∃ j, j < k ∧ x = ent z j) ∧ LiveI w.heap.size w p (without (ent z j2).key ms) k w4) :=
                ⟨by have h1 := length_without (unhide HS).2.2.once hx; have h2 := (unhide HS).1; omega, fun y hy => (unhide HS).2.1 y (mem_without.1 hy).1, L4⟩
              have HLE2 : Hid (∀ y ∈ without (ent z j2).key ms, le (fun x => x) (ent z j2) y) := fun y hy => hle y (mem_without.1 hy).1
              have hbw : b < w.heap.size := World.block_lt_of_cell? _ _ (unhide HC j2 (by have := unhide HNl; omega))
              have c1 : w4.cell? ⟨b, off + j2, none⟩ = some (.int .i64 (z j2)) := (L4.below.cell (by exact hbw)).trans (unhide HC j2 (by have := unhide HNl; omega))
              have f1 : (j2 : Int) < (k : Int) := by omega
              have f2 : (j2 : Int) < (len : Int) := by have := unhide HNl; omega
              clear L4 hle hx CP HS hbw
              simp only [ent]
              generalize hzj : z j2 = zj at c1 ⊢
              clear hzj
              go_wp2_with fail
              go_roundw
              case rel => exact ⟨i + 1, _, by omega, by go_num, .inr ⟨j2, rfl, hj2, unhide HLE2⟩, unhide HN2⟩
              case measure => simp [intOf]; omega
            · go_wp2_with fail
              refine (unhide CP).mono ?_
              rintro e w4 ⟨x, hx, rfl, hle, L4⟩
              obtain ⟨j2, hj2, rfl⟩ := (unhide HS).2.1 x hx
              have HN2 : Hid ((without (ent z j2).key ms).length + (i + 1) = k ∧ (∀ x ∈ without (ent z j2).key ms, ∃ j, j < k ∧ x = ent z j) ∧ LiveI w.heap.size w p (without (ent z j2).key ms) k w4) :=
                ⟨by have h1 := length_without (unhide HS).2.2.once hx; have h2 := (unhide HS).1; omega, fun y hy => (unhide HS).2.1 y (mem_without.1 hy).1, L4⟩
              have HLE2 : Hid (∀ y ∈ without (ent z j2).key ms, le (fun x => x) (ent z j2) y) := fun y hy => hle y (mem_without.1 hy).1
              have hbw : b < w.heap.size := World.block_lt_of_cell? _ _ (unhide HC j2 (by have := unhide HNl; omega))
              have c1 : w4.cell? ⟨b, off + j2, none⟩ = some (.int .i64 (z j2)) := (L4.below.cell (by exact hbw)).trans (unhide HC j2 (by have := unhide HNl; omega))
              have c2 : w4.cell? ⟨b, off + j, none⟩ = some (.int .i64 (z j)) := (L4.below.cell (by exact hbw)).trans (unhide HC j (by have := unhide HNl; omega))
              have f1 : (j2 : Int) < (k : Int) := by omega
              have f2 : (j2 : Int) < (len : Int) := by have := unhide HNl; omega
              have f3 : (j : Int) < (len : Int) := by have := unhide HNl; omega
              have hlo := unhide HLE _ hx
              unfold le at hlo
              simp only [ent] at hlo
              simp only [ent]
              clear L4 hle hx CP HS hbw HLE
              generalize hzj : z j2 = zj at c1 hlo ⊢
              generalize hzl : z j = zl at c2 hlo ⊢
              clear hzj hzl
              rcases hlo with h1 | ⟨h1, h2⟩
              · have g1 : ¬ zj < zl := by omega
                have g2 : (zj == zl) = false := by simp; omega
                go_wp2_with fail
                go_roundw
                case rel => exact ⟨i + 1, _, by omega, by go_num, .inr ⟨j2, rfl, hj2, unhide HLE2⟩, unhide HN2⟩
                case measure => simp [intOf]; omega
              · subst h1
                have g3 : ¬ (j2 : Int) < (j : Int) := by omega
                go_wp2_with fail
                go_roundw
                case rel => exact ⟨i + 1, _, by omega, by go_num, .inr ⟨j2, rfl, hj2, unhide HLE2⟩, unhide HN2⟩
                case measure => simp [intOf]; omega
          · have hltz2 : ¬ (i : Int) < (k : Int) := by omega
            obtain rfl : ms = [] := List.eq_nil_of_length_eq_zero (by have := (unhide HS).1; omega)
            have CP := hide (popNoneLI (unhide HS).2.2)
            have HB := hide (unhide HS).2.2.below
            clear HS hlast
            go_wp2_with fail
            refine (unhide CP).mono ?_
            rintro e w' ⟨rfl, rfl⟩
            clear CP
            go_wp2_with fail
            go_ret
            exact ⟨rfl, unhide HB⟩
end Go.Proofs.Ytfhpabcjbjmcmaa
