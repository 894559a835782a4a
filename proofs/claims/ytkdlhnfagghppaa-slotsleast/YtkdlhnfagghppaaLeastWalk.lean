/- The walk of bramblelaw04.SlotsLeast. -/
import Derived.Test.YtkdlhnfagghppaaLiveN
import Derived.Test.YtkdlhnfagghppaaAwake
import Derived.Deep.CutRange
namespace Go.Proofs.Ytkdlhnfagghppaa
open Go.RowKit Go.Maps

/-- The places behind k Puts. -/
def psL (k : Nat) : List (Int × Bool) := (List.range k).map fun j : Nat => ((100 : Int) + ((j : Int) + 1), true)
theorem psL_length (k : Nat) : (psL k).length = k := by simp [psL]
theorem psL_at {k j : Nat} (h : j < k) : (psL k)[j]? = some ((100 : Int) + ((j : Int) + 1), true) := by
  unfold psL
  rw [List.getElem?_map, List.getElem?_range h]; rfl
theorem psL_out {k j : Nat} (h : k ≤ j) : (psL k)[j]? = none := by
  rw [List.getElem?_eq_none_iff, psL_length]; exact h
theorem psL_full (k : Nat) : Full (psL k) (psL k).length := fun j hj => by
  rw [psL_length] at hj
  exact ⟨_, psL_at hj⟩
theorem psL_succ (k : Nat) : (groN (psL k) (k + 1)).set k ((100 : Int) + ((k : Int) + 1), true) = psL (k + 1) := by
  have h := groN_end (psL k)
  rw [psL_length] at h
  rw [h, List.set_append_right _ _ (by rw [psL_length]; exact Nat.le_refl _), psL_length]
  simp [psL, List.range_succ]
theorem psL_tk (k : Nat) : tk (psL k) = k := by
  unfold tk psL
  rw [List.countP_map]
  simp [Function.comp_def]

/-- One place is free. -/
def psM (k i : Nat) : List (Int × Bool) := (psL k).set i (0, false)
theorem psM_i {k i : Nat} (h : i < k) : (psM k i)[i]? = some (0, false) := List.getElem?_set_self (by rw [psL_length]; exact h)
theorem psM_not {k i : Nat} (h : i < k) : ∀ a, (psM k i)[i]? ≠ some (a, true) := fun a => by rw [psM_i h]; simp
theorem psM_below {k i : Nat} (h : i < k) : Full (psM k i) i := fun j hj => ⟨_, by unfold psM; rw [List.getElem?_set_ne (by omega)]; exact psL_at (by omega)⟩
theorem psM_back {k i : Nat} (h : i < k) : (groN (psM k i) (i + 1)).set i ((100 : Int) + ((i : Int) + 1), true) = psL k := by
  rw [groN_in (by unfold psM; rw [List.length_set, psL_length]; omega)]
  unfold psM
  rw [List.set_set]
  apply List.ext_getElem?
  intro j
  by_cases e : i = j
  · subst e
    rw [List.getElem?_set_self (by rw [psL_length]; exact h), psL_at h]
  · rw [List.getElem?_set_ne e]
theorem psM_tk {k i : Nat} (h : i < k) : tk (psM k i) = k - 1 := by
  have := tk_set (psL k) i _ 0 true false (psL_at h)
  rw [psL_tk] at this
  simp at this
  unfold psM
  omega

/-- So many keys were pushed at most. -/
def nb (c : Nat) : Nat := 3276800 + 131072 * c
theorem nb_zero {n k : Nat} (h : n ≤ k * 65536) (hk : k ≤ 50) : n ≤ nb 0 := by unfold nb; omega
theorem nb_succ (c : Nat) : nb (c + 1) = nb c + 131072 := by unfold nb; rw [Nat.mul_succ, Nat.add_assoc]
theorem nb_same {n c : Nat} (h : n ≤ nb c) : n ≤ nb (c + 1) := by rw [nb_succ]; omega
theorem nb_step {n n3 n7 c : Nat} (h : n ≤ nb c) (h3 : n3 ≤ n + 65536) (h7 : n7 ≤ n3 + 65536) : n7 ≤ nb (c + 1) := by rw [nb_succ]; omega
theorem nb_le {n c : Nat} (h : n ≤ nb c) (hc : c ≤ 120) : n ≤ 50000000 := by unfold nb at h; omega

section
variable [Inhabited EntI] {B : Nat} {w0 w : World} {t n : Nat} {most : Int}
theorem lePut {k : Nat} (hk : (k : Int) < most) (hn : n ≤ 100000000) (h : LiveN B w0 t most (psL k) n w) : Calls Try.prog 13 #[.pointer (some ⟨t, 0, none⟩), .int .i64 (100 + ((k : Int) + 1))] w fun e w' => e = .returned (.tuple #[.int .i64 ((k : Int) + 1), .bool true]) ∧ Hid (∃ n', n' ≤ n + 65536 ∧ LiveN B w0 t most (psL (k + 1)) n' w') :=
  (putYesLN k (100 + ((k : Int) + 1)) h (fun r hr => by have := free_end (psL_full k) (by rw [psL_length]; omega) hr; rw [psL_length] at this; exact this) hk (fun a => by rw [psL_out (Nat.le_refl _)]; simp) (by omega)).mono fun e w' ⟨he, hh⟩ => ⟨he, by
    obtain ⟨n', h1, h2⟩ := hh.out
    rw [psL_succ] at h2
    exact ⟨n', h1, h2⟩⟩
theorem leDrop {k i : Nat} (hi : i < k) (hn : n ≤ 100000000) (h : LiveN B w0 t most (psL k) n w) : Calls Try.prog 14 #[.pointer (some ⟨t, 0, none⟩), .int .i64 ((i : Int) + 1)] w fun e w' => e = .returned (.tuple #[.int .i64 (100 + ((i : Int) + 1)), .bool true]) ∧ Hid (∃ n', n' ≤ n + 65536 ∧ LiveN B w0 t most (psM k i) n' w') :=
  dropYesLN i h (psL_at hi) (by omega)
theorem leDropNo {k : Nat} (j : Int) (hj : j < 1 ∨ (k : Int) < j) (h : LiveN B w0 t most (psL k) n w) : Calls Try.prog 14 #[.pointer (some ⟨t, 0, none⟩), .int .i64 j] w fun e w' => e = .returned (.tuple #[.int .i64 0, .bool false]) ∧ w' = w :=
  dropNoLN j h (fun i a e g => by
    have := lt_of_at g
    rw [psL_length] at this
    omega)
theorem leAt {k i : Nat} (hi : i < k) (h : LiveN B w0 t most (psM k i) n w) : Calls Try.prog 15 #[.pointer (some ⟨t, 0, none⟩), .int .i64 ((i : Int) + 1)] w fun e w' => e = .returned (.tuple #[.int .i64 0, .bool false]) ∧ w' = w :=
  atNoLN _ h (fun j a e => by
    obtain rfl : j = i := by omega
    exact psM_not hi a)
theorem leFree {k i : Nat} (hi : i < k) (h : LiveN B w0 t most (psM k i) n w) : Calls Try.prog 16 #[.pointer (some ⟨t, 0, none⟩)] w fun e w' => e = .returned (.int .i64 ((i : Int) + 1)) ∧ Hid (LiveN B w0 t most (psM k i) n w') :=
  (freeLN h).mono fun _ _ ⟨r, he, hr, q, hq⟩ => ⟨by rw [he, free_at (psM_i hi) (psM_below hi) hr], by rw [hq]; exact h.draw q⟩
theorem leLenM {k i : Nat} (hi : i < k) (h : LiveN B w0 t most (psM k i) n w) : Calls Try.prog 11 #[.pointer (some ⟨t, 0, none⟩)] w fun e w' => e = .returned (.int .i64 ((k : Int) - 1)) ∧ Hid (LiveN B w0 t most (psM k i) n w') :=
  (lenLN h).mono fun _ _ ⟨he, q, hq⟩ => ⟨by rw [he, psM_tk hi, show ((k - 1 : Nat) : Int) = (k : Int) - 1 by omega], by rw [hq]; exact h.draw q⟩
theorem leLen {k : Nat} (h : LiveN B w0 t most (psL k) n w) : Calls Try.prog 11 #[.pointer (some ⟨t, 0, none⟩)] w fun e w' => e = .returned (.int .i64 k) ∧ Hid (LiveN B w0 t most (psL k) n w') :=
  (lenLN h).mono fun _ _ ⟨he, q, hq⟩ => ⟨by rw [he, psL_tk], by rw [hq]; exact h.draw q⟩
theorem leBack {k i : Nat} (hi : i < k) (hkm : (k : Int) ≤ most) (hn : n ≤ 100000000) (h : LiveN B w0 t most (psM k i) n w) : Calls Try.prog 13 #[.pointer (some ⟨t, 0, none⟩), .int .i64 (100 + ((i : Int) + 1))] w fun e w' => e = .returned (.tuple #[.int .i64 ((i : Int) + 1), .bool true]) ∧ Hid (∃ n', n' ≤ n + 65536 ∧ LiveN B w0 t most (psL k) n' w') :=
  (putYesLN i (100 + ((i : Int) + 1)) h (fun r hr => free_at (psM_i hi) (psM_below hi) hr) (by omega) (psM_not hi) (by omega)).mono fun e w' ⟨he, hh⟩ => ⟨he, by
    obtain ⟨n', h1, h2⟩ := hh.out
    rw [psM_back hi] at h2
    exact ⟨n', h1, h2⟩⟩
end

set_option maxHeartbeats 2000000 in
set_option maxRecDepth 100000 in
theorem least_any [Inhabited EntI] (m : Int) (a : Option Addr) (b off len cap : Nat) (z : Nat → Int) (w : World) (HC : Hid (∀ i, i < len → a = some ⟨b, off, none⟩ ∧ w.cell? ⟨b, off + i, none⟩ = some (.int .i64 (z i)))) :
    Calls Try.prog 4 #[.int .i64 m, .slice a len cap] w fun e w' => e = .returned (.bool true) ∧ Below w.heap.size w w' := by
  obtain ⟨M, hM⟩ : ∃ M : Nat, M = (min (max m 0) 50).toNat := ⟨_, rfl⟩
  have hcl : (M : Int) ≤ clamp m := by unfold clamp; omega
  have HCL := hide hcl
  have HM := hide hM
  have hM5 : M ≤ 50 := by omega
  clear hcl hM
  go_enter Try.func4, Try.ntmps4
  go_wp2_with fail
  refine (newLN m w).mono ?_
  rintro e w1 ⟨t, rfl, L1⟩
  have HL1 := hide L1
  clear L1
  go_wp2_with fail
  refine (awake_any w1).mono ?_
  rintro e w2 ⟨rfl, hb2⟩
  have HL2 := hide ((unhide HL1).step hb2)
  clear HL1 hb2
  go_upto_region 4 with fail
  go_cut [0] from 28 (fun s0 wz => s0 = .int .i64 M ∧ wz = w2)
  case first =>
    rcases Int.lt_trichotomy m 0 with h | h | h
    · have h0 : M = 0 := by have := unhide HM; omega
      go_wp2_with fail
      go_meet
      case rel => exact ⟨by rw [h0]; rfl, rfl⟩
    · have h0 : M = 0 := by have := unhide HM; omega
      subst h
      go_wp2_with fail
      go_meet
      case rel => exact ⟨by rw [h0]; rfl, rfl⟩
    · rcases Int.lt_trichotomy m 50 with h5 | h5 | h5
      · have h0 : m = (M : Int) := by have := unhide HM; omega
        go_wp2_with fail
        go_meet
        case rel => exact ⟨rfl, rfl⟩
      · have h0 : M = 50 := by have := unhide HM; omega
        subst h5
        go_wp2_with fail
        go_meet
        case rel => exact ⟨by rw [h0]; rfl, rfl⟩
      · have h0 : M = 50 := by have := unhide HM; omega
        go_wp2_with fail
        go_meet
        case rel => exact ⟨by rw [h0]; rfl, rfl⟩
  case rest =>
    obtain ⟨rfl, rfl⟩ := hcut
    clear HM
    have HM5 := hide hM5
    clear hM5
    generalize clamp m = most at *
    go_wp2_with fail
    go_loopw [6] (fun s6 wr => ∃ (k n : Nat), s6 = .int .i64 ((k : Int) + 1) ∧ k ≤ M ∧ Hid (n ≤ k * 65536 ∧ LiveN w.heap.size w t most (psL k) n wr)) (fun s6 _ => M + 1 - (intOf s6).toNat)
    case atStart => exact ⟨0, 0, rfl, Nat.zero_le _, by omega, unhide HL2⟩
    case round =>
      obtain ⟨k, n, rfl, hk, hh⟩ := hrel
      by_cases hlt : k < M
      · have hz : (k : Int) + 1 ≤ (M : Int) := by omega
        have hk5 : (k : Int) < 50 := by have := unhide HM5; omega
        have C1 := hide (lePut (by have := unhide HCL; omega) (by have := (unhide hh).1; have := unhide HM5; omega) (unhide hh).2)
        have HN := hide (unhide hh).1
        clear hh
        go_wp2_with fail
        refine (unhide C1).mono ?_
        rintro e w3 ⟨rfl, h3⟩
        clear C1
        go_wp2_with fail
        go_roundw
        case rel =>
          obtain ⟨n', l1, l2⟩ := unhide h3
          have := unhide HN
          exact ⟨k + 1, n', by go_num, by omega, by omega, l2⟩
        case measure => simp [intOf]; omega
      · obtain rfl : k = M := by omega
        have HL := hh
        clear hh hlt hk
        go_wp2_with fail
        go_loopw [9] (fun s9 wr => ∃ (c n : Nat), s9 = .int .i64 c ∧ c ≤ len ∧ c ≤ 120 ∧ Hid (n ≤ nb c ∧ LiveN w.heap.size w t most (psL k) n wr)) (fun s9 _ => 120 - (intOf s9).toNat)
        case atStart => exact ⟨0, n, rfl, Nat.zero_le _, by omega, nb_zero (unhide HL).1 (unhide HM5), (unhide HL).2⟩
        case round =>
          obtain ⟨c, n, rfl, hc, hc2, hh⟩ := hrel
          by_cases hlt : c < len ∧ c < 120
          · obtain ⟨h1, h2⟩ := hlt
            have h1z : (c : Int) < (len : Int) := by omega
            have h2z : (c : Int) < 120 := by omega
            obtain ⟨ea, ca⟩ := unhide HC c h1
            subst ea
            have hbw : b < w.heap.size := World.block_lt_of_cell? _ _ ca
            obtain ⟨hnn, L⟩ := unhide hh
            have d1 := (L.below.cell (p := ⟨b, off + c, none⟩) (by exact hbw)).trans ca
            have HN := hide hnn
            generalize z c = j at *
            by_cases hj : 1 ≤ j ∧ j ≤ (k : Int)
            · obtain ⟨hj1, hj2⟩ := hj
              obtain ⟨i, rfl⟩ : ∃ i : Nat, j = (i : Int) + 1 := ⟨(j - 1).toNat, by omega⟩
              have hik : i < k := by omega
              have hi5 : (i : Int) < 50 := by have := unhide HM5; omega
              have hk5 : (k : Int) ≤ 50 := by have := unhide HM5; omega
              have HIK := hide hik
              have C1 := hide (leDrop hik (Nat.le_trans (nb_le hnn hc2) (by omega)) L)
              clear hh L ca hbw hnn hik
              go_wp2_with fail
              refine (unhide C1).mono ?_
              rintro e w3 ⟨rfl, h3⟩
              obtain ⟨n3, l3, L3⟩ := unhide h3
              have HN3 := hide l3
              have C2 := hide (leAt (unhide HIK) L3)
              have C3 := hide (leFree (unhide HIK) L3)
              clear C1 h3 l3 L3
              go_wp2_with fail
              refine (unhide C2).mono ?_
              rintro e w4 ⟨rfl, rfl⟩
              clear C2
              go_wp2_with fail
              refine (unhide C3).mono ?_
              rintro e w5 ⟨rfl, L5⟩
              have C4 := hide (leLenM (unhide HIK) (unhide L5))
              clear C3 L5
              go_wp2_with fail
              refine (unhide C4).mono ?_
              rintro e w6 ⟨rfl, L6⟩
              have C5 := hide (leBack (unhide HIK) (unhide HCL) (by have := nb_le (unhide HN) hc2; have := unhide HN3; omega) (unhide L6))
              clear C4 L6
              go_wp2_with fail
              refine (unhide C5).mono ?_
              rintro e w7 ⟨rfl, h7⟩
              obtain ⟨n7, l7, L7⟩ := unhide h7
              have HN7 := hide l7
              have C6 := hide (leLen L7)
              clear C5 h7 l7 L7
              go_wp2_with fail
              refine (unhide C6).mono ?_
              rintro e w8 ⟨rfl, L8⟩
              clear C6
              go_wp2_with fail
              go_roundw
              case rel => exact ⟨c + 1, n7, by go_num, by omega, by omega, nb_step (unhide HN) (unhide HN3) (unhide HN7), unhide L8⟩
              case measure => simp [intOf]; omega
            · have C1 := hide (leDropNo j (by omega) L)
              have HL3 := hide L
              clear hh L ca hbw hnn
              by_cases hj1 : 1 ≤ j
              · have hj2 : ¬ j ≤ (k : Int) := fun e => hj ⟨hj1, e⟩
                clear hj
                go_wp2_with fail
                refine (unhide C1).mono ?_
                rintro e w3 ⟨rfl, rfl⟩
                clear C1
                go_wp2_with fail
                go_roundw
                case rel => exact ⟨c + 1, n, by go_num, by omega, by omega, nb_same (unhide HN), unhide HL3⟩
                case measure => simp [intOf]; omega
              · clear hj
                go_wp2_with fail
                refine (unhide C1).mono ?_
                rintro e w3 ⟨rfl, rfl⟩
                clear C1
                go_wp2_with fail
                go_roundw
                case rel => exact ⟨c + 1, n, by go_num, by omega, by omega, nb_same (unhide HN), unhide HL3⟩
                case measure => simp [intOf]; omega
          · have C1 := hide (leLen (unhide hh).2)
            clear hh
            rcases (by omega : c = len ∨ (c < len ∧ c = 120)) with rfl | ⟨h1, rfl⟩
            all_goals
              clear hlt
              go_wp2_with fail
              refine (unhide C1).mono ?_
              rintro e w3 ⟨rfl, L3⟩
              have HB := hide (unhide L3).below
              clear C1 L3
              go_wp2_with fail
              go_ret
              exact ⟨rfl, unhide HB⟩
end Go.Proofs.Ytkdlhnfagghppaa
