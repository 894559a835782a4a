/- The walk of bramblelaw04.SlotsFull. -/
import Derived.Test.YtkdlhnfagghppaaLiveN
import Derived.Test.YtkdlhnfagghppaaAwake
import Derived.Deep.CutRange
namespace Go.Proofs.Ytkdlhnfagghppaa
open Go.RowKit Go.Maps

/-- The places behind c calls. -/
def psF (N : Nat) (x : Int) (c : Nat) : List (Int × Bool) := if c = 0 then [] else List.replicate (N - c) (0, false) ++ List.replicate c (x, true)

theorem psF_at {N : Nat} {x : Int} {c : Nat} (hc : 0 < c) (hN : c ≤ N) (j : Nat) : (psF N x c)[j]? = if j < N - c then some (0, false) else if j < N then some (x, true) else none := by
  unfold psF
  rw [if_neg (by omega), List.getElem?_append]
  simp only [List.length_replicate, List.getElem?_replicate]
  by_cases h1 : j < N - c
  · simp only [if_pos h1]
  · rw [if_neg h1, if_neg h1]
    by_cases h2 : j < N
    · rw [if_pos h2, if_pos (by omega)]
    · rw [if_neg h2, if_neg (by omega)]
theorem psF_length {N : Nat} {x : Int} {c : Nat} (hc : 0 < c) (hN : c ≤ N) : (psF N x c).length = N := by
  unfold psF
  rw [if_neg (by omega)]; simp; omega
theorem psF_zero (N : Nat) (x : Int) : psF N x 0 = [] := rfl
theorem psF_step {N : Nat} {x : Int} {c k : Nat} (hk : k + 1 + c = N) : (groN (psF N x c) (k + 1)).set k (x, true) = psF N x (c + 1) := by
  apply List.ext_getElem?
  intro j
  rw [psF_at (by omega) (by omega), List.getElem?_set]
  rcases Nat.eq_zero_or_pos c with h0 | h0
  · subst h0
    rw [psF_zero]
    unfold groN
    simp only [List.nil_append, List.length_nil, Nat.sub_zero, List.length_replicate, List.getElem?_replicate]
    by_cases h1 : k = j
    · rw [if_pos h1, if_pos (by omega), if_neg (by omega), if_pos (by omega)]
    · rw [if_neg h1]
      by_cases h2 : j < k
      · rw [if_pos (by omega), if_pos (by omega)]
      · rw [if_neg (by omega), if_neg (by omega), if_neg (by omega)]
  · rw [groN_in (by rw [psF_length h0 (by omega)]; omega), psF_length h0 (by omega), psF_at h0 (by omega)]
    by_cases h1 : k = j
    · rw [if_pos h1, if_pos (by omega), if_neg (by omega), if_pos (by omega)]
    · rw [if_neg h1]
      by_cases h2 : j < k
      · rw [if_pos (by omega), if_pos (by omega)]
      · rw [if_neg (show ¬ j < N - c by omega), if_neg (show ¬ j < N - (c + 1) by omega)]
theorem psF_not {N : Nat} {x : Int} {c k : Nat} (hk : k + 1 + c = N) : ∀ a, (psF N x c)[k]? ≠ some (a, true) := fun a => by
  rcases Nat.eq_zero_or_pos c with h0 | h0
  · subst h0; rw [psF_zero]; simp
  · rw [psF_at h0 (by omega), if_pos (by omega)]; simp
theorem psF_put {N : Nat} {x : Int} {c k : Nat} (hk : k + 1 + c = N) : (psF N x (c + 1))[k]? = some (x, true) := by
  rw [psF_at (by omega) (by omega), if_neg (by omega), if_pos (by omega)]
theorem psF_free {N : Nat} {x : Int} {c k : Nat} (hk : k + 1 + c = N) {r : Int} (h : FreeIs (psF N x c) N r) : r = 1 := by
  rcases Nat.eq_zero_or_pos c with h0 | h0
  · subst h0; rw [psF_zero] at h
    exact free_end (full_zero _) (by simp; omega) h
  · exact free_at (i := 0) (a := 0) (by rw [psF_at h0 (by omega), if_pos (by omega)]) (full_zero _) h
theorem psF_full {N : Nat} {x : Int} : Full (psF N x N) (psF N x N).length := fun j hj => by
  rcases Nat.eq_zero_or_pos N with h0 | h0
  · subst h0; simp [psF_zero] at hj
  · rw [psF_length h0 (Nat.le_refl _)] at hj
    exact ⟨x, by rw [psF_at h0 (Nat.le_refl _), if_neg (by omega), if_pos hj]⟩
theorem psF_len {N : Nat} {x : Int} : (psF N x N).length = N := by
  rcases Nat.eq_zero_or_pos N with h0 | h0
  · subst h0; rfl
  · exact psF_length h0 (Nat.le_refl _)
theorem psF_tk {N : Nat} {x : Int} : tk (psF N x N) = N := by
  rcases Nat.eq_zero_or_pos N with h0 | h0
  · subst h0; rfl
  · unfold psF tk
    rw [if_neg (by omega)]
    simp [List.countP_replicate]

section
variable [Inhabited EntI] {B : Nat} {w0 w : World} {t n N : Nat} {x : Int}
theorem fuFree {c k : Nat} (hk : k + 1 + c = N) (h : LiveN B w0 t N (psF N x c) n w) : Calls Try.prog 16 #[.pointer (some ⟨t, 0, none⟩)] w fun e w' => e = .returned (.int .i64 1) ∧ Hid (LiveN B w0 t N (psF N x c) n w') :=
  (freeLN h).mono fun _ _ ⟨r, he, hr, q, hq⟩ => ⟨by rw [he, psF_free hk hr], by rw [hq]; exact h.draw q⟩
theorem fuPut {c k : Nat} (hk : k + 1 + c = N) (hn : n ≤ c * 65536) (hN : N ≤ 206) (h : LiveN B w0 t N (psF N x c) n w) : Calls Try.prog 17 #[.pointer (some ⟨t, 0, none⟩), .int .i64 ((k : Int) + 1), .int .i64 x] w fun e w' => e = .returned (.bool true) ∧ Hid (∃ n', n' ≤ (c + 1) * 65536 ∧ LiveN B w0 t N (psF N x (c + 1)) n' w') :=
  (putAtYesLN k x h (by omega) (psF_not hk) (by omega)).mono fun e w' ⟨he, hh⟩ => ⟨he, by
    obtain ⟨n', h1, h2⟩ := hh.out
    rw [psF_step hk] at h2
    exact ⟨n', by omega, h2⟩⟩
theorem fuNot {c k : Nat} (hk : k + 1 + c = N) (h : LiveN B w0 t N (psF N x (c + 1)) n w) : Calls Try.prog 17 #[.pointer (some ⟨t, 0, none⟩), .int .i64 ((k : Int) + 1), .int .i64 x] w fun e w' => e = .returned (.bool false) ∧ w' = w :=
  putAtNoLN _ x h (.inr (.inr ⟨k, x, rfl, psF_put hk⟩))
theorem fuLast (h : LiveN B w0 t N (psF N x N) n w) : Calls Try.prog 13 #[.pointer (some ⟨t, 0, none⟩), .int .i64 x] w fun e w' => e = .returned (.tuple #[.int .i64 0, .bool false]) ∧ Hid (LiveN B w0 t N (psF N x N) n w') :=
  (putNoLN x h (fun r hr => free_zero psF_full (by rw [psF_len]) hr)).mono fun _ _ ⟨he, q, hq⟩ => ⟨he, by rw [hq]; exact h.draw q⟩
theorem fuFree0 (h : LiveN B w0 t N (psF N x N) n w) : Calls Try.prog 16 #[.pointer (some ⟨t, 0, none⟩)] w fun e w' => e = .returned (.int .i64 0) ∧ Hid (LiveN B w0 t N (psF N x N) n w') :=
  (freeLN h).mono fun _ _ ⟨r, he, hr, q, hq⟩ => ⟨by rw [he, free_zero psF_full (by rw [psF_len]) hr], by rw [hq]; exact h.draw q⟩
theorem fuLen (h : LiveN B w0 t N (psF N x N) n w) : Calls Try.prog 11 #[.pointer (some ⟨t, 0, none⟩)] w fun e w' => e = .returned (.int .i64 N) ∧ Hid (LiveN B w0 t N (psF N x N) n w') :=
  (lenLN h).mono fun _ _ ⟨he, q, hq⟩ => ⟨by rw [he, psF_tk], by rw [hq]; exact h.draw q⟩
end

set_option maxHeartbeats 2000000 in
set_option maxRecDepth 100000 in
theorem full_any [Inhabited EntI] (m x : Int) (w : World) (hm : m ≤ 9223372036854775807) :
    Calls Try.prog 5 #[.int .i64 m, .int .i64 x] w fun e w' => e = .returned (.bool true) ∧ Below w.heap.size w w' := by
  go_enter Try.func5, Try.ntmps5
  by_cases h1 : 200 < m
  · have h7 : (m - 200).tmod 7 = (m - 200) % 7 := Int.tmod_eq_emod_of_nonneg (by omega)
    go_upto_region 3 with fail
    have hM : 200 + (m - 200) % 7 ≤ 206 := by omega
    generalize 200 + (m - 200) % 7 = M at *
    clear h7 h1 hm
    obtain ⟨N, hN⟩ : ∃ N : Nat, N = M.toNat := ⟨_, rfl⟩
    have hcl : clamp M = (N : Int) := by unfold clamp; omega
    have CN := newLN M w
    rw [hcl] at CN
    have HCN := hide CN
    have HNM := hide hN
    have hN2 : N ≤ 206 := by omega
    clear CN hcl hN
    go_wp2_with fail
    refine (unhide HCN).mono ?_
    rintro e w1 ⟨t, rfl, L1⟩
    have HL1 := hide L1
    clear HCN L1
    go_wp2_with fail
    refine (awake_any w1).mono ?_
    rintro e w2 ⟨rfl, hb2⟩
    have HL2 := hide ((unhide HL1).step hb2)
    clear HL1 hb2
    go_upto_region 6 with fail
    go_cut [6] from 26 (fun s6 wz => s6 = .int .i64 N ∧ wz = w2)
    case first =>
      rcases Int.lt_trichotomy M 0 with h | h | h
      · have h0 : N = 0 := by have := unhide HNM; omega
        go_wp2_with fail
        go_meet
        case rel => exact ⟨by rw [h0]; rfl, rfl⟩
      · have h0 : N = 0 := by have := unhide HNM; omega
        subst h
        go_wp2_with fail
        go_meet
        case rel => exact ⟨by rw [h0]; rfl, rfl⟩
      · have h0 : M = (N : Int) := by have := unhide HNM; omega
        go_wp2_with fail
        go_meet
        case rel => exact ⟨rfl, rfl⟩
    case rest =>
      obtain ⟨rfl, rfl⟩ := hcut
      clear HNM hM
      go_wp2_with fail
      go_loopw [7] (fun s7 wr => ∃ (q : Int) (c n : Nat), s7 = .int .i64 q ∧ 0 ≤ q ∧ q ≤ 206 ∧ Hid (q + c = N ∧ n ≤ c * 65536 ∧ LiveN w.heap.size w t N (psF N x c) n wr)) (fun s7 _ => (intOf s7).toNat)
      case atStart => exact ⟨N, 0, 0, rfl, by omega, by omega, by simp, by omega, unhide HL2⟩
      case round =>
        obtain ⟨q, c, n, rfl, hq0, hq1, hh⟩ := hrel
        by_cases hq : 1 ≤ q
        · obtain ⟨k, rfl⟩ : ∃ k : Nat, q = (k : Int) + 1 := ⟨(q - 1).toNat, by omega⟩
          obtain ⟨h1, h2, L⟩ := unhide hh
          have hk : k + 1 + c = N := by omega
          have HK := hide hk
          have C1 := hide (fuFree hk L)
          have H2 := hide h2
          clear hh h1 h2 L hk
          go_wp2_with fail
          refine (unhide C1).mono ?_
          rintro e w3 ⟨rfl, L3⟩
          have C2 := hide (fuPut (unhide HK) (unhide H2) hN2 (unhide L3))
          clear C1 L3
          go_wp2_with fail
          refine (unhide C2).mono ?_
          rintro e w4 ⟨rfl, h4⟩
          obtain ⟨n4, l4, L4⟩ := unhide h4
          have C3 := hide (fuNot (unhide HK) L4)
          have HL4 := hide L4
          have Hl4 := hide l4
          clear C2 h4 L4 l4
          go_wp2_with fail
          refine (unhide C3).mono ?_
          rintro e w5 ⟨rfl, rfl⟩
          clear C3
          go_wp2_with fail
          go_roundw
          case rel => exact ⟨(k : Int), c + 1, n4, by go_num, by omega, by omega, by have := unhide HK; omega, unhide Hl4, unhide HL4⟩
          case measure => simp [intOf]
        · obtain rfl : q = 0 := by omega
          obtain ⟨h1, h2, L⟩ := unhide hh
          obtain rfl : c = N := by omega
          have C1 := hide (fuLast L)
          clear hh h1 h2 L hq
          go_wp2_with fail
          refine (unhide C1).mono ?_
          rintro e w3 ⟨rfl, L3⟩
          have C2 := hide (fuFree0 (unhide L3))
          clear C1 L3
          go_wp2_with fail
          refine (unhide C2).mono ?_
          rintro e w4 ⟨rfl, L4⟩
          have C3 := hide (fuLen (unhide L4))
          clear C2 L4
          go_wp2_with fail
          refine (unhide C3).mono ?_
          rintro e w5 ⟨rfl, L5⟩
          have C4 := hide (putAtNoLN ((c : Int) + 1) x (unhide L5) (.inr (.inl (by omega))))
          have C5 := hide (putAtNoLN 0 x (unhide L5) (.inl (by omega)))
          have HB := hide (unhide L5).below
          clear C3 L5
          go_wp2_with fail
          refine (unhide C4).mono ?_
          rintro e w6 ⟨rfl, rfl⟩
          clear C4
          go_wp2_with fail
          refine (unhide C5).mono ?_
          rintro e w7 ⟨rfl, rfl⟩
          clear C5
          go_wp2_with fail
          go_ret
          exact ⟨rfl, unhide HB⟩

  · go_upto_region 3 with fail
    have hM : m ≤ 206 := by omega
    generalize m = M at *
    clear h1 hm
    obtain ⟨N, hN⟩ : ∃ N : Nat, N = M.toNat := ⟨_, rfl⟩
    have hcl : clamp M = (N : Int) := by unfold clamp; omega
    have CN := newLN M w
    rw [hcl] at CN
    have HCN := hide CN
    have HNM := hide hN
    have hN2 : N ≤ 206 := by omega
    clear CN hcl hN
    go_wp2_with fail
    refine (unhide HCN).mono ?_
    rintro e w1 ⟨t, rfl, L1⟩
    have HL1 := hide L1
    clear HCN L1
    go_wp2_with fail
    refine (awake_any w1).mono ?_
    rintro e w2 ⟨rfl, hb2⟩
    have HL2 := hide ((unhide HL1).step hb2)
    clear HL1 hb2
    go_upto_region 6 with fail
    go_cut [6] from 26 (fun s6 wz => s6 = .int .i64 N ∧ wz = w2)
    case first =>
      rcases Int.lt_trichotomy M 0 with h | h | h
      · have h0 : N = 0 := by have := unhide HNM; omega
        go_wp2_with fail
        go_meet
        case rel => exact ⟨by rw [h0]; rfl, rfl⟩
      · have h0 : N = 0 := by have := unhide HNM; omega
        subst h
        go_wp2_with fail
        go_meet
        case rel => exact ⟨by rw [h0]; rfl, rfl⟩
      · have h0 : M = (N : Int) := by have := unhide HNM; omega
        go_wp2_with fail
        go_meet
        case rel => exact ⟨rfl, rfl⟩
    case rest =>
      obtain ⟨rfl, rfl⟩ := hcut
      clear HNM hM
      go_wp2_with fail
      go_loopw [7] (fun s7 wr => ∃ (q : Int) (c n : Nat), s7 = .int .i64 q ∧ 0 ≤ q ∧ q ≤ 206 ∧ Hid (q + c = N ∧ n ≤ c * 65536 ∧ LiveN w.heap.size w t N (psF N x c) n wr)) (fun s7 _ => (intOf s7).toNat)
      case atStart => exact ⟨N, 0, 0, rfl, by omega, by omega, by simp, by omega, unhide HL2⟩
      case round =>
        obtain ⟨q, c, n, rfl, hq0, hq1, hh⟩ := hrel
        by_cases hq : 1 ≤ q
        · obtain ⟨k, rfl⟩ : ∃ k : Nat, q = (k : Int) + 1 := ⟨(q - 1).toNat, by omega⟩
          obtain ⟨h1, h2, L⟩ := unhide hh
          have hk : k + 1 + c = N := by omega
          have HK := hide hk
          have C1 := hide (fuFree hk L)
          have H2 := hide h2
          clear hh h1 h2 L hk
          go_wp2_with fail
          refine (unhide C1).mono ?_
          rintro e w3 ⟨rfl, L3⟩
          have C2 := hide (fuPut (unhide HK) (unhide H2) hN2 (unhide L3))
          clear C1 L3
          go_wp2_with fail
          refine (unhide C2).mono ?_
          rintro e w4 ⟨rfl, h4⟩
          obtain ⟨n4, l4, L4⟩ := unhide h4
          have C3 := hide (fuNot (unhide HK) L4)
          have HL4 := hide L4
          have Hl4 := hide l4
          clear C2 h4 L4 l4
          go_wp2_with fail
          refine (unhide C3).mono ?_
          rintro e w5 ⟨rfl, rfl⟩
          clear C3
          go_wp2_with fail
          go_roundw
          case rel => exact ⟨(k : Int), c + 1, n4, by go_num, by omega, by omega, by have := unhide HK; omega, unhide Hl4, unhide HL4⟩
          case measure => simp [intOf]
        · obtain rfl : q = 0 := by omega
          obtain ⟨h1, h2, L⟩ := unhide hh
          obtain rfl : c = N := by omega
          have C1 := hide (fuLast L)
          clear hh h1 h2 L hq
          go_wp2_with fail
          refine (unhide C1).mono ?_
          rintro e w3 ⟨rfl, L3⟩
          have C2 := hide (fuFree0 (unhide L3))
          clear C1 L3
          go_wp2_with fail
          refine (unhide C2).mono ?_
          rintro e w4 ⟨rfl, L4⟩
          have C3 := hide (fuLen (unhide L4))
          clear C2 L4
          go_wp2_with fail
          refine (unhide C3).mono ?_
          rintro e w5 ⟨rfl, L5⟩
          have C4 := hide (putAtNoLN ((c : Int) + 1) x (unhide L5) (.inr (.inl (by omega))))
          have C5 := hide (putAtNoLN 0 x (unhide L5) (.inl (by omega)))
          have HB := hide (unhide L5).below
          clear C3 L5
          go_wp2_with fail
          refine (unhide C4).mono ?_
          rintro e w6 ⟨rfl, rfl⟩
          clear C4
          go_wp2_with fail
          refine (unhide C5).mono ?_
          rintro e w7 ⟨rfl, rfl⟩
          clear C5
          go_wp2_with fail
          go_ret
          exact ⟨rfl, unhide HB⟩

end Go.Proofs.Ytkdlhnfagghppaa
