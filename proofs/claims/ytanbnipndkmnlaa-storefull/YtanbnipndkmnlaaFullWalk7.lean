/- StoreFull's walk. -/
import Derived.Test.YtanbnipndkmnlaaFullMath7
namespace Go.Proofs.Ytanbnipndkmnlaa
open Go.RowKit Go.Maps

set_option maxHeartbeats 2000000 in
set_option maxRecDepth 100000 in
theorem full_out [Inhabited EntI] (fr lp : Int) (w : World) (hfr : fr < 0 ∨ 2147483347 < fr) : Calls Try.prog 3 #[.int .i64 fr, .int .i64 lp] w fun e w' => e = .returned (.bool true) ∧ Below w.heap.size w w' := by
  have CN := hide (newL w)
  by_cases h1 : fr < 0
  · clear hfr
    go_enter Try.func3, Try.ntmps3
    go_wp2_with fail
    refine (unhide CN).mono ?_
    rintro e w1 ⟨s, rfl, h2⟩
    have CA := hide (awakeS w1)
    clear CN
    go_wp2_with fail
    refine (unhide CA).mono ?_
    rintro e w2 ⟨rfl, hb2⟩
    have CA2 := hide (awakeS w2)
    have HB := hide hb2
    clear CA hb2
    go_wp2_with fail
    refine (unhide CA2).mono ?_
    rintro e w3 ⟨rfl, hb3⟩
    have HF := hide (((unhide h2).step (unhide HB)).step hb3).below
    clear CA2 hb3 HB h2
    go_wp2_with fail
    go_ret
    exact ⟨rfl, unhide HF⟩
  · have h3 : 2147483347 < fr := hfr.resolve_left h1
    clear hfr
    go_enter Try.func3, Try.ntmps3
    go_wp2_with fail
    refine (unhide CN).mono ?_
    rintro e w1 ⟨s, rfl, h2⟩
    have CA := hide (awakeS w1)
    clear CN
    go_wp2_with fail
    refine (unhide CA).mono ?_
    rintro e w2 ⟨rfl, hb2⟩
    have CA2 := hide (awakeS w2)
    have HB := hide hb2
    clear CA hb2
    go_wp2_with fail
    refine (unhide CA2).mono ?_
    rintro e w3 ⟨rfl, hb3⟩
    have HF := hide (((unhide h2).step (unhide HB)).step hb3).below
    clear CA2 hb3 HB h2
    go_wp2_with fail
    go_ret
    exact ⟨rfl, unhide HF⟩

theorem loop_of (lp : Int) : ∃ l : Nat, wrap64 ((IntKind.u64.wrap lp).tmod 256) = (l : Int) ∧ l < 256 := by
  have h : 0 ≤ IntKind.u64.wrap lp := by unfold IntKind.wrap; simp [IntKind.signed, IntKind.bits]; omega
  rw [Int.tmod_eq_emod_of_nonneg h]
  refine ⟨(IntKind.u64.wrap lp % 256).toNat, ?_, ?_⟩
  · unfold wrap64; omega
  · omega

theorem full_last [Inhabited EntI] {w w10 : World} {s l m : Nat} {fr d : Int} (hm0 : m ≤ 1024) (h : LiveS w.heap.size w s (((gE fr l m).cut 499).lose (fr + d)) w10) (hd : 0 ≤ d ∧ d < 256 ∧ d ≠ (l : Int)) (hl : l < 256) :
    ∃ i : Nat, Hid (Calls Try.prog 7 #[.pointer (some ⟨s, 0, none⟩), .int .i64 (fr + (l : Int)), .int .i64 (fr + (l : Int)), .int .u32 1] w10 fun e w' => e = .returned (.tuple #[.int .i64 ((i : Int) + 1), .int .i64 0]) ∧ Hid (LiveS w.heap.size w s ((((gE fr l m).cut 499).lose (fr + d)).ins i (fr + (l : Int)) (fr + (l : Int)) 1) w')) ∧ i ≤ 499 := by
  have hno : ∀ a, (((gE fr l m).cut 499).lose (fr + d)).ps[499]? ≠ some (a, true) := fun a e => by
    have h1 := ((at_clr _ _ 499 a boths_ge).1 e).2
    exact (at_cut.1 h1).1 rfl
  obtain ⟨i, hi, hL⟩ := least_ex 499 hno
  have hV : (((gE fr l m).cut 499).lose (fr + d)).V (fr + (l : Int)) = true := by
    show (!decide (fr + (l : Int) = fr + d) && (decide (fr ≤ fr + (l : Int)) && decide (fr + (l : Int) < fr + (256 : Nat)))) = true
    rw [decide_eq_false (p := fr + (l : Int) = fr + d) (by omega), decide_eq_true (p := fr ≤ fr + (l : Int)) (by omega), decide_eq_true (p := fr + (l : Int) < fr + (256 : Nat)) (by omega)]
    rfl
  have hlen : (boths ((gE fr l m).cut 499).ps (fr + d)).length ≤ 1024 := Nat.le_trans (length_numsOf _ _) (by show ((En fr l m).set 499 _).length ≤ 1024; rw [List.length_set, En_length]; exact hm0)
  have hm : 65536 * (boths ((gE fr l m).cut 499).ps (fr + d)).length ≤ 65536 * 1024 := Nat.mul_le_mul_left _ hlen
  refine ⟨i, addEL i _ _ 1 h hV hV (by omega) kept_low hL (by omega) ?_ ?_ ?_, hi⟩
  · have hmm : 65536 * m ≤ 65536 * 1024 := Nat.mul_le_mul_left _ hm0
    show 65536 * m + 65536 + 65536 * (boths ((gE fr l m).cut 499).ps (fr + d)).length ≤ 900000000
    omega
  · show (0 : Int) ≤ (m : Int) + 1 + ((boths ((gE fr l m).cut 499).ps (fr + d)).length : Int)
    omega
  · show (m : Int) + 1 + ((boths ((gE fr l m).cut 499).ps (fr + d)).length : Int) ≤ 1000000000
    omega

set_option maxHeartbeats 8000000 in
set_option maxRecDepth 100000 in
theorem full_in [Inhabited EntI] (fr lp : Int) (w : World) (h0 : 0 ≤ fr) (h1 : fr ≤ 2147483347) : Calls Try.prog 3 #[.int .i64 fr, .int .i64 lp] w fun e w' => e = .returned (.bool true) ∧ Below w.heap.size w w' := by
  have CN := hide (newL w)
  have h2 : ¬ fr < 0 := by omega
  have h3 : ¬ 2147483347 < fr := by omega
  have HR : Hid (0 ≤ fr ∧ fr ≤ 2147483347) := ⟨h0, h1⟩
  clear h0 h1
  go_enter Try.func3, Try.ntmps3
  go_wp2_with fail
  refine (unhide CN).mono ?_
  rintro e w1 ⟨s, rfl, hs⟩
  have CA := hide (awakeS w1)
  clear CN
  go_wp2_with fail
  refine (unhide CA).mono ?_
  rintro e w2 ⟨rfl, hb2⟩
  have HS : Hid (LiveS w.heap.size w s (gV fr 0) w2) := by have := (unhide hs).step hb2; rw [gV_zero fr] at this; exact this
  clear CA hb2 hs
  go_wp2_with fail
  clear h2 h3
  go_loopw [6] (fun s6 wr => ∃ i : Nat, s6 = .int .i64 i ∧ i ≤ 256 ∧ Hid (LiveS w.heap.size w s (gV fr i) wr)) (fun s6 _ => 256 - (intOf s6).toNat)
  case atStart => exact ⟨0, rfl, by omega, HS⟩
  case round =>
    obtain ⟨i, rfl, hi, hL⟩ := hrel
    by_cases h : i < 256
    · have hz : (i : Int) < 256 := by omega
      have hw1 : IntKind.i64.wrap (fr + (i : Int)) = fr + (i : Int) := by have := unhide HR; rw [IntKind.wrap_i64]; omega
      have C : Hid (Calls Try.prog 6 #[.pointer (some ⟨s, 0, none⟩), .int .i64 (fr + (i : Int))] wr fun e w' => e = .returned (.int .i64 0) ∧ Hid (LiveS w.heap.size w s (gV fr (i + 1)) w')) := by
        have := addVL (fr + (i : Int)) (unhide hL) (by have := unhide HR; omega) (by have := unhide HR; omega) (by show (decide _ && decide _) = false; rw [decide_eq_false (p := fr + (i : Int) < fr + (i : Int)) (by omega), Bool.and_false]) (by show i < 256; exact h)
        rw [gV_succ] at this
        exact this
      go_wp2_with fail
      refine (unhide C).mono ?_
      rintro e w3 ⟨rfl, h3⟩
      clear C
      go_wp2_with fail
      have hwi : wrap64 ((i : Int) + 1) = ((i + 1 : Nat) : Int) := by unfold wrap64; omega
      (try rw [hwi])
      first
        | exact ⟨⟨i + 1, rfl, by omega, h3⟩, by simp [intOf]; omega⟩
        | (go_roundw
           case rel => exact ⟨i + 1, by go_num, by omega, h3⟩
           case measure => simp [intOf]; omega)
    · obtain rfl : i = 256 := by omega
      have hw1 : IntKind.i64.wrap (fr + 256) = fr + 256 := by have := unhide HR; rw [IntKind.wrap_i64]; omega
      have C1 := hide (addVManyL (fr + 256) (unhide hL) (by have := unhide HR; omega) (by have := unhide HR; omega) (by show (decide _ && decide _) = false; rw [decide_eq_false (p := fr + 256 < fr + (256 : Nat)) (by omega), Bool.and_false]) rfl)
      have C2 := hide (addVTwiceL fr (unhide hL) (by show (decide _ && decide _) = true; rw [decide_eq_true (p := fr ≤ fr) (by omega), decide_eq_true (p := fr < fr + (256 : Nat)) (by omega)]; rfl))
      go_wp2_with fail
      refine (unhide C1).mono ?_
      rintro e w3 ⟨rfl, rfl⟩
      clear C1
      go_wp2_with fail
      refine (unhide C2).mono ?_
      rintro e w4 ⟨rfl, rfl⟩
      clear C2
      go_wp2_with fail
      obtain ⟨l, hlz, hl⟩ : ∃ l : Nat, wrap64 ((IntKind.u64.wrap lp).tmod 256) = (l : Int) ∧ l < 256 := loop_of lp
      have HL : Hid (l < 256) := hl
      simp only [hlz]
      clear hlz hl
      generalize IntKind.u64.wrap lp = ulp
      have HG : Hid (LiveS w.heap.size w s (gE fr l 0) w4) := by have := unhide hL; rw [gE_zero fr l] at this; exact this
      have hwu : IntKind.i64.wrap (fr + (l : Int)) = fr + (l : Int) := by have := unhide HR; have := unhide HL; rw [IntKind.wrap_i64]; omega
      have hVl : Hid (∀ k : Int, 0 ≤ k → k < 256 → (decide (fr ≤ fr + k) && decide (fr + k < fr + (256 : Nat))) = true) := fun k h1 h2 => by rw [decide_eq_true (p := fr ≤ fr + k) (by omega), decide_eq_true (p := fr + k < fr + (256 : Nat)) (by omega)]; rfl
      clear hL HS hw1
      go_loopw [7] (fun s7 wr => ∃ j : Nat, s7 = .int .i64 ((j : Int) + 1) ∧ j ≤ 1024 ∧ Hid (LiveS w.heap.size w s (gE fr l j) wr)) (fun s7 _ => 1025 - (intOf s7).toNat)
      case atStart => exact ⟨0, rfl, by omega, HG⟩
      case round =>
        obtain ⟨j, rfl, hj, hL⟩ := hrel
        by_cases h' : j < 1024
        · have hz : (j : Int) + 1 ≤ 1024 := by omega
          obtain ⟨v0, hv0⟩ : ∃ v0 : Int, v0 = ((j : Int) + 1) * 7 % 256 := ⟨_, rfl⟩
          have hw7 : IntKind.i64.wrap (((j : Int) + 1) * 7) = ((j : Int) + 1) * 7 := by rw [IntKind.wrap_i64]; omega
          have hw7' : (((j : Int) + 1) * 7).tmod 256 = v0 := by rw [Int.tmod_eq_emod_of_nonneg (by omega), hv0]
          have HV : Hid (0 ≤ v0 ∧ v0 < 256 ∧ v0 = ((j : Int) + 1) * 7 % 256) := ⟨by omega, by omega, hv0⟩
          have hw8 : IntKind.i64.wrap (fr + v0) = fr + v0 := by have := unhide HR; have := unhide HV; rw [IntKind.wrap_i64]; omega
          have C : Hid (Calls Try.prog 7 #[.pointer (some ⟨s, 0, none⟩), .int .i64 (fr + (l : Int)), .int .i64 (fr + v0), .int .u32 1] wr fun e w' => e = .returned (.tuple #[.int .i64 ((j : Int) + 1), .int .i64 0]) ∧ Hid (LiveS w.heap.size w s (gE fr l (j + 1)) w')) := by
            have q6 : 65536 * j ≤ 65536 * 1024 := Nat.mul_le_mul_left _ (by omega)
            have := addEL j (fr + (l : Int)) (fr + v0) 1 (unhide hL) (unhide hVl l (by omega) (by have := unhide HL; omega)) (unhide hVl v0 (unhide HV).1 (unhide HV).2.1) (by omega) kept_low (En_least fr l j) h' (by show 65536 * j ≤ 900000000; omega) (by show (0 : Int) ≤ (j : Int); omega) (by show (j : Int) ≤ 1000000000; omega)
            rw [(unhide HV).2.2, gE_succ, ← (unhide HV).2.2] at this
            exact this
          clear hv0
          go_wp2_with fail
          refine (unhide C).mono ?_
          rintro e w5 ⟨rfl, h5⟩
          clear C
          go_wp2_with fail
          have hwi : wrap64 ((j : Int) + 1 + 1) = ((j + 1 : Nat) : Int) + 1 := by unfold wrap64; omega
          (try rw [hwi])
          exact ⟨⟨j + 1, rfl, by omega, h5⟩, by simp [intOf]; omega⟩
        · obtain rfl : j = 1024 := by omega
          have hV0 := unhide hVl 0 (by omega) (by omega)
          rw [Int.add_zero] at hV0
          have hall : ∀ i, i < 1024 → ∃ a, (gE fr l 1024).ps[i]? = some (a, true) := fun i hi => ⟨_, En_at hi⟩
          have C1 := hide (addEManyL fr fr 1 (unhide hL) hV0 hV0 (by omega) kept_low hall)
          have HA := hide hall
          have HV0 := hide hV0
          clear hV0 hall hj h'
          have hz : ¬ ((1024 : Nat) : Int) + 1 ≤ 1024 := by omega
          go_wp2_with fail
          refine (unhide C1).mono ?_
          rintro e w5 ⟨rfl, h5⟩
          have C2 := hide (addEBadL fr fr 2139095040 (unhide h5) (unhide HV0) (unhide HV0) (by omega) kept_inf)
          clear C1 hL hz
          go_wp2_with fail
          refine (unhide C2).mono ?_
          rintro e w6 ⟨rfl, rfl⟩
          have C3 := hide (freeL0 (unhide h5) (unhide HA))
          clear C2
          go_wp2_with fail
          refine (unhide C3).mono ?_
          rintro e w7 ⟨rfl, h7⟩
          have C4 := hide (putERangeL 1025 fr fr 0 (unhide h7) (.inr (by omega)))
          clear C3 h5
          go_wp2_with fail
          refine (unhide C4).mono ?_
          rintro e w8 ⟨rfl, h8⟩
          have C5 : Hid (Calls Try.prog 10 #[.pointer (some ⟨s, 0, none⟩), .int .i64 500] w8 fun r w' => ∃ a : EdgeV, r = .returned (.tuple #[.agg #[.int .i64 a.1, .int .i64 a.2.1, .int .i64 a.2.2.1, .int .u32 a.2.2.2], .int .i64 0]) ∧ Hid (LiveS w.heap.size w s ((gE fr l 1024).cut 499) w')) := by
            have := dropEL 499 (unhide h8) (En_at (by omega)) (by show 65536 * 1024 ≤ 900000000; omega) (by show (0 : Int) ≤ ((1024 : Nat) : Int); omega) (by show ((1024 : Nat) : Int) ≤ 1000000000; omega)
            rw [show ((499 : Nat) : Int) + 1 = 500 from rfl] at this
            exact this.mono (fun r w' hh => ⟨_, hh.1, hh.2⟩)
          clear C4 h7
          go_wp2_with fail
          refine (unhide C5).mono ?_
          rintro e w9 ⟨a9, rfl, h9⟩
          obtain ⟨d, hd⟩ : ∃ d : Int, d = ((l : Int) + 1) % 256 := ⟨_, rfl⟩
          have hwl : IntKind.i64.wrap ((l : Int) + 1) = (l : Int) + 1 := by have := unhide HL; rw [IntKind.wrap_i64]; omega
          have hdt : ((l : Int) + 1).tmod 256 = d := by rw [Int.tmod_eq_emod_of_nonneg (by omega), hd]
          have HD : Hid (0 ≤ d ∧ d < 256 ∧ d ≠ (l : Int)) := by have := unhide HL; refine ⟨by omega, by omega, by omega⟩
          have hwd : IntKind.i64.wrap (fr + d) = fr + d := by have := unhide HR; have := unhide HD; rw [IntKind.wrap_i64]; omega
          have C6 := hide (dropVL (fr + d) (unhide h9) (unhide hVl d (unhide HD).1 (unhide HD).2.1) (by show 65536 * 1024 + 65536 ≤ 800000000; omega) (by show (0 : Int) ≤ ((1024 : Nat) : Int) + 1; omega) (by show ((1024 : Nat) : Int) + 1 ≤ 900000000; omega))
          clear C5 h8 hd
          go_wp2_with fail
          refine (unhide C6).mono ?_
          rintro e w10 ⟨v10, rfl, h10⟩
          obtain ⟨i, C7, HI⟩ : ∃ i : Nat, Hid (Calls Try.prog 7 #[.pointer (some ⟨s, 0, none⟩), .int .i64 (fr + (l : Int)), .int .i64 (fr + (l : Int)), .int .u32 1] w10 fun e w' => e = .returned (.tuple #[.int .i64 ((i : Int) + 1), .int .i64 0]) ∧ Hid (LiveS w.heap.size w s ((((gE fr l 1024).cut 499).lose (fr + d)).ins i (fr + (l : Int)) (fr + (l : Int)) 1) w')) ∧ i ≤ 499 := full_last (Nat.le_refl _) (unhide h10).1 (unhide HD) (unhide HL)
          have hi1 : (1 : Int) ≤ (i : Int) + 1 := by omega
          have hi2 : (i : Int) + 1 ≤ 500 := by omega
          clear C6 h9 hdt hwl hwd
          go_wp2_with fail
          refine (unhide C7).mono ?_
          rintro e w11 ⟨rfl, h11⟩
          have hw256 : IntKind.i64.wrap (fr + 256) = fr + 256 := by have := unhide HR; rw [IntKind.wrap_i64]; omega
          have C8 := hide (addVL (fr + 256) (unhide h11) (by have := unhide HR; omega) (by have := unhide HR; omega) (by
            show (!decide (fr + 256 = fr + d) && (decide (fr ≤ fr + 256) && decide (fr + 256 < fr + (256 : Nat)))) = false
            rw [decide_eq_false (p := fr + 256 < fr + (256 : Nat)) (by omega), Bool.and_false, Bool.and_false]) (by show 256 - 1 < 256; omega))
          clear C7 h10
          go_wp2_with fail
          refine (unhide C8).mono ?_
          rintro e w12 ⟨rfl, h12⟩
          have C9 := hide (writesL (unhide h12))
          have HB := hide (unhide h12).below
          obtain ⟨wz, hwz, hwz2⟩ : ∃ wz : Int, ({ ((((gE fr l 1024).cut 499).lose (fr + d)).ins i (fr + (l : Int)) (fr + (l : Int)) 1) with V := fun j => decide (j = fr + 256) || ((((gE fr l 1024).cut 499).lose (fr + d)).ins i (fr + (l : Int)) (fr + (l : Int)) 1).V j, N := ((((gE fr l 1024).cut 499).lose (fr + d)).ins i (fr + (l : Int)) (fr + (l : Int)) 1).N + 1 } : Gr).wr = wz ∧ (1026 : Int) ≤ wz := ⟨_, rfl, by
            show (1026 : Int) ≤ ((1024 : Nat) : Int) + 1 + ((boths ((gE fr l 1024).cut 499).ps (fr + d)).length : Int) + 1
            omega⟩
          rw [hwz] at C9
          clear C8 h11 h12 hwz
          go_wp2_with fail
          refine (unhide C9).mono ?_
          rintro e w13 ⟨rfl, rfl⟩
          clear C9
          go_wp2_with fail
          go_ret
          exact ⟨rfl, unhide HB⟩
end Go.Proofs.Ytanbnipndkmnlaa
