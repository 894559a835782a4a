/- The reader: number. -/
import Derived.Test.YtagibmgbjhemkaaGreatNx16
namespace Go.Proofs.YtagibmgbjhemkaaGreat.W16
open Go.RowKit Go.Maps
/-- What a reading call answers: what is read, and the rest; or it gives up. -/
def NumAns (p : Nat) (ob : Option Nat) (w : World) (r : Option (Nat × List Nat)) (e : Ending) (w' : World) : Prop :=
  match r with
  | none => e = .panicked gaveUp ∧ Reads p w w'
  | some (x, t) => e = .returned (.int .i64 (x : Nat)) ∧ Reads p w w' ∧ ∃ v', RdAt w' p v' t ∧ v'.ownBlock = ob
theorem shr_of {hi s : Nat} (h : hi ≤ 2147483647) : (hi : Int) / 2 ^ min s 64 = ((hi / 2 ^ s : Nat) : Int) := by
  rcases Nat.le_total s 64 with q | q
  · rw [Nat.min_eq_left q]
    have : ((2 : Int) ^ s) = ((2 ^ s : Nat) : Int) := by simp
    rw [this]; exact (Int.natCast_ediv hi (2 ^ s)).symm
  · have h1 : hi < 2 ^ s := Nat.lt_of_lt_of_le (show hi < 2 ^ 64 by omega) (Nat.pow_le_pow_right (by omega) q)
    rw [Nat.min_eq_right q, Nat.div_eq_of_lt h1]
    exact Int.ediv_eq_zero_of_lt (by omega) (by omega)
def NumInv (w : World) (p : Nat) (ob : Option Nat) (lo hi : Nat) (R : Option (Nat × List Nat)) (N : Nat) (wr : World) (n s : Nat) (v' : Value) (bs' : List Nat) : Prop :=
  rdN lo hi n s bs' = R ∧ RdAt wr p v' bs' ∧ Reads p w wr ∧ v'.ownBlock = ob ∧ n ≤ 2 * hi ∧ n < 2 ^ s ∧ s + 7 * bs'.length = N ∧ ∀ x ∈ bs', x < 256
/-- What a byte adds. -/
theorem step_of {lo hi n s x : Nat} (h : hi ≤ 2147483647) (hn : n ≤ 2 * hi) (hs : n < 2 ^ s) (hp : ¬ hi / 2 ^ s < x % 128) (_ : lo ≤ 1) :
    ∃ y, y = x % 128 * 2 ^ s ∧ y ≤ hi ∧ wrap64 (((x % 128 : Nat) : Int) * 2 ^ min s 64) = (y : Int) ∧ wrap64 ((n : Int) + (y : Int)) = ((n + y : Nat) : Int) ∧ n + y ≤ 2 * hi ∧ n + y < 2 ^ (s + 7) := by
  have hpos : 0 < 2 ^ s := Nat.two_pow_pos s
  have h1 : x % 128 * 2 ^ s ≤ hi := (Nat.le_div_iff_mul_le hpos).1 (Nat.not_lt.1 hp)
  refine ⟨_, rfl, h1, ?_, ?_, ?_, ?_⟩
  · rcases Nat.le_total s 64 with q | q
    · rw [Nat.min_eq_left q]
      have : ((x % 128 : Nat) : Int) * 2 ^ s = ((x % 128 * 2 ^ s : Nat) : Int) := by simp
      rw [this]
      generalize x % 128 * 2 ^ s = y at *
      unfold wrap64; omega
    · have h2 : hi < 2 ^ s := Nat.lt_of_lt_of_le (show hi < 2 ^ 64 by omega) (Nat.pow_le_pow_right (by omega) q)
      rw [Nat.div_eq_of_lt h2] at hp
      have h3 : x % 128 = 0 := by omega
      rw [h3]; simp [wrap64]
  · generalize x % 128 * 2 ^ s = y at *
    unfold wrap64; omega
  · rcases Nat.eq_zero_or_pos (x % 128) with q | q
    · rw [q]; omega
    · have : 2 ^ s ≤ x % 128 * 2 ^ s := Nat.le_mul_of_pos_left _ q
      omega
  · have : x % 128 * 2 ^ s ≤ 127 * 2 ^ s := Nat.mul_le_mul_right _ (by omega)
    rw [Nat.pow_add, show (2 : Nat) ^ 7 = 128 from rfl]; omega
set_option maxHeartbeats 2000000 in
set_option maxRecDepth 100000 in
theorem numberS {w : World} {p : Nat} {v : Value} {bs : List Nat} (lo hi : Nat) (h : RdAt w p v bs) (hb : ∀ x ∈ bs, x < 256) (hl : bs.length ≤ 140737488355328) (hhi : hi ≤ 2147483647) (hlo : lo ≤ 1) :
    Calls Tryz.prog 89 #[.pointer (some ⟨p, 0, none⟩), .int .i64 (lo : Nat), .int .i64 (hi : Nat)] w fun e w' => Hid (NumAns p v.ownBlock w (rdN lo hi 0 0 bs) e w') := by
  obtain ⟨N, hN⟩ : ∃ N, N = 7 * bs.length := ⟨_, rfl⟩
  have HL : Hid (hi ≤ 2147483647 ∧ lo ≤ 1 ∧ N ≤ 985162418487296) := ⟨hhi, hlo, by omega⟩
  generalize hob : v.ownBlock = ob at *
  have H0 : Hid (NumInv w p ob lo hi (rdN lo hi 0 0 bs) N w 0 0 v bs) := ⟨rfl, h, Turned.refl _ _, hob, by omega, by omega, by omega, hb⟩
  generalize rdN lo hi 0 0 bs = R at *
  clear h hb hl hhi hlo hN hob
  go_enter Tryz.func89, Tryz.ntmps89
  go_wp2_with fail
  go_loopw [7, 8] (fun s7 s8 wr => ∃ (n s : Nat) (v' : Value) (bs' : List Nat), s7 = .int .i64 (n : Nat) ∧ s8 = .int .i64 (s : Nat) ∧ Hid (NumInv w p ob lo hi R N wr n s v' bs')) (fun _ s8 _ => N - (intOf s8).toNat)
  case atStart => exact ⟨0, 0, v, bs, rfl, rfl, unhide H0⟩
  case round =>
    obtain ⟨n, s, v', bs', rfl, rfl, HI⟩ := hrel
    obtain ⟨i1, i2, i3, i4, i5, i6, i7, i8⟩ := unhide HI
    obtain ⟨l1, l2, l3⟩ := unhide HL
    cases bs' with
    | nil => 
      have CN := hide (next0S i2)
      have HG : Hid (NumAns p ob w R (.panicked gaveUp) wr) := by rw [← i1]; exact ⟨rfl, i3⟩
      clear HI i1 i2 i3 i4 i5 i6 i7 i8 l1 l2 l3 H0
      generalize gaveUp = gu at *
      go_wp2_with fail
      refine (unhide CN).mono ?_
      rintro e w1 ⟨rfl, rfl⟩
      exact ⟨rfl, HG⟩
    | cons x t =>
      have CN := hide (next1S i2)
      unfold u8v at CN
      have hx : x < 256 := i8 x (by simp)
      obtain ⟨hs, e0⟩ : ∃ hs, hs = hi / 2 ^ s := ⟨_, rfl⟩
      obtain ⟨pt, e1⟩ : ∃ pt, pt = x % 128 := ⟨_, rfl⟩
      have y1 : (hi : Int) / 2 ^ min s 64 = (hs : Int) := by rw [e0]; exact shr_of l1
      have y2 : (x : Int) % 128 = (pt : Int) := by omega
      rw [rdN] at i1
      by_cases hA : hs < pt
      · rw [if_pos (by rw [← e0, ← e1]; exact hA)] at i1
        have z1 : (pt : Int) > (hs : Int) := by omega
        have HG : Hid (∀ W, Reads p wr W → NumAns p ob w R (.panicked gaveUp) W) := fun W h => by rw [← i1]; exact ⟨rfl, i3.trans h⟩
        have CU : Hid (∀ W : World, Calls Tryz.prog 88 #[] W fun e w' => e = .panicked gaveUp ∧ w' = W) := fun W => giveUpS W
        clear HI H0 HL i1 i2 i3 i4 i5 i6 i7 i8 l1 l2 l3 hx e0 e1 hA
        generalize gaveUp = gu at *
        go_wp2_with fail
        refine (unhide CN).mono ?_
        rintro e w1 ⟨rfl, v1, H1⟩
        go_wp2_with fail
        refine (unhide CU _).mono ?_
        rintro e w2 ⟨rfl, rfl⟩
        exact ⟨rfl, unhide HG _ (unhide H1).2.1⟩
      · rw [if_neg (by rw [← e0, ← e1]; exact hA)] at i1
        obtain ⟨y, g0, g1, g2, g3, g4, g5⟩ := step_of (x := x) l1 i5 i6 (by rw [← e0, ← e1]; exact hA) l2
        obtain ⟨m, hm⟩ : ∃ m, m = n + y := ⟨_, rfl⟩
        rw [← g0, ← hm] at i1
        rw [← e1] at g2
        rw [← hm] at g3 g4 g5
        have z1 : ¬ (pt : Int) > (hs : Int) := by omega
        by_cases hB : 128 ≤ x
        · rw [if_pos hB] at i1
          have z2 : (x : Int) ≥ 128 := by omega
          obtain ⟨s', hs'⟩ : ∃ s', s' = s + 7 := ⟨_, rfl⟩
          have zs : Hid (wrap64 ((s : Int) + 7) = (s' : Int)) := by show wrap64 ((s : Int) + 7) = (s' : Int); rw [List.length_cons] at i7; unfold wrap64; omega
          have YM := hide g3
          have HG : Hid (∀ W v1, RdAt W p v1 t → Reads p wr W → v1.ownBlock = v'.ownBlock → NumInv w p ob lo hi R N W m s' v1 t) := fun W v1 h1 h2 h3 =>
            ⟨by rw [hs']; exact i1, h1, i3.trans h2, h3.trans i4, g4, by rw [hs']; exact g5, by rw [List.length_cons] at i7; omega, fun q hq => i8 q (by simp [hq])⟩
          have HJ : Hid (N - s' < N - s) := by show N - s' < N - s; rw [List.length_cons] at i7; omega
          clear HI H0 HL i1 i2 i3 i4 i5 i6 i7 i8 l1 l2 l3 hx e0 e1 hA g0 g1 g3 g4 g5 hm hB hs'
          go_wp2_with fail
          refine (unhide CN).mono ?_
          rintro e w1 ⟨rfl, v1, H1⟩
          go_wp2_with fail
          refine ⟨⟨m, s', v1, t, by rw [unhide YM], by rw [unhide zs], unhide HG _ _ (unhide H1).1 (unhide H1).2.1 (unhide H1).2.2⟩, ?_⟩
          rw [unhide zs]
          exact unhide HJ
        · rw [if_neg hB] at i1
          have z2 : ¬ (x : Int) ≥ 128 := by omega
          have YM := hide g3
          have HT : Hid (∀ W v1, RdAt W p v1 t → Reads p wr W → v1.ownBlock = v'.ownBlock → Reads p w W ∧ RdAt W p v1 t ∧ v1.ownBlock = ob) := fun W v1 h0 h1 h2 => ⟨i3.trans h1, h0, h2.trans i4⟩
          have HI1 : Hid (((x = 0 ∧ 0 < s) ∨ m < lo ∨ hi < m → R = none) ∧ (¬ ((x = 0 ∧ 0 < s) ∨ m < lo ∨ hi < m) → R = some (m, t))) := ⟨fun q => by rw [← i1, if_pos q], fun q => by rw [← i1, if_neg q]⟩
          have CU : Hid (∀ W : World, Calls Tryz.prog 88 #[] W fun e w' => e = .panicked gaveUp ∧ w' = W) := fun W => giveUpS W
          clear HI H0 HL i1 i2 i3 i4 i5 i6 i7 i8 l1 l2 l3 hx e0 e1 hA g0 g1 g3 g4 g5 hm hB
          go_wp2_with fail
          refine (unhide CN).mono ?_
          rintro e w1 ⟨rfl, v1, H1⟩
          have HN : Hid (R = none → NumAns p ob w R (.panicked gaveUp) w1) := fun q => by rw [q]; exact ⟨rfl, (unhide HT _ _ (unhide H1).1 (unhide H1).2.1 (unhide H1).2.2).1⟩
          have HS : Hid (R = some (m, t) → NumAns p ob w R (.returned (.int .i64 (m : Nat))) w1) := fun q => by
            rw [q]
            obtain ⟨q1, q2, q3⟩ := unhide HT _ _ (unhide H1).1 (unhide H1).2.1 (unhide H1).2.2
            exact ⟨rfl, q1, v1, q2, q3⟩
          generalize gaveUp = gu at *
          go_upto_region 10 with fail
          rw [unhide YM]
          clear y1 y2 z1 z2 CN HT H1 YM
          by_cases q0 : x = 0 ∧ 0 < s
          · obtain ⟨rfl, q0⟩ := q0
            have z3 : (s : Int) > 0 := by omega
            have HA : Hid (NumAns p ob w R (.panicked gu) w1) := unhide HN ((unhide HI1).1 (by omega))
            clear HN HS HI1
            go_wp2_with fail
            refine (unhide CU _).mono ?_
            rintro e w2 ⟨rfl, rfl⟩
            exact ⟨rfl, HA⟩
          · by_cases q1 : x = 0
            · subst q1
              obtain rfl : s = 0 := by omega
              clear q0
              by_cases q2 : m < lo
              · have z4 : (m : Int) < (lo : Int) := by omega
                have HA : Hid (NumAns p ob w R (.panicked gu) w1) := unhide HN ((unhide HI1).1 (by omega))
                clear HN HS HI1 q2
                go_wp2_with fail
                refine (unhide CU _).mono ?_
                rintro e w2 ⟨rfl, rfl⟩
                exact ⟨rfl, HA⟩
              · have z4 : ¬ (m : Int) < (lo : Int) := by omega
                by_cases q3 : hi < m
                · have z5 : (m : Int) > (hi : Int) := by omega
                  have HA : Hid (NumAns p ob w R (.panicked gu) w1) := unhide HN ((unhide HI1).1 (by omega))
                  clear HN HS HI1 q2 q3
                  go_wp2_with fail
                  refine (unhide CU _).mono ?_
                  rintro e w2 ⟨rfl, rfl⟩
                  exact ⟨rfl, HA⟩
                · have z5 : ¬ (m : Int) > (hi : Int) := by omega
                  have HA : Hid (NumAns p ob w R (.returned (.int .i64 (m : Nat))) w1) := unhide HS ((unhide HI1).2 (by omega))
                  clear HN HS HI1 q2 q3
                  go_wp2_with fail
                  go_ret
                  exact HA
            · have z3 : ((x : Int) == 0) = false := by simp; omega
              have q1' := hide q1
              have q0' := hide q0
              clear q0 q1
              by_cases q2 : m < lo
              · have z4 : (m : Int) < (lo : Int) := by omega
                have HA : Hid (NumAns p ob w R (.panicked gu) w1) := unhide HN ((unhide HI1).1 (by have h1 := unhide q1'; have h2 := unhide q0'; omega))
                clear HN HS HI1 q2
                go_wp2_with fail
                refine (unhide CU _).mono ?_
                rintro e w2 ⟨rfl, rfl⟩
                exact ⟨rfl, HA⟩
              · have z4 : ¬ (m : Int) < (lo : Int) := by omega
                by_cases q3 : hi < m
                · have z5 : (m : Int) > (hi : Int) := by omega
                  have HA : Hid (NumAns p ob w R (.panicked gu) w1) := unhide HN ((unhide HI1).1 (by have h1 := unhide q1'; have h2 := unhide q0'; omega))
                  clear HN HS HI1 q2 q3
                  go_wp2_with fail
                  refine (unhide CU _).mono ?_
                  rintro e w2 ⟨rfl, rfl⟩
                  exact ⟨rfl, HA⟩
                · have z5 : ¬ (m : Int) > (hi : Int) := by omega
                  have HA : Hid (NumAns p ob w R (.returned (.int .i64 (m : Nat))) w1) := unhide HS ((unhide HI1).2 (by have h1 := unhide q1'; have h2 := unhide q0'; omega))
                  clear HN HS HI1 q2 q3
                  go_wp2_with fail
                  go_ret
                  exact HA
end Go.Proofs.YtagibmgbjhemkaaGreat.W16
