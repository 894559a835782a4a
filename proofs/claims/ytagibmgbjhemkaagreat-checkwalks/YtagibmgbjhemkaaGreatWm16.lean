/- The reader in the midst of a witness: what lies in memory. -/
import Derived.Test.YtagibmgbjhemkaaGreatMt16
import Derived.Laws.BitsAllLaws
import Derived.Test.YtagibmgbjhemkaaGreatHo17
namespace Go.Proofs.YtagibmgbjhemkaaGreat

namespace W16
open Go.RowKit Go.Maps
def gaveUp : List PanicEntry := [{ v := .iface 36 (.int .i64 160), recovered := false }]
set_option maxHeartbeats 400000 in
theorem giveUpS (w : World) : Calls Tryz.prog 88 #[] w fun e w' => e = .panicked gaveUp ∧ w' = w := by
  go_enter Tryz.func88, Tryz.ntmps88
  go_wp2_with fail
  exact ⟨rfl, rfl, rfl⟩
def RdAt (w : World) (p : Nat) (v : Value) (bs : List Nat) : Prop := w.heap[p]? = some (.cells #[v] 109 (0, 0)) ∧ Lies u8v w v bs ∧ v.ownBlock ≠ some p
theorem rd_cell {w : World} {p : Nat} {v : Value} {bs : List Nat} (h : RdAt w p v bs) : w.cell? ⟨p, 0, none⟩ = some v ∧ w.frozen? ⟨p, 0, none⟩ = false :=
  ⟨(cell_of_row _ _ 0 _ _ (0, 0) h.1).trans rfl, frozen_of_row _ _ 0 _ _ h.1⟩
set_option maxHeartbeats 2000000 in
set_option maxRecDepth 100000 in
theorem next0S {w : World} {p : Nat} {v : Value} (h : RdAt w p v []) : Calls Tryz.prog 87 #[.pointer (some ⟨p, 0, none⟩)] w fun e w' => e = .panicked gaveUp ∧ w' = w := by
  obtain ⟨c0, -⟩ := rd_cell h; obtain ⟨a, c, rfl⟩ := lies_shape h.2.1; have CG := hide (giveUpS w); generalize hgu : gaveUp = gu at *; simp only [List.length_nil] at c0; clear h
  go_enter Tryz.func87, Tryz.ntmps87
  go_wp2_with fail
  refine (unhide CG).mono ?_
  rintro e w1 ⟨rfl, rfl⟩
  exact ⟨rfl, rfl, rfl⟩
def Reads (p : Nat) (w w' : World) : Prop := Turned (fun b => b = p) w w'
theorem rest_lies {w : World} {b off n c : Nat} {x : Nat} {bs : List Nat} (h : Lies u8v w (.slice (some ⟨b, off, none⟩) (n + 1) c) (x :: bs)) :
    w.cell? ⟨b, off, none⟩ = some (u8v x) ∧ Lies u8v w (.slice (some ⟨b, off + 1, none⟩) n (c - 1)) bs ∧ n = bs.length ∧ n + 1 ≤ c := by
  obtain ⟨e1, e2⟩ := lies_len h; have hn : n = bs.length := by simpa using e1
  have h0 := lies_at h (i := 0) rfl; obtain ⟨b', off', e3, h1⟩ := h0; injection e3 with e3
  injection e3 with e4 e5
  subst e4 e5; refine ⟨h1, ⟨_, c - 1, by rw [hn], by omega, fun e => (by cases e), .inr ⟨b, off + 1, rfl, fun i y hy => ?_⟩⟩, hn, e2⟩
  obtain ⟨b', off', e3, h2⟩ := lies_at h (i := i + 1) (x := y) (by simpa using hy)
  injection e3 with e3
  injection e3 with e4 e5
  subst e4 e5; rw [show off + 1 + i = off + (i + 1) by omega]
  exact h2
theorem rd_step {w : World} {p b : Nat} {v v' : Value} {x : Nat} {bs : List Nat} (h : RdAt w p v (x :: bs)) (hv : v.ownBlock = some b) (hl : Lies u8v w v' bs) (ho : v'.ownBlock = some b) : RdAt (w.setCell ⟨p, 0, none⟩ v') p v' bs ∧ Reads p w (w.setCell ⟨p, 0, none⟩ v') ∧ v'.ownBlock = v.ownBlock := by
  have hbp : b ≠ p := fun e => h.2.2 (by rw [hv, e])
  have ht : Turned (fun b => b = p) w (w.setCell ⟨p, 0, none⟩ v') := turned_setCell w ⟨p, 0, none⟩ v' rfl
  exact ⟨⟨(heap_setCell_same w p 0 _ _ v' h.1).trans rfl, lies_turned hl ht (fun b' e e2 => hbp (by rw [ho] at e; injection e with e; rw [e]; exact e2)), fun e => hbp (by rw [ho] at e; injection e with e)⟩, ht, by rw [ho, hv]⟩
set_option maxHeartbeats 2000000 in
set_option maxRecDepth 100000 in
theorem next1S {w : World} {p : Nat} {v : Value} {x : Nat} {bs : List Nat} (h : RdAt w p v (x :: bs)) : Calls Tryz.prog 87 #[.pointer (some ⟨p, 0, none⟩)] w fun e w' => e = .returned (u8v x) ∧ ∃ v', Hid (RdAt w' p v' bs ∧ Reads p w w' ∧ v'.ownBlock = v.ownBlock) := by
  obtain ⟨c0, c1⟩ := rd_cell h; obtain ⟨a, c, rfl⟩ := lies_shape h.2.1; obtain ⟨b, off, rfl, -⟩ := lies_at h.2.1 (i := 0) rfl; obtain ⟨d0, d1, d2, d3⟩ := rest_lies h.2.1; obtain ⟨n, hn⟩ : ∃ n, n = bs.length := ⟨_, rfl⟩; rw [List.length_cons, ← hn] at c0; have HA : Hid (c = 1 → RdAt (w.setCell ⟨p, 0, none⟩ (.slice (some ⟨b, off, none⟩) n 0)) p (.slice (some ⟨b, off, none⟩) n 0) bs ∧ Reads p w (w.setCell ⟨p, 0, none⟩ (.slice (some ⟨b, off, none⟩) n 0)) ∧ (Value.slice (some ⟨b, off, none⟩) n 0).ownBlock = (Value.slice (some ⟨b, off, none⟩) (x :: bs).length c).ownBlock) := fun hc => by
    have h0 : bs.length = 0 := by omega
    obtain rfl : bs = [] := List.eq_nil_of_length_eq_zero h0; exact rd_step h rfl ⟨_, 0, by rw [hn], by simp, fun e => (by cases e), .inl rfl⟩ rfl
  have HC : Hid (RdAt (w.setCell ⟨p, 0, none⟩ (.slice (some ⟨b, off + 1, none⟩) n (c - 1))) p (.slice (some ⟨b, off + 1, none⟩) n (c - 1)) bs ∧ Reads p w (w.setCell ⟨p, 0, none⟩ (.slice (some ⟨b, off + 1, none⟩) n (c - 1))) ∧ (Value.slice (some ⟨b, off + 1, none⟩) n (c - 1)).ownBlock = (Value.slice (some ⟨b, off, none⟩) (x :: bs).length c).ownBlock) := by
    rw [← hn] at d1; exact rd_step h rfl d1 rfl
  generalize (Value.slice (some ⟨b, off, none⟩) (x :: bs).length c).ownBlock = ob at *; rw [← hn] at d3; have z1 : ((n + 1 : Nat) : Int) ≠ 0 := by omega
  clear h d1 d2 hn; unfold u8v at *
  go_enter Tryz.func87, Tryz.ntmps87
  go_wp2_with fail
  all_goals go_ret
  · subst h; exact ⟨rfl, _, unhide HA rfl⟩
  · exact ⟨rfl, _, unhide HC⟩
end W16

namespace W16
open Go.RowKit Go.Maps
def NumAns (p : Nat) (ob : Option Nat) (w : World) (r : Option (Nat × List Nat)) (e : Ending) (w' : World) : Prop :=
  match r with
  | none => e = .panicked gaveUp ∧ Reads p w w'
  | some (x, t) => e = .returned (.int .i64 (x : Nat)) ∧ Reads p w w' ∧ ∃ v', RdAt w' p v' t ∧ v'.ownBlock = ob
theorem shr_of {hi s : Nat} (h : hi ≤ 2147483647) : (hi : Int) / 2 ^ min s 64 = ((hi / 2 ^ s : Nat) : Int) := by
  rcases Nat.le_total s 64 with q | q
  · rw [Nat.min_eq_left q]; have : ((2 : Int) ^ s) = ((2 ^ s : Nat) : Int) := by simp
    rw [this]; exact (Int.natCast_ediv hi (2 ^ s)).symm
  · have h1 : hi < 2 ^ s := Nat.lt_of_lt_of_le (show hi < 2 ^ 64 by omega) (Nat.pow_le_pow_right (by omega) q)
    rw [Nat.min_eq_right q, Nat.div_eq_of_lt h1]; exact Int.ediv_eq_zero_of_lt (by omega) (by omega)
def NumInv (w : World) (p : Nat) (ob : Option Nat) (lo hi : Nat) (R : Option (Nat × List Nat)) (N : Nat) (wr : World) (n s : Nat) (v' : Value) (bs' : List Nat) : Prop :=
  rdN lo hi n s bs' = R ∧ RdAt wr p v' bs' ∧ Reads p w wr ∧ v'.ownBlock = ob ∧ n ≤ 2 * hi ∧ n < 2 ^ s ∧ s + 7 * bs'.length = N ∧ ∀ x ∈ bs', x < 256
theorem step_of {lo hi n s x : Nat} (h : hi ≤ 2147483647) (hn : n ≤ 2 * hi) (hs : n < 2 ^ s) (hp : ¬ hi / 2 ^ s < x % 128) (_ : lo ≤ 1) :
    ∃ y, y = x % 128 * 2 ^ s ∧ y ≤ hi ∧ wrap64 (((x % 128 : Nat) : Int) * 2 ^ min s 64) = (y : Int) ∧ wrap64 ((n : Int) + (y : Int)) = ((n + y : Nat) : Int) ∧ n + y ≤ 2 * hi ∧ n + y < 2 ^ (s + 7) := by
  have hpos : 0 < 2 ^ s := Nat.two_pow_pos s; have h1 : x % 128 * 2 ^ s ≤ hi := (Nat.le_div_iff_mul_le hpos).1 (Nat.not_lt.1 hp); refine ⟨_, rfl, h1, ?_, ?_, ?_, ?_⟩
  · rcases Nat.le_total s 64 with q | q
    · rw [Nat.min_eq_left q]; have : ((x % 128 : Nat) : Int) * 2 ^ s = ((x % 128 * 2 ^ s : Nat) : Int) := by simp
      rw [this]; generalize x % 128 * 2 ^ s = y at *; unfold wrap64; omega
    · have h2 : hi < 2 ^ s := Nat.lt_of_lt_of_le (show hi < 2 ^ 64 by omega) (Nat.pow_le_pow_right (by omega) q)
      rw [Nat.div_eq_of_lt h2] at hp; have h3 : x % 128 = 0 := by omega
      rw [h3]; simp [wrap64]
  · generalize x % 128 * 2 ^ s = y at *; unfold wrap64; omega
  · rcases Nat.eq_zero_or_pos (x % 128) with q | q
    · rw [q]; omega
    · have : 2 ^ s ≤ x % 128 * 2 ^ s := Nat.le_mul_of_pos_left _ q; omega
  · have : x % 128 * 2 ^ s ≤ 127 * 2 ^ s := Nat.mul_le_mul_right _ (by omega)
    rw [Nat.pow_add, show (2 : Nat) ^ 7 = 128 from rfl]; omega
set_option maxHeartbeats 2000000 in
set_option maxRecDepth 100000 in
theorem numberS {w : World} {p : Nat} {v : Value} {bs : List Nat} (lo hi : Nat) (h : RdAt w p v bs) (hb : ∀ x ∈ bs, x < 256) (hl : bs.length ≤ 140737488355328) (hhi : hi ≤ 2147483647) (hlo : lo ≤ 1) :
    Calls Tryz.prog 89 #[.pointer (some ⟨p, 0, none⟩), .int .i64 (lo : Nat), .int .i64 (hi : Nat)] w fun e w' => Hid (NumAns p v.ownBlock w (rdN lo hi 0 0 bs) e w') := by
  obtain ⟨N, hN⟩ : ∃ N, N = 7 * bs.length := ⟨_, rfl⟩; have HL : Hid (hi ≤ 2147483647 ∧ lo ≤ 1 ∧ N ≤ 985162418487296) := ⟨hhi, hlo, by omega⟩
  generalize hob : v.ownBlock = ob at *; have H0 : Hid (NumInv w p ob lo hi (rdN lo hi 0 0 bs) N w 0 0 v bs) := ⟨rfl, h, Turned.refl _ _, hob, by omega, by omega, by omega, hb⟩
  generalize rdN lo hi 0 0 bs = R at *; clear h hb hl hhi hlo hN hob
  go_enter Tryz.func89, Tryz.ntmps89
  go_wp2_with fail
  go_loopw [7, 8] (fun s7 s8 wr => ∃ (n s : Nat) (v' : Value) (bs' : List Nat), s7 = .int .i64 (n : Nat) ∧ s8 = .int .i64 (s : Nat) ∧ Hid (NumInv w p ob lo hi R N wr n s v' bs')) (fun _ s8 _ => N - (intOf s8).toNat)
  case atStart => exact ⟨0, 0, v, bs, rfl, rfl, unhide H0⟩
  case round =>
    obtain ⟨n, s, v', bs', rfl, rfl, HI⟩ := hrel; obtain ⟨i1, i2, i3, i4, i5, i6, i7, i8⟩ := unhide HI; obtain ⟨l1, l2, l3⟩ := unhide HL
    cases bs' with
    | nil => 
      have CN := hide (next0S i2); have HG : Hid (NumAns p ob w R (.panicked gaveUp) wr) := by rw [← i1]; exact ⟨rfl, i3⟩
      clear HI i1 i2 i3 i4 i5 i6 i7 i8 l1 l2 l3 H0; generalize gaveUp = gu at *
      go_wp2_with fail
      refine (unhide CN).mono ?_
      rintro e w1 ⟨rfl, rfl⟩
      exact ⟨rfl, HG⟩
    | cons x t =>
      have CN := hide (next1S i2); unfold u8v at CN; have hx : x < 256 := i8 x (by simp)
      obtain ⟨hs, e0⟩ : ∃ hs, hs = hi / 2 ^ s := ⟨_, rfl⟩; obtain ⟨pt, e1⟩ : ∃ pt, pt = x % 128 := ⟨_, rfl⟩; have y1 : (hi : Int) / 2 ^ min s 64 = (hs : Int) := by rw [e0]; exact shr_of l1
      have y2 : (x : Int) % 128 = (pt : Int) := by omega
      rw [rdN] at i1
      by_cases hA : hs < pt
      · rw [if_pos (by rw [← e0, ← e1]; exact hA)] at i1
        have z1 : (pt : Int) > (hs : Int) := by omega
        have HG : Hid (∀ W, Reads p wr W → NumAns p ob w R (.panicked gaveUp) W) := fun W h => by rw [← i1]; exact ⟨rfl, i3.trans h⟩
        have CU : Hid (∀ W : World, Calls Tryz.prog 88 #[] W fun e w' => e = .panicked gaveUp ∧ w' = W) := fun W => giveUpS W
        clear HI H0 HL i1 i2 i3 i4 i5 i6 i7 i8 l1 l2 l3 hx e0 e1 hA; generalize gaveUp = gu at *
        go_wp2_with fail
        refine (unhide CN).mono ?_
        rintro e w1 ⟨rfl, v1, H1⟩
        go_wp2_with fail
        refine (unhide CU _).mono ?_
        rintro e w2 ⟨rfl, rfl⟩
        exact ⟨rfl, unhide HG _ (unhide H1).2.1⟩
      · rw [if_neg (by rw [← e0, ← e1]; exact hA)] at i1
        obtain ⟨y, g0, g1, g2, g3, g4, g5⟩ := step_of (x := x) l1 i5 i6 (by rw [← e0, ← e1]; exact hA) l2
        obtain ⟨m, hm⟩ : ∃ m, m = n + y := ⟨_, rfl⟩; rw [← g0, ← hm] at i1; rw [← e1] at g2; rw [← hm] at g3 g4 g5; have z1 : ¬ (pt : Int) > (hs : Int) := by omega
        by_cases hB : 128 ≤ x
        · rw [if_pos hB] at i1; have z2 : (x : Int) ≥ 128 := by omega
          obtain ⟨s', hs'⟩ : ∃ s', s' = s + 7 := ⟨_, rfl⟩; have zs : Hid (wrap64 ((s : Int) + 7) = (s' : Int)) := by show wrap64 ((s : Int) + 7) = (s' : Int); rw [List.length_cons] at i7; unfold wrap64; omega
          have YM := hide g3; have HG : Hid (∀ W v1, RdAt W p v1 t → Reads p wr W → v1.ownBlock = v'.ownBlock → NumInv w p ob lo hi R N W m s' v1 t) := fun W v1 h1 h2 h3 =>
            ⟨by rw [hs']; exact i1, h1, i3.trans h2, h3.trans i4, g4, by rw [hs']; exact g5, by rw [List.length_cons] at i7; omega, fun q hq => i8 q (by simp [hq])⟩
          have HJ : Hid (N - s' < N - s) := by show N - s' < N - s; rw [List.length_cons] at i7; omega
          clear HI H0 HL i1 i2 i3 i4 i5 i6 i7 i8 l1 l2 l3 hx e0 e1 hA g0 g1 g3 g4 g5 hm hB hs'
          go_wp2_with fail
          refine (unhide CN).mono ?_
          rintro e w1 ⟨rfl, v1, H1⟩
          go_wp2_with fail
          refine ⟨⟨m, s', v1, t, by rw [unhide YM], by rw [unhide zs], unhide HG _ _ (unhide H1).1 (unhide H1).2.1 (unhide H1).2.2⟩, ?_⟩
          rw [unhide zs]; exact unhide HJ
        · rw [if_neg hB] at i1; have z2 : ¬ (x : Int) ≥ 128 := by omega
          have YM := hide g3; have HT : Hid (∀ W v1, RdAt W p v1 t → Reads p wr W → v1.ownBlock = v'.ownBlock → Reads p w W ∧ RdAt W p v1 t ∧ v1.ownBlock = ob) := fun W v1 h0 h1 h2 => ⟨i3.trans h1, h0, h2.trans i4⟩
          have HI1 : Hid (((x = 0 ∧ 0 < s) ∨ m < lo ∨ hi < m → R = none) ∧ (¬ ((x = 0 ∧ 0 < s) ∨ m < lo ∨ hi < m) → R = some (m, t))) := ⟨fun q => by rw [← i1, if_pos q], fun q => by rw [← i1, if_neg q]⟩
          have CU : Hid (∀ W : World, Calls Tryz.prog 88 #[] W fun e w' => e = .panicked gaveUp ∧ w' = W) := fun W => giveUpS W
          clear HI H0 HL i1 i2 i3 i4 i5 i6 i7 i8 l1 l2 l3 hx e0 e1 hA g0 g1 g3 g4 g5 hm hB
          go_wp2_with fail
          refine (unhide CN).mono ?_
          rintro e w1 ⟨rfl, v1, H1⟩
          have HN : Hid (R = none → NumAns p ob w R (.panicked gaveUp) w1) := fun q => by rw [q]; exact ⟨rfl, (unhide HT _ _ (unhide H1).1 (unhide H1).2.1 (unhide H1).2.2).1⟩
          have HS : Hid (R = some (m, t) → NumAns p ob w R (.returned (.int .i64 (m : Nat))) w1) := fun q => by
            rw [q]; obtain ⟨q1, q2, q3⟩ := unhide HT _ _ (unhide H1).1 (unhide H1).2.1 (unhide H1).2.2; exact ⟨rfl, q1, v1, q2, q3⟩
          generalize gaveUp = gu at *
          go_upto_region 10 with fail
          rw [unhide YM]; clear y1 y2 z1 z2 CN HT H1 YM
          by_cases q0 : x = 0 ∧ 0 < s
          · obtain ⟨rfl, q0⟩ := q0; have z3 : (s : Int) > 0 := by omega
            have HA : Hid (NumAns p ob w R (.panicked gu) w1) := unhide HN ((unhide HI1).1 (by omega))
            clear HN HS HI1
            go_wp2_with fail
            refine (unhide CU _).mono ?_
            rintro e w2 ⟨rfl, rfl⟩
            exact ⟨rfl, HA⟩
          · by_cases q1 : x = 0
            · subst q1; obtain rfl : s = 0 := by omega
              clear q0
              by_cases q2 : m < lo
              · have z4 : (m : Int) < (lo : Int) := by omega
                have HA : Hid (NumAns p ob w R (.panicked gu) w1) := unhide HN ((unhide HI1).1 (by omega))
                clear HN HS HI1 q2
                go_wp2_with fail
                refine (unhide CU _).mono ?_
                rintro e w2 ⟨rfl, rfl⟩
                exact ⟨rfl, HA⟩
              · have z4 : ¬ (m : Int) < (lo : Int) := by omega
                by_cases q3 : hi < m
                · have z5 : (m : Int) > (hi : Int) := by omega
                  have HA : Hid (NumAns p ob w R (.panicked gu) w1) := unhide HN ((unhide HI1).1 (by omega))
                  clear HN HS HI1 q2 q3
                  go_wp2_with fail
                  refine (unhide CU _).mono ?_
                  rintro e w2 ⟨rfl, rfl⟩
                  exact ⟨rfl, HA⟩
                · have z5 : ¬ (m : Int) > (hi : Int) := by omega
                  have HA : Hid (NumAns p ob w R (.returned (.int .i64 (m : Nat))) w1) := unhide HS ((unhide HI1).2 (by omega))
                  clear HN HS HI1 q2 q3
                  go_wp2_with fail
                  go_ret
                  exact HA
            · have z3 : ((x : Int) == 0) = false := by simp; omega
              have q1' := hide q1; have q0' := hide q0; clear q0 q1
              by_cases q2 : m < lo
              · have z4 : (m : Int) < (lo : Int) := by omega
                have HA : Hid (NumAns p ob w R (.panicked gu) w1) := unhide HN ((unhide HI1).1 (by have h1 := unhide q1'; have h2 := unhide q0'; omega))
                clear HN HS HI1 q2
                go_wp2_with fail
                refine (unhide CU _).mono ?_
                rintro e w2 ⟨rfl, rfl⟩
                exact ⟨rfl, HA⟩
              · have z4 : ¬ (m : Int) < (lo : Int) := by omega
                by_cases q3 : hi < m
                · have z5 : (m : Int) > (hi : Int) := by omega
                  have HA : Hid (NumAns p ob w R (.panicked gu) w1) := unhide HN ((unhide HI1).1 (by have h1 := unhide q1'; have h2 := unhide q0'; omega))
                  clear HN HS HI1 q2 q3
                  go_wp2_with fail
                  refine (unhide CU _).mono ?_
                  rintro e w2 ⟨rfl, rfl⟩
                  exact ⟨rfl, HA⟩
                · have z5 : ¬ (m : Int) > (hi : Int) := by omega
                  have HA : Hid (NumAns p ob w R (.returned (.int .i64 (m : Nat))) w1) := unhide HS ((unhide HI1).2 (by have h1 := unhide q1'; have h2 := unhide q0'; omega))
                  clear HN HS HI1 q2 q3
                  go_wp2_with fail
                  go_ret
                  exact HA
end W16

namespace W16
open Go.RowKit Go.Maps
def BitAns (p : Nat) (ob : Option Nat) (w : World) (r : Option (Nat × List Nat)) (e : Ending) (w' : World) : Prop :=
  match r with
  | none => e = .panicked gaveUp ∧ Reads p w w'
  | some (x, t) => e = .returned (.int .u32 (x : Nat)) ∧ Reads p w w' ∧ ∃ v', RdAt w' p v' t ∧ v'.ownBlock = ob
def rdK : Nat → Nat → List Nat → Option (Nat × List Nat)
  | 0, u, t => some (u, t)
  | _ + 1, _, [] => none
  | k + 1, u, x :: t => rdK k (u + x * 256 ^ (3 - k)) t
theorem rdK_B (bs : List Nat) : rdK 4 0 bs = rdB bs := by
  match bs with
  | [] => rfl
  | [_] => rfl
  | [_, _] => rfl
  | [_, _, _] => rfl
  | x0 :: x1 :: x2 :: x3 :: t => show some (_, _) = some (_, _); unfold bv; simp
def BitInv (w : World) (p : Nat) (ob : Option Nat) (R : Option (Nat × List Nat)) (wr : World) (k u : Nat) (v' : Value) (bs' : List Nat) : Prop :=
  rdK (4 - k) u bs' = R ∧ RdAt wr p v' bs' ∧ Reads p w wr ∧ v'.ownBlock = ob ∧ k ≤ 4 ∧ u < 256 ^ k ∧ ∀ x ∈ bs', x < 256
theorem or_add (i u x : Nat) (hu : u < 2 ^ i) (hy : 2 ^ i * x < 4294967296) (hu2 : u < 4294967296) : bits .or .u32 (u : Int) ((2 ^ i * x : Nat) : Int) = ((u + 2 ^ i * x : Nat) : Int) := by
  rw [u32_or_nat u (2 ^ i * x) hu2 hy, Nat.or_comm, ← Nat.two_pow_add_eq_or_of_lt hu, Nat.add_comm]
set_option maxHeartbeats 2000000 in
set_option maxRecDepth 100000 in
theorem bitsS {w : World} {p : Nat} {v : Value} {bs : List Nat} (h : RdAt w p v bs) (hb : ∀ x ∈ bs, x < 256) :
    Calls Tryz.prog 90 #[.pointer (some ⟨p, 0, none⟩)] w fun e w' => Hid (BitAns p v.ownBlock w (rdB bs) e w') := by
  rw [← rdK_B]; generalize hob : v.ownBlock = ob at *; have H0 : Hid (BitInv w p ob (rdK 4 0 bs) w 0 0 v bs) := ⟨rfl, h, Turned.refl _ _, hob, by omega, by omega, hb⟩
  generalize rdK 4 0 bs = R at *; clear h hb hob
  go_enter Tryz.func90, Tryz.ntmps90
  go_wp2_with fail
  go_loopw [3, 4] (fun s3 s4 wr => ∃ (k u : Nat) (v' : Value) (bs' : List Nat), s3 = .int .u32 (u : Nat) ∧ s4 = .int .i64 ((8 * k : Nat) : Int) ∧ Hid (BitInv w p ob R wr k u v' bs')) (fun _ s4 _ => 40 - (intOf s4).toNat)
  case atStart => exact ⟨0, 0, v, bs, rfl, rfl, unhide H0⟩
  case round =>
    obtain ⟨k, u, v', bs', rfl, rfl, HI⟩ := hrel; obtain ⟨i1, i2, i3, i4, i5, i6, i7⟩ := unhide HI
    by_cases h4 : k = 4
    · subst h4; have HA : Hid (BitAns p ob w R (.returned (.int .u32 (u : Nat))) wr) := by rw [← i1]; exact ⟨rfl, i3, v', i2, i4⟩
      clear HI i1 i2 i3 i4 i5 i6 i7 H0
      go_wp2_with fail
      go_ret
      exact HA
    · cases bs' with
      | nil =>
        have CN := hide (next0S i2); have e : 4 - k = (3 - k) + 1 := by omega
        have HG : Hid (BitAns p ob w R (.panicked gaveUp) wr) := by rw [← i1, e]; exact ⟨rfl, i3⟩
        have z1 : ((8 * k : Nat) : Int) < 32 := by omega
        clear HI i1 i2 i3 i4 i5 i6 i7 H0 h4 e; generalize ((8 * k : Nat) : Int) = k8 at *; generalize gaveUp = gu at *
        go_wp2_with fail
        refine (unhide CN).mono ?_
        rintro e w1 ⟨rfl, rfl⟩
        exact ⟨rfl, HG⟩
      | cons x t =>
        have CN := hide (next1S i2); unfold u8v at CN; have hx : x < 256 := i7 x (by simp)
        have hk : k = 0 ∨ k = 1 ∨ k = 2 ∨ k = 3 := by omega
        rcases hk with rfl | rfl | rfl | rfl
        · have E1 : Hid (bits .or .u32 (u : Int) (x : Int) = ((u + x * 256 ^ 0 : Nat) : Int)) := by
            show bits .or .u32 (u : Int) (x : Int) = _; have e1 : (x : Int) = ((2 ^ 0 * x : Nat) : Int) := by simp; try omega
            rw [e1, or_add 0 u x (by simpa using i6) (by simp; omega) (by simp at i6; omega)]
            simp; try omega
          have HG : Hid (∀ W v1, RdAt W p v1 t → Reads p wr W → v1.ownBlock = v'.ownBlock → BitInv w p ob R W 1 (u + x * 256 ^ 0) v1 t) := fun W v1 h1 h2 h3 =>
            ⟨i1, h1, i3.trans h2, h3.trans i4, by omega, by simp at i6 ⊢; omega, fun q hq => i7 q (by simp [hq])⟩
          clear HI H0 i1 i2 i3 i4 i5 i6 i7 h4
          go_wp2_with fail
          refine (unhide CN).mono ?_
          rintro e w1 ⟨rfl, v1, H1⟩
          go_wp2_with fail
          exact ⟨⟨1, u + x * 256 ^ 0, v1, t, by rw [unhide E1], rfl, unhide HG _ _ (unhide H1).1 (unhide H1).2.1 (unhide H1).2.2⟩, by simp [intOf]⟩
        · have E1 : Hid (bits .or .u32 (u : Int) ((x : Int) * 256) = ((u + x * 256 ^ 1 : Nat) : Int)) := by
            show bits .or .u32 (u : Int) ((x : Int) * 256) = _; have e1 : ((x : Int) * 256) = ((2 ^ 8 * x : Nat) : Int) := by simp; try omega
            rw [e1, or_add 8 u x (by simpa using i6) (by simp; omega) (by simp at i6; omega)]
            simp; try omega
          have HG : Hid (∀ W v1, RdAt W p v1 t → Reads p wr W → v1.ownBlock = v'.ownBlock → BitInv w p ob R W 2 (u + x * 256 ^ 1) v1 t) := fun W v1 h1 h2 h3 =>
            ⟨i1, h1, i3.trans h2, h3.trans i4, by omega, by simp at i6 ⊢; omega, fun q hq => i7 q (by simp [hq])⟩
          clear HI H0 i1 i2 i3 i4 i5 i6 i7 h4
          go_wp2_with fail
          refine (unhide CN).mono ?_
          rintro e w1 ⟨rfl, v1, H1⟩
          go_wp2_with fail
          exact ⟨⟨2, u + x * 256 ^ 1, v1, t, by rw [unhide E1], rfl, unhide HG _ _ (unhide H1).1 (unhide H1).2.1 (unhide H1).2.2⟩, by simp [intOf]⟩
        · have E1 : Hid (bits .or .u32 (u : Int) ((x : Int) * 65536) = ((u + x * 256 ^ 2 : Nat) : Int)) := by
            show bits .or .u32 (u : Int) ((x : Int) * 65536) = _; have e1 : ((x : Int) * 65536) = ((2 ^ 16 * x : Nat) : Int) := by simp; try omega
            rw [e1, or_add 16 u x (by simpa using i6) (by simp; omega) (by simp at i6; omega)]
            simp; try omega
          have HG : Hid (∀ W v1, RdAt W p v1 t → Reads p wr W → v1.ownBlock = v'.ownBlock → BitInv w p ob R W 3 (u + x * 256 ^ 2) v1 t) := fun W v1 h1 h2 h3 =>
            ⟨i1, h1, i3.trans h2, h3.trans i4, by omega, by simp at i6 ⊢; omega, fun q hq => i7 q (by simp [hq])⟩
          clear HI H0 i1 i2 i3 i4 i5 i6 i7 h4
          go_wp2_with fail
          refine (unhide CN).mono ?_
          rintro e w1 ⟨rfl, v1, H1⟩
          go_wp2_with fail
          exact ⟨⟨3, u + x * 256 ^ 2, v1, t, by rw [unhide E1], rfl, unhide HG _ _ (unhide H1).1 (unhide H1).2.1 (unhide H1).2.2⟩, by simp [intOf]⟩
        · have E1 : Hid (bits .or .u32 (u : Int) ((x : Int) * 16777216) = ((u + x * 256 ^ 3 : Nat) : Int)) := by
            show bits .or .u32 (u : Int) ((x : Int) * 16777216) = _; have e1 : ((x : Int) * 16777216) = ((2 ^ 24 * x : Nat) : Int) := by simp; try omega
            rw [e1, or_add 24 u x (by simpa using i6) (by simp; omega) (by simp at i6; omega)]
            simp; try omega
          have HG : Hid (∀ W v1, RdAt W p v1 t → Reads p wr W → v1.ownBlock = v'.ownBlock → BitInv w p ob R W 4 (u + x * 256 ^ 3) v1 t) := fun W v1 h1 h2 h3 =>
            ⟨i1, h1, i3.trans h2, h3.trans i4, by omega, by simp at i6 ⊢; omega, fun q hq => i7 q (by simp [hq])⟩
          clear HI H0 i1 i2 i3 i4 i5 i6 i7 h4
          go_wp2_with fail
          refine (unhide CN).mono ?_
          rintro e w1 ⟨rfl, v1, H1⟩
          go_wp2_with fail
          exact ⟨⟨4, u + x * 256 ^ 3, v1, t, by rw [unhide E1], rfl, unhide HG _ _ (unhide H1).1 (unhide H1).2.1 (unhide H1).2.2⟩, by simp [intOf]⟩
end W16

namespace W16
open Go.RowKit Go.Maps
def oW (F T : Int) (u : Nat) (ev : Value) : Obj := .cells #[.int .i64 F, .int .i64 T, .int .u32 (u : Nat), ev] 35
theorem oW_cells {w : World} {b : Nat} {F T : Int} {u : Nat} {ev : Value} (h : w.heap[b]? = some (oW F T u ev)) :
    (w.cell? ⟨b, 0, none⟩ = some (.int .i64 F) ∧ w.cell? ⟨b, 1, none⟩ = some (.int .i64 T) ∧ w.cell? ⟨b, 2, none⟩ = some (.int .u32 (u : Nat)) ∧ w.cell? ⟨b, 3, none⟩ = some ev) ∧
    w.frozen? ⟨b, 0, none⟩ = false ∧ w.frozen? ⟨b, 1, none⟩ = false ∧ w.frozen? ⟨b, 2, none⟩ = false ∧ w.frozen? ⟨b, 3, none⟩ = false :=
  ⟨⟨(cell_of_row _ _ 0 _ _ (0, 0) h).trans rfl, (cell_of_row _ _ 1 _ _ (0, 0) h).trans rfl, (cell_of_row _ _ 2 _ _ (0, 0) h).trans rfl, (cell_of_row _ _ 3 _ _ (0, 0) h).trans rfl⟩,
    frozen_of_row _ _ 0 _ _ h, frozen_of_row _ _ 1 _ _ h, frozen_of_row _ _ 2 _ _ h, frozen_of_row _ _ 3 _ _ h⟩
structure WS (w0 : World) (p r0 b3 : Nat) (ob : Option Nat) (w : World) (bs : List Nat) (F T : Int) (u : Nat) (ev : Value) (es : List Int) : Prop where
  lt : p < w0.heap.size ∧ w0.heap.size ≤ r0 ∧ w0.heap.size ≤ b3 ∧ r0 ≠ b3 ∧ ∀ g, ob = some g → g < w0.heap.size
  t : Reads p w0 w
  rd : ∃ v, RdAt w p v bs ∧ v.ownBlock = ob
  res : w.heap[r0]? = some (oW 0 0 0 (.slice none 0 0))
  box : w.heap[b3]? = some (oW F T u ev)
  row : NRow w0.heap.size w ev es
  apart : ev.ownBlock ≠ some b3 ∧ ev.ownBlock ≠ some r0
section
variable {w0 w w1 : World} {p r0 b3 : Nat} {ob : Option Nat} {bs t : List Nat} {F T : Int} {u : Nat} {ev : Value} {es : List Int}
theorem WS.size (S : WS w0 p r0 b3 ob w bs F T u ev es) : w0.heap.size ≤ w.heap.size ∧ r0 < w.heap.size ∧ b3 < w.heap.size := ⟨S.t.size, heap_lt S.res, heap_lt S.box⟩
theorem rd_turned {S : Nat → Prop} {v : Value} (h : RdAt w p v bs) (ht : Turned S w w1) (hp : ¬ S p) (hs : ∀ b, v.ownBlock = some b → ¬ S b) : RdAt w1 p v bs :=
  ⟨(ht.block _ (heap_lt h.1) hp).trans h.1, lies_turned h.2.1 ht hs, h.2.2⟩
theorem WS.read (S : WS w0 p r0 b3 ob w bs F T u ev es) (h : Reads p w w1) (hr : ∃ v1, RdAt w1 p v1 t ∧ v1.ownBlock = ob) : WS w0 p r0 b3 ob w1 t F T u ev es := by
  obtain ⟨h1, h2, h3⟩ := S.size; obtain ⟨l1, l2, l3, l4, l5⟩ := S.lt; refine ⟨S.lt, S.t.trans h, hr, (h.block _ h2 (by omega)).trans S.res, (h.block _ h3 (by omega)).trans S.box, rrow_kept S.row (fun b e => ?_), S.apart⟩
  obtain ⟨q1, q2⟩ := S.row.lt b e; exact h.block b q2 (by omega)
theorem WS.drew (S : WS w0 p r0 b3 ob w bs F T u ev es) : WS w0 p r0 b3 ob w.drew bs F T u ev es :=
  ⟨S.lt, ⟨S.t.os, S.t.tape, S.t.output, S.t.size, S.t.block⟩, S.rd, S.res, S.box, S.row, S.apart⟩
theorem WS.put (S : WS w0 p r0 b3 ob w bs F T u ev es) {i : Nat} {x : Value} {F' T' : Int} {u' : Nat} (e : (w.setCell ⟨b3, i, none⟩ x).heap[b3]? = some (oW F' T' u' ev)) : WS w0 p r0 b3 ob (w.setCell ⟨b3, i, none⟩ x) bs F' T' u' ev es := by
  obtain ⟨h1, h2, h3⟩ := S.size; obtain ⟨l1, l2, l3, l4, l5⟩ := S.lt; have ht : Turned (fun b => b = b3) w (w.setCell ⟨b3, i, none⟩ x) := turned_setCell w ⟨b3, i, none⟩ x rfl
  obtain ⟨v, r1, r2⟩ := S.rd; refine ⟨S.lt, S.t.then_ ht (fun i hi e => by omega), ⟨v, rd_turned r1 ht (by omega) (fun b e1 e2 => by rw [r2] at e1; have := l5 b e1; omega), r2⟩, (ht.block _ h2 (by omega)).trans S.res, e, rrow_kept S.row (fun b e => ht.block b (S.row.lt b e).2 (fun q => S.apart.1 (by rw [e, q]))), S.apart⟩
theorem WS.put0 (S : WS w0 p r0 b3 ob w bs F T u ev es) (x : Int) : WS w0 p r0 b3 ob (w.setCell ⟨b3, 0, none⟩ (.int .i64 x)) bs x T u ev es := S.put ((heap_setCell_same w b3 0 _ _ _ S.box).trans rfl)
theorem WS.put1 (S : WS w0 p r0 b3 ob w bs F T u ev es) (x : Int) : WS w0 p r0 b3 ob (w.setCell ⟨b3, 1, none⟩ (.int .i64 x)) bs F x u ev es := S.put ((heap_setCell_same w b3 1 _ _ _ S.box).trans rfl)
theorem WS.put2 (S : WS w0 p r0 b3 ob w bs F T u ev es) (x : Nat) : WS w0 p r0 b3 ob (w.setCell ⟨b3, 2, none⟩ (.int .u32 (x : Nat))) bs F T x ev es := S.put ((heap_setCell_same w b3 2 _ _ _ S.box).trans rfl)
theorem WS.push (S : WS w0 p r0 b3 ob w bs F T u ev es) (x : Int) (hl : es.length ≤ 2000) : ∃ a' n' c' w2, (∀ ty, (Builtin.append_ #[25, 25] ty #[ev, .slice (some ⟨w.heap.size, 0, none⟩) 1 1]).run Tryz.prog (w.alloc (.cells #[.int .i64 x] 3)) = .ok (.slice a' n' c') w2) ∧
    w2.cell? ⟨b3, 3, none⟩ = some ev ∧ w2.frozen? ⟨b3, 3, none⟩ = false ∧ WS w0 p r0 b3 ob (w2.setCell ⟨b3, 3, none⟩ (.slice a' n' c')) bs F T u (.slice a' n' c') (es ++ [x]) := by
  obtain ⟨h1, h2, h3⟩ := S.size; obtain ⟨l1, l2, l3, l4, l5⟩ := S.lt; obtain ⟨a', n', c', w2, hr, g1, g2, g3⟩ := run_app1 (ts := 25) kitN Tryz.underlying25 infoN rfl (by omega) x (cs := #[.int .i64 x]) rfl S.row h1 (by omega)
  have n3 : ¬ (fun b => ev.ownBlock = some b) b3 := S.apart.1
  have n0 : ¬ (fun b => ev.ownBlock = some b) r0 := S.apart.2
  have hev : ∀ b, ev.ownBlock = some b → w0.heap.size ≤ b := fun b e => (S.row.lt b e).1
  have hbox := (g2.block _ h3 n3).trans S.box; have hres := (g2.block _ h2 n0).trans S.res; have ht2 : Turned (fun b => b = b3) w2 (w2.setCell ⟨b3, 3, none⟩ (.slice a' n' c')) := turned_setCell w2 ⟨b3, 3, none⟩ _ rfl
  have hap : (Value.slice a' n' c').ownBlock ≠ some b3 ∧ (Value.slice a' n' c').ownBlock ≠ some r0 := ⟨fun e => (g3 _ e).elim (fun q => S.apart.1 q) (fun q => by omega), fun e => (g3 _ e).elim (fun q => S.apart.2 q) (fun q => by omega)⟩
  obtain ⟨v, r1, r2⟩ := S.rd; refine ⟨a', n', c', w2, hr, (oW_cells hbox).1.2.2.2, (oW_cells hbox).2.2.2.2, S.lt, ?_, ⟨v, ?_, r2⟩, (ht2.block _ (by have := g2.size; omega) (by omega)).trans hres, (heap_setCell_same w2 b3 3 _ _ _ hbox).trans rfl, ?_, hap⟩
  · exact (S.t.then_ g2 (fun i hi e => by have := hev i e; omega)).then_ ht2 (fun i hi e => by omega)
  · exact rd_turned (rd_turned r1 g2 (fun e => by have := hev _ e; omega) (fun b e1 e2 => by have := hev _ e2; rw [r2] at e1; have := l5 b e1; omega)) ht2 (by omega) (fun b e1 e2 => by rw [r2] at e1; have := l5 b e1; omega)
  · exact rrow_kept g1 (fun b e => ht2.block b (g1.lt b e).2 (fun q => hap.1 (by rw [e, q])))
end
theorem ws_start {w0 w1 : World} {p r0 : Nat} {ob : Option Nat} {t : List Nat} (hp : p < w0.heap.size) (ho : ∀ g, ob = some g → g < w0.heap.size) (hr0 : r0 = w0.heap.size) (h : Reads p (w0.alloc (oW 0 0 0 (.slice none 0 0))) w1) (hr : ∃ v1, RdAt w1 p v1 t ∧ v1.ownBlock = ob) :
    WS w0 p r0 w1.heap.size ob (w1.alloc (oW 0 0 0 (.slice none 0 0))) t 0 0 0 (.slice none 0 0) [] := by
  subst hr0; have h0 := below_new w0 (oW 0 0 0 (.slice none 0 0)); have h1 := below_new w1 (oW 0 0 0 (.slice none 0 0)); have hs := h.size; have hn : (w0.alloc (oW 0 0 0 (.slice none 0 0))).heap.size = w0.heap.size + 1 := by simp
  have hnew := heap_alloc_new w0 (oW 0 0 0 (.slice none 0 0)); obtain ⟨v1, r1, r2⟩ := hr; refine ⟨⟨hp, Nat.le_refl _, by omega, by omega, ho⟩, ((turned_of_below h0 (S := fun b => b = p)).trans h).trans (turned_of_below h1), ⟨v1, rd_turned (S := fun _ => False) r1 (turned_of_below h1) id (fun _ _ => id), r2⟩, ?_, heap_alloc_new _ _, ⟨rfl, .inl ⟨rfl, rfl⟩⟩, ⟨(fun e => (by cases e)), (fun e => (by cases e))⟩⟩
  exact (h1.block _ (by omega)).trans ((h.block _ (by omega) (by omega)).trans hnew)
/-! what is still to be read -/
def DE (F T : Int) (u : Nat) (k : Nat) (es : List Int) (bs : List Nat) : Option WtV := (rdE k bs).bind fun z => if z.2 = [] then some (F, T, u, es ++ z.1) else none
def D4 (F T : Int) (u : Nat) (bs : List Nat) : Option WtV := (rdN 0 1024 0 0 bs).bind fun k => DE F T u k.1 [] k.2
def D3 (F T : Int) (bs : List Nat) : Option WtV := (rdB bs).bind fun u => D4 F T u.1 u.2
def D2 (F : Int) (bs : List Nat) : Option WtV := (rdN 0 2147483647 0 0 bs).bind fun q => D3 F (q.1 : Int) q.2
def D1 (bs : List Nat) : Option WtV := (rdN 0 2147483647 0 0 bs).bind fun q => D2 (q.1 : Int) q.2
theorem dec_cons (x : Nat) (t : List Nat) : dec (x :: t) = if x = 183 then D1 t else none := by
  rw [dec]; simp only [D1, D2, D3, D4, DE, List.nil_append]
theorem DE_step (F T : Int) (u k : Nat) (es : List Int) (bs : List Nat) : DE F T u (k + 1) es bs = (rdN 1 1024 0 0 bs).bind fun q => DE F T u k (es ++ [(q.1 : Int)]) q.2 := by
  unfold DE; rw [rdE]
  cases rdN 1 1024 0 0 bs with
  | none => rfl
  | some q =>
    simp only [Option.bind_some]
    cases rdE k q.2 with
    | none => rfl
    | some z => simp only [Option.map_some, Option.bind_some, List.append_assoc, List.singleton_append]
theorem DE_zero (F T : Int) (u : Nat) (es : List Int) (bs : List Nat) : DE F T u 0 es bs = if bs = [] then some (F, T, u, es) else none := by
  show (if bs = [] then some (F, T, u, es ++ []) else none) = _
  rw [List.append_nil]
section
variable {w0 w w1 : World} {p r0 b3 : Nat} {ob : Option Nat} {bs t : List Nat} {F T : Int} {u : Nat} {ev : Value} {es : List Int}
theorem WS.done (S : WS w0 p r0 b3 ob w bs F T u ev es) : (loadVar 35 ⟨r0, 0, none⟩).run Tryz.prog (set4 w r0 (.int .i64 F) (.int .i64 T) (.int .u32 (u : Nat)) ev) = .ok (.agg #[.int .i64 F, .int .i64 T, .int .u32 (u : Nat), ev]) (set4 w r0 (.int .i64 F) (.int .i64 T) (.int .u32 (u : Nat)) ev) ∧
    NRow w0.heap.size (set4 w r0 (.int .i64 F) (.int .i64 T) (.int .u32 (u : Nat)) ev) ev es ∧ Reads p w0 (set4 w r0 (.int .i64 F) (.int .i64 T) (.int .u32 (u : Nat)) ev) := by
  obtain ⟨l1, l2, l3, l4, l5⟩ := S.lt; have ht : Turned (fun b => b = r0) w (set4 w r0 (.int .i64 F) (.int .i64 T) (.int .u32 (u : Nat)) ev) := set4_turned (S := fun b => b = r0) w rfl _ _ _ _
  exact ⟨loadW _ _ _ _ _ _ (set4_at S.res _ _ _ _), rrow_kept S.row (fun b e => ht.block b (S.row.lt b e).2 (fun q => S.apart.2 (by rw [e, q]))), S.t.then_ ht (fun i hi e => by omega)⟩
end
def LI (w0 : World) (p r0 b3 : Nat) (ob : Option Nat) (R : Option WtV) (F T : Int) (u k : Nat) (w : World) (i : Nat) (bs : List Nat) (ev : Value) (es : List Int) : Prop :=
  i ≤ k ∧ es.length = i ∧ ((∀ x ∈ bs, x < 256) ∧ bs.length ≤ 140737488355328) ∧ DE F T u (k - i) es bs = R ∧ WS w0 p r0 b3 ob w bs F T u ev es
def WitAns (p : Nat) (w : World) (r : Option WtV) (e : Ending) (w' : World) : Prop :=
  match r with
  | none => e = .panicked gaveUp ∧ Reads p w w'
  | some x => ∃ ev, e = .returned (.agg #[.int .i64 x.1, .int .i64 x.2.1, .int .u32 (x.2.2.1 : Nat), ev]) ∧ NRow w.heap.size w' ev x.2.2.2 ∧ Reads p w w'
end W16

end Go.Proofs.YtagibmgbjhemkaaGreat
