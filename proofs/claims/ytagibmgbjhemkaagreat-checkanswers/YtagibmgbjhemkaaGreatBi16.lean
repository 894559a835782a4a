/- The reader: bits. -/
import Derived.Test.YtagibmgbjhemkaaGreatNu16
import Derived.Laws.BitsAllLaws
namespace Go.Proofs.YtagibmgbjhemkaaGreat.W16
open Go.RowKit Go.Maps
def BitAns (p : Nat) (ob : Option Nat) (w : World) (r : Option (Nat × List Nat)) (e : Ending) (w' : World) : Prop :=
  match r with
  | none => e = .panicked gaveUp ∧ Reads p w w'
  | some (x, t) => e = .returned (.int .u32 (x : Nat)) ∧ Reads p w w' ∧ ∃ v', RdAt w' p v' t ∧ v'.ownBlock = ob
/-- Four bytes, k of them read. -/
def rdK : Nat → Nat → List Nat → Option (Nat × List Nat)
  | 0, u, t => some (u, t)
  | _ + 1, _, [] => none
  | k + 1, u, x :: t => rdK k (u + x * 256 ^ (3 - k)) t
theorem rdK_B (bs : List Nat) : rdK 4 0 bs = rdB bs := by
  match bs with
  | [] => rfl
  | [_] => rfl
  | [_, _] => rfl
  | [_, _, _] => rfl
  | x0 :: x1 :: x2 :: x3 :: t => show some (_, _) = some (_, _); unfold bv; simp
def BitInv (w : World) (p : Nat) (ob : Option Nat) (R : Option (Nat × List Nat)) (wr : World) (k u : Nat) (v' : Value) (bs' : List Nat) : Prop :=
  rdK (4 - k) u bs' = R ∧ RdAt wr p v' bs' ∧ Reads p w wr ∧ v'.ownBlock = ob ∧ k ≤ 4 ∧ u < 256 ^ k ∧ ∀ x ∈ bs', x < 256
theorem or_add (i u x : Nat) (hu : u < 2 ^ i) (hy : 2 ^ i * x < 4294967296) (hu2 : u < 4294967296) : bits .or .u32 (u : Int) ((2 ^ i * x : Nat) : Int) = ((u + 2 ^ i * x : Nat) : Int) := by
  rw [u32_or_nat u (2 ^ i * x) hu2 hy, Nat.or_comm, ← Nat.two_pow_add_eq_or_of_lt hu, Nat.add_comm]
set_option maxHeartbeats 2000000 in
set_option maxRecDepth 100000 in
theorem bitsS {w : World} {p : Nat} {v : Value} {bs : List Nat} (h : RdAt w p v bs) (hb : ∀ x ∈ bs, x < 256) :
    Calls Tryz.prog 90 #[.pointer (some ⟨p, 0, none⟩)] w fun e w' => Hid (BitAns p v.ownBlock w (rdB bs) e w') := by
  rw [← rdK_B]
  generalize hob : v.ownBlock = ob at *
  have H0 : Hid (BitInv w p ob (rdK 4 0 bs) w 0 0 v bs) := ⟨rfl, h, Turned.refl _ _, hob, by omega, by omega, hb⟩
  generalize rdK 4 0 bs = R at *
  clear h hb hob
  go_enter Tryz.func90, Tryz.ntmps90
  go_wp2_with fail
  go_loopw [3, 4] (fun s3 s4 wr => ∃ (k u : Nat) (v' : Value) (bs' : List Nat), s3 = .int .u32 (u : Nat) ∧ s4 = .int .i64 ((8 * k : Nat) : Int) ∧ Hid (BitInv w p ob R wr k u v' bs')) (fun _ s4 _ => 40 - (intOf s4).toNat)
  case atStart => exact ⟨0, 0, v, bs, rfl, rfl, unhide H0⟩
  case round =>
    obtain ⟨k, u, v', bs', rfl, rfl, HI⟩ := hrel
    obtain ⟨i1, i2, i3, i4, i5, i6, i7⟩ := unhide HI
    by_cases h4 : k = 4
    · subst h4
      have HA : Hid (BitAns p ob w R (.returned (.int .u32 (u : Nat))) wr) := by rw [← i1]; exact ⟨rfl, i3, v', i2, i4⟩
      clear HI i1 i2 i3 i4 i5 i6 i7 H0
      go_wp2_with fail
      go_ret
      exact HA
    · cases bs' with
      | nil =>
        have CN := hide (next0S i2)
        have e : 4 - k = (3 - k) + 1 := by omega
        have HG : Hid (BitAns p ob w R (.panicked gaveUp) wr) := by rw [← i1, e]; exact ⟨rfl, i3⟩
        have z1 : ((8 * k : Nat) : Int) < 32 := by omega
        clear HI i1 i2 i3 i4 i5 i6 i7 H0 h4 e
        generalize ((8 * k : Nat) : Int) = k8 at *
        generalize gaveUp = gu at *
        go_wp2_with fail
        refine (unhide CN).mono ?_
        rintro e w1 ⟨rfl, rfl⟩
        exact ⟨rfl, HG⟩
      | cons x t =>
        have CN := hide (next1S i2)
        unfold u8v at CN
        have hx : x < 256 := i7 x (by simp)
        have hk : k = 0 ∨ k = 1 ∨ k = 2 ∨ k = 3 := by omega
        rcases hk with rfl | rfl | rfl | rfl
        · have E1 : Hid (bits .or .u32 (u : Int) (x : Int) = ((u + x * 256 ^ 0 : Nat) : Int)) := by
            show bits .or .u32 (u : Int) (x : Int) = _
            have e1 : (x : Int) = ((2 ^ 0 * x : Nat) : Int) := by simp; try omega
            rw [e1, or_add 0 u x (by simpa using i6) (by simp; omega) (by simp at i6; omega)]
            simp; try omega
          have HG : Hid (∀ W v1, RdAt W p v1 t → Reads p wr W → v1.ownBlock = v'.ownBlock → BitInv w p ob R W 1 (u + x * 256 ^ 0) v1 t) := fun W v1 h1 h2 h3 =>
            ⟨i1, h1, i3.trans h2, h3.trans i4, by omega, by simp at i6 ⊢; omega, fun q hq => i7 q (by simp [hq])⟩
          clear HI H0 i1 i2 i3 i4 i5 i6 i7 h4
          go_wp2_with fail
          refine (unhide CN).mono ?_
          rintro e w1 ⟨rfl, v1, H1⟩
          go_wp2_with fail
          exact ⟨⟨1, u + x * 256 ^ 0, v1, t, by rw [unhide E1], rfl, unhide HG _ _ (unhide H1).1 (unhide H1).2.1 (unhide H1).2.2⟩, by simp [intOf]⟩
        · have E1 : Hid (bits .or .u32 (u : Int) ((x : Int) * 256) = ((u + x * 256 ^ 1 : Nat) : Int)) := by
            show bits .or .u32 (u : Int) ((x : Int) * 256) = _
            have e1 : ((x : Int) * 256) = ((2 ^ 8 * x : Nat) : Int) := by simp; try omega
            rw [e1, or_add 8 u x (by simpa using i6) (by simp; omega) (by simp at i6; omega)]
            simp; try omega
          have HG : Hid (∀ W v1, RdAt W p v1 t → Reads p wr W → v1.ownBlock = v'.ownBlock → BitInv w p ob R W 2 (u + x * 256 ^ 1) v1 t) := fun W v1 h1 h2 h3 =>
            ⟨i1, h1, i3.trans h2, h3.trans i4, by omega, by simp at i6 ⊢; omega, fun q hq => i7 q (by simp [hq])⟩
          clear HI H0 i1 i2 i3 i4 i5 i6 i7 h4
          go_wp2_with fail
          refine (unhide CN).mono ?_
          rintro e w1 ⟨rfl, v1, H1⟩
          go_wp2_with fail
          exact ⟨⟨2, u + x * 256 ^ 1, v1, t, by rw [unhide E1], rfl, unhide HG _ _ (unhide H1).1 (unhide H1).2.1 (unhide H1).2.2⟩, by simp [intOf]⟩
        · have E1 : Hid (bits .or .u32 (u : Int) ((x : Int) * 65536) = ((u + x * 256 ^ 2 : Nat) : Int)) := by
            show bits .or .u32 (u : Int) ((x : Int) * 65536) = _
            have e1 : ((x : Int) * 65536) = ((2 ^ 16 * x : Nat) : Int) := by simp; try omega
            rw [e1, or_add 16 u x (by simpa using i6) (by simp; omega) (by simp at i6; omega)]
            simp; try omega
          have HG : Hid (∀ W v1, RdAt W p v1 t → Reads p wr W → v1.ownBlock = v'.ownBlock → BitInv w p ob R W 3 (u + x * 256 ^ 2) v1 t) := fun W v1 h1 h2 h3 =>
            ⟨i1, h1, i3.trans h2, h3.trans i4, by omega, by simp at i6 ⊢; omega, fun q hq => i7 q (by simp [hq])⟩
          clear HI H0 i1 i2 i3 i4 i5 i6 i7 h4
          go_wp2_with fail
          refine (unhide CN).mono ?_
          rintro e w1 ⟨rfl, v1, H1⟩
          go_wp2_with fail
          exact ⟨⟨3, u + x * 256 ^ 2, v1, t, by rw [unhide E1], rfl, unhide HG _ _ (unhide H1).1 (unhide H1).2.1 (unhide H1).2.2⟩, by simp [intOf]⟩
        · have E1 : Hid (bits .or .u32 (u : Int) ((x : Int) * 16777216) = ((u + x * 256 ^ 3 : Nat) : Int)) := by
            show bits .or .u32 (u : Int) ((x : Int) * 16777216) = _
            have e1 : ((x : Int) * 16777216) = ((2 ^ 24 * x : Nat) : Int) := by simp; try omega
            rw [e1, or_add 24 u x (by simpa using i6) (by simp; omega) (by simp at i6; omega)]
            simp; try omega
          have HG : Hid (∀ W v1, RdAt W p v1 t → Reads p wr W → v1.ownBlock = v'.ownBlock → BitInv w p ob R W 4 (u + x * 256 ^ 3) v1 t) := fun W v1 h1 h2 h3 =>
            ⟨i1, h1, i3.trans h2, h3.trans i4, by omega, by simp at i6 ⊢; omega, fun q hq => i7 q (by simp [hq])⟩
          clear HI H0 i1 i2 i3 i4 i5 i6 i7 h4
          go_wp2_with fail
          refine (unhide CN).mono ?_
          rintro e w1 ⟨rfl, v1, H1⟩
          go_wp2_with fail
          exact ⟨⟨4, u + x * 256 ^ 3, v1, t, by rw [unhide E1], rfl, unhide HG _ _ (unhide H1).1 (unhide H1).2.1 (unhide H1).2.2⟩, by simp [intOf]⟩
end Go.Proofs.YtagibmgbjhemkaaGreat.W16
