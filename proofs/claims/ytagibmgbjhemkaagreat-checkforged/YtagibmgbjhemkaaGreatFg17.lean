/- What is accepted, what is not, as mathematics. -/
import Derived.Test.YtagibmgbjhemkaaGreatRn16
import Derived.Test.YtagibmgbjhemkaaGreatSa16
namespace Go.Proofs.YtagibmgbjhemkaaGreat

section
open Go.RowKit Go.Maps
open W16 (WtV Lies u8v i64v dec decV DecAns)
theorem chkA_len {V : Int → Bool} {ps : List (EdgeV × Bool)} {bs : List Nat} (hb : ∀ x ∈ bs, x < 256) : (chkA V ps bs).1.2.2.2.length ≤ 1024 ∧ (decV bs).1.2.2.2.length ≤ 1024 := by
  unfold chkA W16.decV
  cases hd : dec bs with
  | none => exact ⟨Nat.zero_le _, Nat.zero_le _⟩
  | some x =>
    have := (dec_oks hb hd).2.2.2.1
    refine ⟨?_, this⟩
    simp only
    split
    · exact this
    · exact Nat.zero_le _
end

section
open Go.RowKit Go.Maps
open W16 (WtV Lies u8v i64v dec decV DecAns)
theorem hold_ok {hF hT : Bool} {ps : List (EdgeV × Bool)} {F T : Int} {u : Nat} {es : List Int} (h : (holdA hF hT (trip ps F es) F T u).2 = 0) : hF = true ∧ hT = true ∧ (trip ps F es).2 = none ∧ endOf F (trip ps F es).1 = T ∧ costOf (trip ps F es).1 = u := by
  unfold holdA at h
  by_cases h1 : hF = false ∨ hT = false
  · rw [if_pos h1] at h; cases h
  rw [if_neg h1] at h
  by_cases h2 : (trip ps F es).2 ≠ none
  · rw [if_pos h2] at h
    rcases tCode_ne h2 with e | e <;> (simp only [tCode, e] at h; cases h)
  rw [if_neg h2] at h
  by_cases h3 : endOf F (trip ps F es).1 ≠ T
  · rw [if_pos h3] at h; cases h
  rw [if_neg h3] at h
  by_cases h4 : costOf (trip ps F es).1 ≠ u
  · rw [if_pos h4] at h; cases h
  refine ⟨?_, ?_, Classical.not_not.1 h2, Classical.not_not.1 h3, Classical.not_not.1 h4⟩
  · cases hF with
    | true => rfl
    | false => exact absurd (.inl rfl) h1
  · cases hT with
    | true => rfl
    | false => exact absurd (.inr rfl) h1
theorem hold_codes {hF hT : Bool} {ps : List (EdgeV × Bool)} {F T : Int} {u : Nat} {es : List Int} : (holdA hF hT (trip ps F es) F T u).2 ≠ 160 ∧ (holdA hF hT (trip ps F es) F T u).1 ≤ es.length := by
  unfold holdA
  split
  · exact ⟨by decide, Nat.zero_le _⟩
  split
  · rename_i h2
    refine ⟨?_, trip_len _ _⟩
    rcases tCode_ne h2 with e | e <;> (simp only [tCode, e]; decide)
  split
  · exact ⟨by decide, Nat.zero_le _⟩
  split
  · exact ⟨by decide, Nat.zero_le _⟩
  · exact ⟨by decide, Nat.zero_le _⟩
theorem chk_forms {V : Int → Bool} {ps : List (EdgeV × Bool)} {bs : List Nat} :
    ((chkA V ps bs).2.2 ≠ 0 → (chkA V ps bs).1 = (0, 0, 0, []) ∧ (chkA V ps bs).2.1 ≤ (decV bs).1.2.2.2.length) ∧ ((chkA V ps bs).2.2 = 0 → ∃ F T u es, dec bs = some (F, T, u, es) ∧ chkA V ps bs = ((F, T, u, es), 0, 0) ∧ decV bs = ((F, T, u, es), 0) ∧ (trip ps F es).2 = none ∧ endOf F (trip ps F es).1 = T ∧ costOf (trip ps F es).1 = u ∧ V F = true ∧ V T = true) ∧ (decide ((decV bs).2 ≠ 0) = decide ((chkA V ps bs).2.2 = 160)) := by
  cases hd : dec bs with
  | none =>
    have e1 : chkA V ps bs = ((0, 0, 0, []), 0, 160) := by unfold chkA; rw [hd]
    rw [e1, decV_none hd]
    exact ⟨fun _ => ⟨rfl, Nat.zero_le _⟩, fun h => (by cases h), rfl⟩
  | some x =>
    obtain ⟨F, T, u, es⟩ := x
    have hc := chk_hold (V := V) (ps := ps) hd
    obtain ⟨c1, c2⟩ := hold_codes (hF := V F) (hT := V T) (ps := ps) (F := F) (T := T) (u := u) (es := es)
    simp only at hc
    rw [← hc] at c1 c2
    rw [decV_some hd]
    have hx : (chkA V ps bs).1 = if (holdA (V F) (V T) (trip ps F es) F T u).2 = 0 then (F, T, u, es) else (0, 0, 0, []) := by
      unfold chkA; rw [hd]
      simp only
      split <;> rfl
    refine ⟨fun h => ⟨?_, c2⟩, fun h => ?_, ?_⟩
    · rw [hx, if_neg (by rw [← hc]; exact h)]
    · rw [hc] at h
      obtain ⟨g1, g2, g3, g4, g5⟩ := hold_ok h
      refine ⟨F, T, u, es, rfl, ?_, rfl, g3, g4, g5, g1, g2⟩
      have := hold_zero h
      rw [← hc] at this
      exact Prod.ext (by rw [hx, if_pos h]) this
    · simp [c1]
theorem xor_ne (u : Nat) : u ^^^ 1 ≠ u := fun h => by
  have := congrArg (· ^^^ u) h
  simp only [Nat.xor_self] at this
  rw [Nat.xor_comm u 1, Nat.xor_assoc, Nat.xor_self] at this
  cases this
theorem clm_other {V : Int → Bool} {ps : List (EdgeV × Bool)} {bs : List Nat} {F T : Int} {u : Nat} {es : List Int} (hd : dec bs = some (F, T, u, es)) {f t : Int} {b : Nat} (h : ¬ (F = f ∧ T = t ∧ u = b)) : clmA V ps bs f t b = (0, 172) := by
  unfold clmA; rw [hd]; exact if_neg h
theorem clm_same {V : Int → Bool} {ps : List (EdgeV × Bool)} {bs : List Nat} {F T : Int} {u : Nat} {es : List Int} (hd : dec bs = some (F, T, u, es)) : clmA V ps bs F T u = (chkA V ps bs).2 := by
  rw [chk_hold hd]; unfold clmA; rw [hd]; exact if_pos ⟨rfl, rfl, rfl⟩
theorem xor_lt {u : Nat} (h : u < 4294967296) : u ^^^ 1 < 4294967296 := Nat.xor_lt_two_pow (n := 32) h (by decide)
theorem bits_xor1 {u : Nat} (h : u < 4294967296) : bits .xor .u32 (u : Int) 1 = ((u ^^^ 1 : Nat) : Int) := by
  have h1 : (BitVec.ofInt 32 (u : Int) ^^^ BitVec.ofInt 32 1).toNat = u ^^^ 1 := by
    rw [BitVec.toNat_xor, BitVec.ofInt_natCast, show BitVec.ofInt 32 1 = 1#32 from rfl]
    simp only [BitVec.toNat_ofNat, Nat.mod_eq_of_lt (show u < 2 ^ 32 by simpa using h)]
  show IntKind.u32.wrap ((BitVec.ofInt 32 (u : Int) ^^^ BitVec.ofInt 32 1).toNat : Int) = _
  rw [h1]
  have := xor_lt h
  generalize u ^^^ 1 = n at *
  show IntKind.u32.wrap (n : Int) = _
  rw [IntKind.wrap_u32]; omega
end

end Go.Proofs.YtagibmgbjhemkaaGreat
