/- The reference's number. -/
import Derived.Test.YtagibmgbjhemkaaGreatFd16
import Derived.Test.YtagibmgbjhemkaaGreatMt16
namespace Go.Proofs.YtagibmgbjhemkaaGreat.W16
open Go.RowKit Go.Maps
/-- What it says of bytes that are a number's. -/
def NumR (bs : List Nat) (at_ n at2 : Nat) : Prop := n < 34359738368 ∧ at2 ≤ max bs.length (at_ + 5) ∧ ∀ m t, bs.drop at_ = nb m ++ t → m < 34359738368 → n = m ∧ bs.drop at2 = t ∧ at2 = at_ + (nb m).length
/-- In the midst. -/
def NumI (bs : List Nat) (at_ n sc i : Nat) : Prop := (∃ j, i = at_ + j ∧ j ≤ 5 ∧ sc = 128 ^ j ∧ n < 128 ^ j) ∧ ∀ m t, bs.drop at_ = nb m ++ t → m < 34359738368 → ∃ m', bs.drop i = nb m' ++ t ∧ m = n + m' * sc ∧ (nb m).length + at_ = i + (nb m').length
theorem numI_start (bs : List Nat) (at_ : Nat) : NumI bs at_ 0 1 at_ := ⟨⟨0, rfl, by omega, rfl, by omega⟩, fun m t h _ => ⟨m, h, by omega, by omega⟩⟩
theorem drop_get {bs : List Nat} {i x : Nat} (h : bs[i]? = some x) : bs.drop i = x :: bs.drop (i + 1) := by
  obtain ⟨h1, h2⟩ := List.getElem?_eq_some_iff.1 h
  rw [List.drop_eq_getElem_cons h1, h2]
theorem numI_step {bs : List Nat} {at_ n sc i x : Nat} (h : NumI bs at_ n sc i) (hi : i < at_ + 5) (hx : bs[i]? = some x) (h128 : ¬ x < 128) (hb : x < 256) : NumI bs at_ (n + x % 128 * sc) (128 * sc) (i + 1) := by
  obtain ⟨⟨j, rfl, h2, rfl, h4⟩, h5⟩ := h
  refine ⟨⟨j + 1, by omega, by omega, by rw [Nat.pow_succ, Nat.mul_comm], ?_⟩, fun m t hd hm => ?_⟩
  · have : x % 128 * 128 ^ j ≤ 127 * 128 ^ j := Nat.mul_le_mul_right _ (by omega)
    rw [Nat.pow_succ]; omega
  · obtain ⟨m', g1, g2, g3⟩ := h5 m t hd hm
    rw [drop_get hx] at g1
    by_cases h0 : m' < 128
    · rw [nb_lt h0] at g1
      injection g1 with g1
      omega
    · rw [nb_ge h0] at g1
      injection g1 with g4 g5
      refine ⟨m' / 128, g5, ?_, ?_⟩
      · rw [g2]
        have e : m' = x % 128 + m' / 128 * 128 := by omega
        have e2 : m' * 128 ^ j = x % 128 * 128 ^ j + m' / 128 * (128 * 128 ^ j) := by
          conv => lhs; rw [e]
          rw [Nat.add_mul, Nat.mul_assoc]
        omega
      · rw [nb_ge h0, List.length_cons] at g3; omega
theorem numI_last {bs : List Nat} {at_ n sc i x : Nat} (h : NumI bs at_ n sc i) (hi : i < at_ + 5) (hx : bs[i]? = some x) (h128 : x < 128) : NumR bs at_ (n + x % 128 * sc) (i + 1) := by
  obtain ⟨⟨j, rfl, h2, rfl, h4⟩, h5⟩ := h
  have hl := (List.getElem?_eq_some_iff.1 hx).1
  refine ⟨?_, by omega, fun m t hd hm => ?_⟩
  · have : x % 128 * 128 ^ j ≤ 127 * 128 ^ j := Nat.mul_le_mul_right _ (by omega)
    have h6 : (128 : Nat) ^ j ≤ 128 ^ 4 := Nat.pow_le_pow_right (by omega) (by omega)
    have h7 : (128 : Nat) ^ 4 = 268435456 := by decide
    omega
  · obtain ⟨m', g1, g2, g3⟩ := h5 m t hd hm
    rw [drop_get hx] at g1
    by_cases h0 : m' < 128
    · rw [nb_lt h0] at g1 g3
      injection g1 with g4 g5
      rw [List.length_singleton] at g3
      exact ⟨by rw [g2, g4, Nat.mod_eq_of_lt h0], g5, by omega⟩
    · rw [nb_ge h0] at g1
      injection g1 with g4 g5
      omega
theorem numI_none {bs : List Nat} {at_ n sc i : Nat} (h : NumI bs at_ n sc i) (hi : ¬ (i < bs.length ∧ i < at_ + 5)) : NumR bs at_ 0 bs.length := by
  obtain ⟨⟨j, rfl, h2, rfl, h4⟩, h5⟩ := h
  refine ⟨by omega, by omega, fun m t hd hm => ?_⟩
  obtain ⟨m', g1, g2, g3⟩ := h5 m t hd hm
  have hp := nb_pos m'
  have hl := congrArg List.length g1
  rw [List.length_drop, List.length_append] at hl
  have h6 := nb_len 4 m (by simpa using hm)
  omega
theorem num_arith {n sc x i j : Nat} (_ : x < 256) (j2 : j ≤ 4) (j3 : sc = 128 ^ j) (j4 : n < 128 ^ j) (hi : i ≤ 150000000000000) :
    ∃ pt y n2 sc2 i2, (x : Int) % 128 = ((pt : Nat) : Int) ∧ wrap64 ((pt : Int) * (sc : Int)) = ((y : Nat) : Int) ∧ Hid (wrap64 ((n : Int) + (y : Int)) = ((n2 : Nat) : Int)) ∧ Hid (wrap64 (128 * (sc : Int)) = ((sc2 : Nat) : Int)) ∧ Hid (wrap64 ((i : Int) + 1) = ((i2 : Nat) : Int)) ∧ Hid (n2 = n + x % 128 * sc ∧ sc2 = 128 * sc ∧ i2 = i + 1) := by
  have hp4 : sc ≤ 268435456 := by
    rw [j3]
    have h7 : (128 : Nat) ^ 4 = 268435456 := by decide
    rw [← h7]; exact Nat.pow_le_pow_right (by omega) (by omega)
  have hn : n ≤ 268435456 := by rw [← j3] at j4; omega
  clear j3 j4
  have hyb : x % 128 * sc ≤ 34091302912 := Nat.le_trans (Nat.mul_le_mul (show x % 128 ≤ 127 by omega) hp4) (by omega)
  refine ⟨x % 128, x % 128 * sc, n + x % 128 * sc, 128 * sc, i + 1, by omega, ?_, ?_, ?_, ?_, rfl, rfl, rfl⟩
  · have : (((x % 128 : Nat) : Int) * (sc : Int)) = ((x % 128 * sc : Nat) : Int) := by simp
    rw [this]
    generalize x % 128 * sc = y at *
    unfold wrap64; omega
  · show wrap64 _ = _
    generalize x % 128 * sc = y at *
    unfold wrap64; omega
  · show wrap64 _ = _
    unfold wrap64; omega
  · show wrap64 _ = _
    unfold wrap64; omega
set_option maxHeartbeats 4000000 in
set_option maxRecDepth 100000 in
theorem numR {w : World} {v : Value} {bs : List Nat} (at_ : Nat) (h : Lies u8v w v bs) (hb : ∀ x ∈ bs, x < 256) (hl : bs.length ≤ 140737488355328) (ha : at_ ≤ 140737488355428) :
    Calls Tryz.prog 34 #[v, .int .i64 (at_ : Nat)] w fun e w' => ∃ n at2 : Nat, e = .returned (.tuple #[.int .i64 (n : Nat), .int .i64 (at2 : Nat)]) ∧ w' = w ∧ Hid (NumR bs at_ n at2) := by
  obtain ⟨a, c, hv⟩ := lies_shape h
  obtain ⟨N, hN⟩ : ∃ N, N = bs.length := ⟨_, rfl⟩
  rw [← hN] at hv
  subst hv
  have HN : Hid (N = bs.length ∧ N ≤ 140737488355328 ∧ at_ ≤ 140737488355428 ∧ (∀ x ∈ bs, x < 256)) := ⟨hN, by omega, ha, hb⟩
  have H := hide h
  have za : Hid (wrap64 ((at_ : Int) + 5) = ((at_ + 5 : Nat) : Int)) := by show wrap64 _ = _; unfold wrap64; omega
  clear h hb hl ha hN
  go_enter Tryz.func34, Tryz.ntmps34
  go_wp2_with fail
  go_loopw [6, 7, 8] (fun s6 s7 s8 wr => ∃ (n sc i : Nat), s6 = .int .i64 (n : Nat) ∧ s7 = .int .i64 (sc : Nat) ∧ s8 = .int .i64 (i : Nat) ∧ wr = w ∧ Hid (NumI bs at_ n sc i)) (fun _ _ s8 _ => at_ + 5 - (intOf s8).toNat)
  case atStart => exact ⟨0, 1, at_, rfl, rfl, rfl, rfl, numI_start bs at_⟩
  case round =>
    obtain ⟨n, sc, i, rfl, rfl, rfl, rfl, HI⟩ := hrel
    obtain ⟨l1, l2, l3, l4⟩ := unhide HN
    obtain ⟨⟨j, j1, j2, j3, j4⟩, -⟩ := unhide HI
    obtain ⟨a5, ha5⟩ : ∃ a5, a5 = at_ + 5 := ⟨_, rfl⟩
    have hw5 : wrap64 ((at_ : Int) + 5) = (a5 : Int) := by rw [unhide za, ha5]
    by_cases hlt : i < N
    · have z1 : (i : Int) < (N : Int) := by omega
      by_cases h5 : i < a5
      · have z2 : (i : Int) < (a5 : Int) := by omega
        obtain ⟨x, hx⟩ : ∃ x, bs[i]? = some x := ⟨_, List.getElem?_eq_getElem (by omega)⟩
        have hx2 := l4 x (List.mem_of_getElem? hx)
        obtain ⟨b, off, rfl, k0⟩ := lies_at (unhide H) hx
        unfold u8v at k0
        obtain ⟨pt, y, n2, sc2, i2, y1, y2, Y3, Y4, YI, HS⟩ := num_arith (n := n) (i := i) hx2 (show j ≤ 4 by omega) j3 j4 (by omega)
        obtain ⟨hn2, hs2, hi2⟩ := unhide HS
        by_cases hx8 : x < 128
        · have z3 : (x : Int) < 128 := by omega
          have HR : Hid (NumR bs at_ n2 i2) := by show NumR bs at_ n2 i2; rw [hn2, hi2]; exact numI_last (unhide HI) (by clear y1 y2 hw5; omega) hx hx8
          clear HI l1 l2 l3 l4 j1 j2 j3 j4 ha5 hlt h5 hx hn2 hs2 hi2 hx8 za HS
          go_wp2_with fail
          go_ret2
          exact ⟨n2, i2, by (try rw [unhide Y3]) <;> (try rw [unhide YI]) <;> rfl, rfl, HR⟩
        · have z3 : ¬ (x : Int) < 128 := by omega
          have HJ : Hid (NumI bs at_ n2 sc2 i2 ∧ at_ + 5 - i2 < at_ + 5 - i) := ⟨by rw [hn2, hi2, hs2]; exact numI_step (unhide HI) (by clear y1 y2 hw5; omega) hx hx8 hx2, by clear y1 y2 hw5; omega⟩
          clear HI l1 l2 l3 l4 j1 j2 j3 j4 ha5 hlt h5 hx hn2 hs2 hi2 hx8 za HS
          go_wp2_with fail
          exact ⟨⟨n2, sc2, i2, by (try rw [unhide Y3]) <;> rfl, by (try rw [unhide Y4]) <;> rfl, by (try rw [unhide YI]) <;> rfl, trivial, (unhide HJ).1⟩, by (try rw [unhide YI]); exact (unhide HJ).2⟩
      · have z2 : ¬ (i : Int) < (a5 : Int) := by omega
        have HR : Hid (NumR bs at_ 0 N) := by show NumR bs at_ 0 N; rw [l1]; exact numI_none (unhide HI) (by clear hw5; omega)
        clear HI l1 l2 l3 l4 j1 j2 j3 j4 ha5 hlt h5 za
        go_wp2_with fail
        go_ret2
        exact ⟨0, N, rfl, rfl, HR⟩
    · have z1 : ¬ (i : Int) < (N : Int) := by omega
      have HR : Hid (NumR bs at_ 0 N) := by show NumR bs at_ 0 N; rw [l1]; exact numI_none (unhide HI) (by clear hw5; omega)
      clear HI l1 l2 l3 l4 j1 j2 j3 j4 ha5 hlt za hw5
      go_wp2_with fail
      go_ret2
      exact ⟨0, N, rfl, rfl, HR⟩
end Go.Proofs.YtagibmgbjhemkaaGreat.W16
