/- Numbers written as bytes: appendNumber. -/
import Derived.Test.YtagibmgbjhemkaaGreatFd16
import Derived.Test.YtagibmgbjhemkaaGreatMt16
namespace Go.Proofs.YtagibmgbjhemkaaGreat.W16
open Go.RowKit Go.Maps
/-- What a call leaves that makes one row of another. -/
def Grows (B : Nat) (w : World) (v : Value) (w' : World) (v' : Value) (bs : List Nat) : Prop :=
  ByRow B w' v' bs ∧ Turned (fun b => v.ownBlock = some b) w w' ∧ ∀ b, v'.ownBlock = some b → v.ownBlock = some b ∨ w.heap.size ≤ b
theorem Grows.refl {B : Nat} {w : World} {v : Value} {bs : List Nat} (h : ByRow B w v bs) : Grows B w v w v bs := ⟨h, Turned.refl _ _, fun _ e => .inl e⟩
set_option maxHeartbeats 2000000 in
set_option maxRecDepth 100000 in
theorem appendNumberS {B : Nat} {w : World} {v : Value} {xs : List Nat} {n : Nat} (h : ByRow B w v xs) (hB : B ≤ w.heap.size) (hl : xs.length ≤ 900000) (hn : n < 34359738368) :
    Calls Tryz.prog 48 #[v, .int .i64 (n : Nat)] w fun e w' => ∃ v', e = .returned v' ∧ Hid (Grows B w v w' v' (xs ++ nb n)) := by
  obtain ⟨a0, c0, rfl⟩ := rrow_shape h
  have h5 := nb_len 4 n (by simpa using hn)
  have HN : Hid (n < 34359738368 ∧ (nb n).length ≤ 5 ∧ xs.length ≤ 900000 ∧ B ≤ w.heap.size) := ⟨hn, h5, hl, hB⟩
  have H := hide h
  generalize hn0 : xs.length = n0 at *
  have HN0 := hide hn0
  clear h hB hl hn h5 hn0
  go_enter Tryz.func48, Tryz.ntmps48
  go_wp2_with fail
  go_loopw [0, 1] (fun s0 s1 wr => ∃ (m a' n' c' : _) (ys : List Nat), s0 = .slice a' n' c' ∧ s1 = .int .i64 (m : Nat) ∧ Hid (nb n = ys ++ nb m ∧ m ≤ n ∧ Grows B w (.slice a0 n0 c0) wr (.slice a' n' c') (xs ++ ys))) (fun _ s1 _ => (intOf s1).toNat)
  case atStart => exact ⟨n, a0, n0, c0, [], rfl, rfl, rfl, Nat.le_refl _, Grows.refl (by rw [List.append_nil]; exact unhide H)⟩
  case round =>
    obtain ⟨m, a', n', c', ys, rfl, rfl, HI⟩ := hrel
    obtain ⟨i1, i2, i3⟩ := unhide HI
    obtain ⟨n1, n2, n3, n4⟩ := unhide HN
    have hy : ys.length + (nb m).length ≤ 5 := by rw [← List.length_append, ← i1]; exact n2
    have hby : B ≤ wr.heap.size := Nat.le_trans n4 i3.2.1.size
    have hyl : (xs ++ ys).length < 1000000 := by have := unhide HN0; simp; omega
    by_cases hlt : m < 128
    · obtain ⟨a2, m2, c2, w2, hr, g1, g2, g3⟩ := run_app1B m i3.1 hby hyl
      have HR := hide hr
      have HG : Hid (Grows B w (.slice a0 n0 c0) w2 (.slice a2 m2 c2) (xs ++ nb n)) := by
        have : Grows B wr (.slice a' n' c') w2 (.slice a2 m2 c2) (xs ++ nb n) := ⟨by rw [i1, nb_lt hlt, ← List.append_assoc]; exact g1, g2, g3⟩
        exact i3.trans this
      have z1 : ¬ (m : Int) ≥ 128 := by omega
      have z2 : IntKind.wrap .u8 (m : Int) = (m : Int) := by unfold IntKind.wrap; simp [IntKind.signed, IntKind.bits]; omega
      clear HI i1 i2 i3 n1 n2 n3 n4 hy hby hyl hlt hr g1 g2 g3
      go_wp2_with (at_builtin; refine Lib.wpList_append_run _ rfl _ _ 23 23 rfl _ _ rfl rfl _ _ (unhide HR _) ?_)
      go_ret
      exact ⟨_, rfl, HG⟩
    · obtain ⟨d, hd⟩ : ∃ d, d = m % 128 + 128 := ⟨_, rfl⟩
      obtain ⟨q, hq⟩ : ∃ q, q = m / 128 := ⟨_, rfl⟩
      obtain ⟨a2, m2, c2, w2, hr, g1, g2, g3⟩ := run_app1B d i3.1 hby hyl
      have HR := hide hr
      have HG : Hid (nb n = (ys ++ [d]) ++ nb q ∧ q ≤ n ∧ q < m ∧ Grows B w (.slice a0 n0 c0) w2 (.slice a2 m2 c2) (xs ++ (ys ++ [d]))) := by
        have : Grows B wr (.slice a' n' c') w2 (.slice a2 m2 c2) (xs ++ (ys ++ [d])) := ⟨by rw [← List.append_assoc]; exact g1, g2, g3⟩
        exact ⟨by rw [i1, nb_ge hlt, hd, hq, List.append_assoc]; rfl, by omega, by omega, i3.trans this⟩
      have z1 : (m : Int) ≥ 128 := by omega
      have ed : ((d : Nat) : Int) = (m : Int) % 128 + 128 := by omega
      have eq' : ((q : Nat) : Int) = (m : Int) / 128 := by omega
      rw [ed] at HR
      have HQ := hide eq'
      clear HI i1 i2 i3 n1 n2 n3 n4 hy hby hyl hlt hr g1 g2 g3 hd ed eq' hq
      go_wp2_with (at_builtin; refine Lib.wpList_append_run _ rfl _ _ 23 23 rfl _ _ rfl rfl _ _ (unhide HR _) ?_)
      exact ⟨⟨q, a2, m2, c2, ys ++ [d], rfl, by rw [unhide HQ], (unhide HG).1, (unhide HG).2.1, (unhide HG).2.2.2⟩, by have h1 := unhide HQ; have h2 := (unhide HG).2.2.1; simp only [intOf]; omega⟩
end Go.Proofs.YtagibmgbjhemkaaGreat.W16
