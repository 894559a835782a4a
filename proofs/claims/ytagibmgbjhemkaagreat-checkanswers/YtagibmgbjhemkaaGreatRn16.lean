/- Numbers written as bytes: the reference's Number. -/
import Derived.Test.YtagibmgbjhemkaaGreatAn16
namespace Go.Proofs.YtagibmgbjhemkaaGreat.W16
open Go.RowKit Go.Maps
theorem below_grows {B : Nat} {w w' : World} {v' : Value} {bs : List Nat} (h : Grows B w (.slice none 0 0) w' v' bs) : Below w.heap.size w w' := h.2.1.below (Nat.le_refl _) (fun k e => by cases e)
set_option maxHeartbeats 2000000 in
set_option maxRecDepth 100000 in
theorem numberR {n : Nat} (w : World) (hn : n < 34359738368) :
    Calls Tryz.prog 78 #[.int .i64 (n : Nat)] w fun e w' => ∃ v', e = .returned v' ∧ Hid (Grows w.heap.size w (.slice none 0 0) w' v' (nb n)) := by
  have h5 := nb_len 4 n (by simpa using hn)
  have HN : Hid (n < 34359738368 ∧ (nb n).length ≤ 5) := ⟨hn, h5⟩
  clear hn h5
  go_enter Tryz.func78, Tryz.ntmps78
  go_wp2_with fail
  go_loopw [0, 3] (fun s1 s0 wr => ∃ (m a' n' c' : _) (ys : List Nat), s0 = .slice a' n' c' ∧ s1 = .int .i64 (m : Nat) ∧ Hid (nb n = ys ++ nb m ∧ m ≤ n ∧ Grows w.heap.size w (.slice none 0 0) wr (.slice a' n' c') ys)) (fun s1 _ _ => (intOf s1).toNat)
  case atStart => exact ⟨n, none, 0, 0, [], rfl, rfl, rfl, Nat.le_refl _, Grows.refl ⟨rfl, .inl ⟨rfl, rfl⟩⟩⟩
  case round =>
    obtain ⟨m, a', n', c', ys, rfl, rfl, HI⟩ := hrel
    obtain ⟨i1, i2, i3⟩ := unhide HI
    obtain ⟨n1, n2⟩ := unhide HN
    have hy : ys.length + (nb m).length ≤ 5 := by rw [← List.length_append, ← i1]; exact n2
    have hby : w.heap.size ≤ wr.heap.size := i3.2.1.size
    have hyl : ys.length < 1000000 := by omega
    by_cases hlt : m < 128
    · obtain ⟨a2, m2, c2, w2, hr, g1, g2, g3⟩ := run_app1B m i3.1 hby hyl
      have HR := hide hr
      have HG : Hid (Grows w.heap.size w (.slice none 0 0) w2 (.slice a2 m2 c2) (nb n)) := by
        have : Grows w.heap.size wr (.slice a' n' c') w2 (.slice a2 m2 c2) (nb n) := ⟨by rw [i1, nb_lt hlt]; exact g1, g2, g3⟩
        exact i3.trans this
      have z1 : ¬ (m : Int) ≥ 128 := by omega
      have z2 : IntKind.wrap .u8 (m : Int) = (m : Int) := by unfold IntKind.wrap; simp [IntKind.signed, IntKind.bits]; omega
      clear HI i1 i2 i3 n1 n2 hy hby hyl hlt hr g1 g2 g3
      go_wp2_with (at_builtin; refine Lib.wpList_append_run _ rfl _ _ 23 23 rfl _ _ rfl rfl _ _ (unhide HR _) ?_)
      go_ret
      exact ⟨_, rfl, HG⟩
    · obtain ⟨d, hd⟩ : ∃ d, d = m % 128 + 128 := ⟨_, rfl⟩
      obtain ⟨q, hq⟩ : ∃ q, q = m / 128 := ⟨_, rfl⟩
      obtain ⟨a2, m2, c2, w2, hr, g1, g2, g3⟩ := run_app1B d i3.1 hby hyl
      have HR := hide hr
      have HG : Hid (nb n = (ys ++ [d]) ++ nb q ∧ q ≤ n ∧ q < m ∧ Grows w.heap.size w (.slice none 0 0) w2 (.slice a2 m2 c2) (ys ++ [d])) := by
        have : Grows w.heap.size wr (.slice a' n' c') w2 (.slice a2 m2 c2) (ys ++ [d]) := ⟨g1, g2, g3⟩
        exact ⟨by rw [i1, nb_ge hlt, hd, hq, List.append_assoc]; rfl, by omega, by omega, i3.trans this⟩
      have z1 : (m : Int) ≥ 128 := by omega
      have ed : ((d : Nat) : Int) = (m : Int) % 128 + 128 := by omega
      have eq' : ((q : Nat) : Int) = (m : Int) / 128 := by omega
      rw [ed] at HR
      have HQ : Hid (wrap64 ((m : Int) / 128) = (q : Int)) := by show wrap64 ((m : Int) / 128) = (q : Int); unfold wrap64; omega
      clear HI i1 i2 i3 n1 n2 hy hby hyl hlt hr g1 g2 g3 hd ed eq' hq
      go_wp2_with (at_builtin; refine Lib.wpList_append_run _ rfl _ _ 23 23 rfl _ _ rfl rfl _ _ (unhide HR _) ?_)
      exact ⟨⟨q, a2, m2, c2, ys ++ [d], rfl, by rw [unhide HQ], (unhide HG).1, (unhide HG).2.1, (unhide HG).2.2.2⟩, by rw [unhide HQ]; have h2 := (unhide HG).2.2.1; simp only [intOf]; omega⟩
end Go.Proofs.YtagibmgbjhemkaaGreat.W16
