/- Parts of texts that aren't empty. -/
import Derived.Test.YtfhidghjmookhaaName
namespace Go.Proofs.Ytfhidghjmookhaa
open Go.RowKit Go.Maps

/-- At most n things, none of them the empty text. -/
structure Le (n : Nat) (S : List (Part (List UInt8))) : Prop where
  tot : tot S ≤ n
  full : ∀ x ∈ S, ∀ t ∈ x.ks, t ≠ []
theorem Le.mono {n n' : Nat} {S : List (Part (List UInt8))} (h : Le n S) (hn : n ≤ n') : Le n' S := ⟨Nat.le_trans h.tot hn, h.full⟩
theorem nm_full (k : Int) : nm k ≠ [] := by simp [nm]

section
variable {B : Nat} {w0 w : World} {p : Nat} {S : List (Part (List UInt8))}

theorem addNamed {n : Nat} (k : List UInt8) (h : LiveZ B w0 p S w) (hk : okZ k) (hf0 : k ≠ []) (hS : Le n S) (hn : n < 1099511627776) : Calls Try.prog 23 #[.pointer (some ⟨p, 0, none⟩), encStr k] w fun e w' => ∃ b, e = .returned (.bool b) ∧ Hid (∃ S', LiveZ B w0 p S' w' ∧ Le (n + 1) S') := by
  have ht := hS.tot
  cases hf : fOf S k with
  | none =>
    refine (addLZ k h hk (fOf_none.1 hf) (by omega)).mono fun e w' hh => ⟨true, hh.1, ?_⟩
    obtain ⟨x, h1, h2⟩ := hh.2
    refine ⟨_, h2, by rw [tot_append, tot_one, h1]; simp; omega, fun z hz t htz => ?_⟩
    rcases List.mem_append.1 hz with e | e
    · exact hS.full z e t htz
    · rw [List.mem_singleton.1 e, h1, List.mem_singleton] at htz
      rw [htz]; exact hf0
  | some q =>
    obtain ⟨x, hx, hkx, -⟩ := fOf_mem hf
    exact (addInLZ k h hx hkx).mono fun e w' hh => ⟨false, hh.1, S, by rw [hh.2]; exact h, hS.mono (by omega)⟩

theorem dropNamed {n : Nat} (k : List UInt8) (h : LiveZ B w0 p S w) (hk : okZ k) (hS : Le n S) (hn : n < 1099511627776) : Calls Try.prog 40 #[.pointer (some ⟨p, 0, none⟩), encStr k] w fun e w' => ∃ b, e = .returned (.bool b) ∧ Hid (∃ S', LiveZ B w0 p S' w' ∧ Le n S') := by
  have ht := hS.tot
  cases hf : fOf S k with
  | none => exact (dropNoLZ k h hk (fOf_none.1 hf)).mono fun e w' hh => ⟨false, hh.1, S, by rw [hh.2]; exact h, hS⟩
  | some q =>
    obtain ⟨x, hx, hkx, -⟩ := fOf_mem hf
    refine (dropLZ k h hx hkx (by omega)).mono fun e w' hh => ⟨true, hh.1, ?_⟩
    obtain ⟨T, h1, -, h3, h4⟩ := hh.2
    refine ⟨_, h4, by omega, fun z hz t htz => ?_⟩
    rcases List.mem_append.1 hz with e | e
    · exact hS.full z (mem_without.1 e).1 t htz
    · exact hS.full x hx t ((h1 z e t).1 htz).1

theorem burstNamed {n : Nat} (k : List UInt8) (h : LiveZ B w0 p S w) (hk : okZ k) (hS : Le n S) (hn : n < 1099511627776) : Calls Try.prog 25 #[.pointer (some ⟨p, 0, none⟩), encStr k] w fun e w' => ∃ b, e = .returned (.bool b) ∧ Hid (∃ S', LiveZ B w0 p S' w' ∧ Le n S') := by
  have ht := hS.tot
  cases hf : fOf S k with
  | none => exact (burstNoLZ k h hk (fOf_none.1 hf)).mono fun e w' hh => ⟨false, hh.1, S, by rw [hh.2]; exact h, hS⟩
  | some q =>
    obtain ⟨x, hx, hkx, -⟩ := fOf_mem hf
    refine (burstLZ k h hx hkx (by omega)).mono fun e w' hh => ⟨true, hh.1, ?_⟩
    obtain ⟨T, h3, h4⟩ := hh.2
    refine ⟨_, h4, by rw [tot_append, tot_singlesZ h3]; have := tot_without h.fam hx; omega, fun z hz t htz => ?_⟩
    rcases List.mem_append.1 hz with e | e
    · exact hS.full z (mem_without.1 e).1 t htz
    · have : z.ks ∈ T.map (·.ks) := List.mem_map.2 ⟨z, e, rfl⟩
      rw [h3] at this
      obtain ⟨y, hy, e2⟩ := List.mem_map.1 this
      rw [← e2, List.mem_singleton] at htz
      rw [htz]
      exact hS.full x hx y hy

theorem joinNamed {n : Nat} (a b : List UInt8) (h : LiveZ B w0 p S w) (ha : okZ a) (hb : okZ b) (hS : Le n S) (hn : n < 1099511627776) : Calls Try.prog 24 #[.pointer (some ⟨p, 0, none⟩), encStr a, encStr b] w fun e w' => ∃ b, e = .returned (.bool b) ∧ Hid (∃ S', LiveZ B w0 p S' w' ∧ Le n S') := by
  have ht := hS.tot
  by_cases hno : fOf S a = none ∨ fOf S b = none ∨ fOf S a = fOf S b
  · exact (joinNoLZ a b h ha hb hno).mono fun e w' hh => ⟨false, hh.1, S, hh.2, hS⟩
  · cases hfa : fOf S a with
    | none => exact absurd (.inl hfa) hno
    | some q1 =>
      cases hfb : fOf S b with
      | none => exact absurd (.inr (.inl hfb)) hno
      | some q2 =>
        obtain ⟨x, hx, hax, rfl⟩ := fOf_mem hfa
        obtain ⟨y, hy, hby, rfl⟩ := fOf_mem hfb
        have hq : x.q ≠ y.q := fun e => hno (.inr (.inr (by rw [hfa, hfb, e])))
        refine (joinLZ a b h hx hy hax hby hq (by omega)).mono fun e w' hh => ⟨true, hh.1, ?_⟩
        obtain ⟨z, R, h1, h2, h3, h4⟩ := hh.2
        refine ⟨_, h4, ?_, fun u hu t htu => ?_⟩
        · rw [tot_append, tot_one, h2]
          have t1 := tot_without h.fam hx
          have t2 := tot_without (h.fam.without x) (mem_without.2 ⟨hy, fun e => hq e.symm⟩)
          have t3 := tot_without h.fam hy
          have t4 := tot_without (h.fam.without y) (mem_without.2 ⟨hx, hq⟩)
          rcases h3 with rfl | rfl <;> omega
        · rcases List.mem_append.1 hu with e | e
          · have : u ∈ S := by
              rcases h3 with rfl | rfl <;> exact (mem_without.1 (mem_without.1 e).1).1
            exact hS.full u this t htu
          · rw [List.mem_singleton.1 e] at htu
            rcases (h1 t).1 htu with g | g
            · exact hS.full x hx t g
            · exact hS.full y hy t g
end
end Go.Proofs.Ytfhidghjmookhaa
