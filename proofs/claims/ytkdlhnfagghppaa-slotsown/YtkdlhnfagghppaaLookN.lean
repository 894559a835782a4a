/- A table's calls that only read: taken, Free, At, Len. -/
import Derived.Test.YtkdlhnfagghppaaTabN
namespace Go.Proofs.Ytkdlhnfagghppaa
open Go.RowKit Go.Maps

/-- Nothing stands at k. -/
theorem takenNoN [Inhabited EntI] {t hp : Nat} {v : Value} {most : Int} {ps : List (Int × Bool)} {ms : List EntI} {n : Nat} {G : Nat → Prop} (k : Int) (w : World) (h : TAtN w t hp v most ps ms n G) (hk : ∀ (i : Nat) a, k = (i : Int) + 1 → ps[i]? ≠ some (a, true)) :
    Calls Try.prog 40 #[.pointer (some ⟨t, 0, none⟩), .int .i64 k] w fun e w' => e = .returned (.bool false) ∧ w' = w := by
  by_cases h1 : k < 1 ∨ (ps.length : Int) < k
  · exact takenOutN k w h h1
  · obtain ⟨i, rfl⟩ : ∃ i : Nat, k = (i : Int) + 1 := ⟨(k - 1).toNat, by omega⟩
    obtain ⟨a, b, hi⟩ := at_of_lt (ps := ps) (i := i) (by omega)
    cases b with
    | true => exact absurd hi (hk i a rfl)
    | false => exact takenAtN i w h hi

set_option maxHeartbeats 1000000 in
set_option maxRecDepth 100000 in
theorem freeN [Inhabited EntI] {t hp : Nat} {v : Value} {most : Int} {ps : List (Int × Bool)} {ms : List EntI} {n : Nat} {G : Nat → Prop} (w : World) (h : TAtN w t hp v most ps ms n G) :
    Calls Try.prog 16 #[.pointer (some ⟨t, 0, none⟩)] w fun e w' => ∃ r, e = .returned (.int .i64 r) ∧ Hid (FreeIs ps most r ∧ ∃ q, w' = w.drewN q) := by
  obtain ⟨c0, c1, c2, -⟩ := h.cells
  rcases Nat.eq_zero_or_pos ms.length with h0 | h0
  · obtain rfl : ms = [] := List.length_eq_zero_iff.1 h0
    have CP := hide h.on.peekNone
    have HF := hide (frees_none h.fr)
    have hl := h.len
    have ht := h.top
    obtain ⟨a, c, rfl⟩ := h.shape
    have hL : (ps.length : Int) ≤ 65536 := by omega
    by_cases hm : (ps.length : Int) = most
    · have HR : Hid (FreeIs ps most 0) := .inr ⟨unhide HF, .inl ⟨hm, rfl⟩⟩
      subst hm
      generalize ps.length = L at *
      clear h HF hl ht h0
      go_enter Try.func16, Try.ntmps16
      go_wp2_with fail
      refine (unhide CP).mono ?_
      rintro e w2 ⟨rfl, rfl⟩
      clear CP
      go_wp2_with fail
      go_quiet (fail)
      go_wp2_with fail
      go_ret
      exact ⟨0, rfl, unhide HR, _, rfl⟩
    · have HR : Hid (FreeIs ps most ((ps.length : Int) + 1)) := .inr ⟨unhide HF, .inr ⟨hm, rfl⟩⟩
      have hm2 : ((ps.length : Int) == most) = false := by simpa using hm
      generalize ps.length = L at *
      clear h HF hl ht h0
      go_enter Try.func16, Try.ntmps16
      go_wp2_with fail
      refine (unhide CP).mono ?_
      rintro e w2 ⟨rfl, rfl⟩
      clear CP
      go_wp2_with fail
      go_quiet (fail)
      go_wp2_with fail
      go_ret
      exact ⟨_, rfl, unhide HR, _, rfl⟩
  · have CP := hide (h.on.peek h0)
    have HF := hide h.fr
    clear h h0
    go_enter Try.func16, Try.ntmps16
    go_wp2_with fail
    refine (unhide CP).mono ?_
    rintro e w2 ⟨x, hx, rfl, hle, q, rfl⟩
    have HR : Hid (FreeIs ps most x.key) := .inl (frees_first (unhide HF) hx hle)
    clear CP hx hle
    go_wp2_with fail
    go_ret
    exact ⟨_, rfl, unhide HR, _, rfl⟩

set_option maxHeartbeats 1000000 in
set_option maxRecDepth 100000 in
theorem atNoN [Inhabited EntI] {t hp : Nat} {v : Value} {most : Int} {ps : List (Int × Bool)} {ms : List EntI} {n : Nat} {G : Nat → Prop} (k : Int) (w : World) (h : TAtN w t hp v most ps ms n G) (hk : ∀ (i : Nat) a, k = (i : Int) + 1 → ps[i]? ≠ some (a, true)) :
    Calls Try.prog 15 #[.pointer (some ⟨t, 0, none⟩), .int .i64 k] w fun e w' => e = .returned (.tuple #[.int .i64 0, .bool false]) ∧ w' = w := by
  have CT := hide (takenNoN k w h hk)
  clear h hk
  go_enter Try.func15, Try.ntmps15
  go_wp2_with fail
  refine (unhide CT).mono ?_
  rintro e w2 ⟨rfl, rfl⟩
  clear CT
  go_wp2_with fail
  go_ret2
  exact ⟨rfl, rfl⟩

set_option maxHeartbeats 1000000 in
set_option maxRecDepth 100000 in
theorem atYesN [Inhabited EntI] {t hp : Nat} {v : Value} {most : Int} {ps : List (Int × Bool)} {ms : List EntI} {n : Nat} {G : Nat → Prop} {a : Int} (i : Nat) (w : World) (h : TAtN w t hp v most ps ms n G) (hi : ps[i]? = some (a, true)) :
    Calls Try.prog 15 #[.pointer (some ⟨t, 0, none⟩), .int .i64 ((i : Int) + 1)] w fun e w' => e = .returned (.tuple #[.int .i64 (a), .bool true]) ∧ w' = w := by
  have CT := hide (takenAtN i w h hi)
  obtain ⟨-, c1, -, -⟩ := h.cells
  have hil := lt_of_at hi
  obtain ⟨g, c, rfl, -, -, hc⟩ := h.some_ (by omega)
  have d1 := (hc i a true hi).1
  have hl := h.len
  have ht := h.top
  generalize ps.length = L at *
  have h3 : (i : Int) < (L : Int) := by omega
  have h4 : (L : Int) ≤ 65536 := by omega
  clear h hc hi hl ht hil
  go_enter Try.func15, Try.ntmps15
  go_wp2_with fail
  refine (unhide CT).mono ?_
  rintro e w2 ⟨rfl, rfl⟩
  clear CT
  go_wp2_with fail
  go_ret2
  exact ⟨rfl, rfl⟩

set_option maxHeartbeats 1000000 in
set_option maxRecDepth 100000 in
theorem lenN [Inhabited EntI] {t hp : Nat} {v : Value} {most : Int} {ps : List (Int × Bool)} {ms : List EntI} {n : Nat} {G : Nat → Prop} (w : World) (h : TAtN w t hp v most ps ms n G) :
    Calls Try.prog 11 #[.pointer (some ⟨t, 0, none⟩)] w fun e w' => e = .returned (.int .i64 (tk ps)) ∧ ∃ q, w' = w.drewN q := by
  have HL : Hid (∀ q, Calls Try.prog 38 #[.pointer (some ⟨hp, 0, none⟩)] (w.drewN q) fun e w' => e = .returned (.int .i64 ms.length) ∧ w' = w.drewN q) := fun q => (h.on.kept (w' := w.drewN q) (fun _ _ => rfl)).len
  obtain ⟨-, c1, c2, -⟩ := h.cells
  obtain ⟨a, c, rfl⟩ := h.shape
  have hcnt := h.fr.cnt
  have hl := h.len
  have ht := h.top
  generalize hA : ps.length = L at *
  generalize hB : ms.length = M at *
  have hd : (L : Int) - (M : Int) = (tk ps : Int) := by omega
  have h4 : (L : Int) ≤ 65536 := by omega
  have h5 : (M : Int) ≤ (L : Int) := by omega
  have HD := hide hd
  clear h hl ht hcnt hd
  go_enter Try.func11, Try.ntmps11
  go_wp2_with fail
  go_quiet ((go_at_call 38; exact (unhide HL _).mono (fun _ _ h => ⟨h.1, _, h.2⟩)))
  go_wp2_with fail
  go_ret
  exact ⟨by rw [← unhide HD]; rfl, _, rfl⟩
end Go.Proofs.Ytkdlhnfagghppaa
