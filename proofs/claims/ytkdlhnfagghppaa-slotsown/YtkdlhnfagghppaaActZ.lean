/- A table's calls that change it: PutAt, Set, Drop. -/
import Derived.Test.YtkdlhnfagghppaaRawZ
namespace Go.Proofs.Ytkdlhnfagghppaa
open Go.RowKit Go.Maps

/-- What a call leaves: the table with these places, its blocks old ones of its own or new. -/
def ThenZ [Inhabited EntI] (w w' : World) (t hp : Nat) (v : Value) (most : Int) (ps : List (ByteArray × Bool)) (n : Nat) (G : Nat → Prop) : Prop :=
  ∃ v' ms' n' G', n' ≤ n + 65536 ∧ TAtZ w' t hp v' most ps ms' n' G' ∧ Turned (Feet t v G) w w' ∧ ∀ j, Feet t v' G' j → Feet t v G j ∨ w.heap.size ≤ j

set_option maxHeartbeats 1000000 in
set_option maxRecDepth 100000 in
theorem putAtNoZ [Inhabited EntI] {t hp : Nat} {v : Value} {most : Int} {ps : List (ByteArray × Bool)} {ms : List EntI} {n : Nat} {G : Nat → Prop} (k : Int) (x : ByteArray) (w : World) (h : TAtZ w t hp v most ps ms n G) (hk : k < 1 ∨ most < k ∨ ∃ (i : Nat) (a : ByteArray), k = (i : Int) + 1 ∧ ps[i]? = some (a, true)) :
    Calls Try.prog 29 #[.pointer (some ⟨t, 0, none⟩), .int .i64 k, .string (x)] w fun e w' => e = .returned (.bool false) ∧ w' = w := by
  obtain ⟨c0, -, -, -⟩ := h.cells
  have hm := h.top
  have hl := h.len
  by_cases h1 : k < 1
  · clear h hk hm hl
    go_enter Try.func29, Try.ntmps29
    go_wp2_with fail
    go_ret
    exact ⟨rfl, rfl⟩
  · by_cases h2 : most < k
    · clear h hk hm hl
      go_enter Try.func29, Try.ntmps29
      go_wp2_with fail
      go_ret
      exact ⟨rfl, rfl⟩
    · obtain ⟨i, a, rfl, hi⟩ : ∃ (i : Nat) (a : ByteArray), k = (i : Int) + 1 ∧ ps[i]? = some (a, true) := by
        rcases hk with hk | hk | hk
        · exact absurd hk h1
        · exact absurd hk h2
        · exact hk
      have CT := hide (takenAtZ i w h hi)
      clear h hm hl hi hk
      go_enter Try.func29, Try.ntmps29
      go_wp2_with fail
      refine (unhide CT).mono ?_
      rintro e w2 ⟨rfl, rfl⟩
      clear CT
      go_wp2_with fail
      go_ret
      exact ⟨rfl, rfl⟩

set_option maxHeartbeats 1000000 in
set_option maxRecDepth 100000 in
theorem putAtYesZ [Inhabited EntI] {t hp : Nat} {v : Value} {most : Int} {ps : List (ByteArray × Bool)} {ms : List EntI} {n : Nat} {G : Nat → Prop} (i : Nat) (x : ByteArray) (w : World) (h : TAtZ w t hp v most ps ms n G) (hi : (i : Int) < most) (hk : ∀ a, ps[i]? ≠ some (a, true)) (hn : n ≤ 1000000000) :
    Calls Try.prog 29 #[.pointer (some ⟨t, 0, none⟩), .int .i64 ((i : Int) + 1), .string (x)] w fun e w' => e = .returned (.bool true) ∧ Hid (ThenZ w w' t hp v most ((groZ ps (i + 1)).set i (x, true)) n G) := by
  obtain ⟨c0, -, -, -⟩ := h.cells
  have hm := h.top
  have CT := hide (takenNoZ ((i : Int) + 1) w h (fun j a e => by
    obtain rfl : j = i := by omega
    exact hk a))
  have CG := hide (growToZ (i + 1) w h (by push_cast; omega) hn)
  have HL := hide h.len
  obtain ⟨a, hia⟩ := groZ_at hk
  have HIA := hide hia
  have h1 : ¬ (i : Int) + 1 < 1 := by omega
  have h2 : ¬ most < (i : Int) + 1 := by omega
  have HI := hide hi
  have HM := hide hm
  have h6 : (i : Int) < 65536 := by omega
  clear h hk hia hi hm
  go_enter Try.func29, Try.ntmps29
  go_wp2_with fail
  refine (unhide CT).mono ?_
  rintro e w1 ⟨rfl, rfl⟩
  clear CT
  go_wp2_with fail
  refine (unhide CG).mono ?_
  rintro e w2 ⟨rfl, h2⟩
  obtain ⟨v1, ms1, G1, t1, T1, S1⟩ := unhide h2
  have t1' : TAtZ w2 t hp v1 most (groZ ps (i + 1)) ms1 (n + (i + 1 - ps.length)) G1 := t1
  obtain ⟨y, hy, ey⟩ := t1'.fr.all i a (unhide HIA)
  have CD := t1'.on.drop hy (by have := t1'.fr.cnt; have := t1'.len; have := t1'.top; omega)
  rw [ey] at CD
  have HCD := hide CD
  have e2 := t1'.raw.cells.2.2
  have HS := hide (And.intro t1' (And.intro T1 S1))
  clear CG h2 t1 t1' T1 S1 hy ey CD
  go_wp2_with fail
  refine (unhide HCD).mono ?_
  rintro e w3 ⟨rfl, G3, o1, o2, o3⟩
  obtain ⟨t1, T1, S1⟩ := unhide HS
  obtain ⟨r3, T3, S3⟩ := t1.raw.heap o1 o2 o3
  have hlt := lt_of_at (unhide HIA)
  obtain ⟨g, c, rfl, -, -, -⟩ := t1.some_ (by omega)
  have d1 := r3.cells.2.1
  have df : ∀ o, w3.frozen? ⟨g, o, none⟩ = false := fun o => by
    rcases r3.row.2 with ⟨e, -⟩ | ⟨g', cap, cur, e, -, hg, -⟩
    · cases e
    · cases e; exact frozen_of_row w3 g o _ _ hg
  obtain ⟨f1, f2⟩ := encP_at (fun a => .string (a)) _ i a false (unhide HIA)
  have add : ∀ j, (⟨g, 0, none⟩ : Addr).add j = ⟨g, j, none⟩ := fun j => by unfold Addr.add; split <;> simp_all
  have g1 := r3.row.cells (g := g) rfl _ _ f1
  have g2 := r3.row.cells (g := g) rfl _ _ f2
  rw [add] at g1 g2
  have HF : Hid (ThenZ w1 ((w3.setCell ⟨g, i * 2, none⟩ (.string (x))).setCell ⟨g, i * 2 + 1, none⟩ (.bool true)) t hp v most ((groZ ps (i + 1)).set i (x, true)) n G) := by
    obtain ⟨r4, T4⟩ := r3.store i x true
    refine ⟨_, _, _, _, ?_, r4.full (frees_take t1.fr t1.on.once (unhide HIA) x), ?_, ?_⟩
    · have := unhide HI; have := unhide HM; omega
    · refine T1.then_ (T3.then_ T4 (fun j hj hf => (S3 j hf).elim id (fun e => by omega))) (fun j hj hf => (S1 j hf).elim id (fun e => by omega))
    · intro j hj
      rcases S3 j hj with e | e
      · exact S1 j e
      · exact .inr (Nat.le_trans T1.size e)
  have hltz : (i : Int) < ((groZ ps (i + 1)).length : Int) := by omega
  generalize (groZ ps (i + 1)).length = L at *
  clear HCD HS t1 T1 S1 r3 T3 S3 o1 o2 o3 f1 f2 hlt
  go_wp2_with fail
  go_ret
  exact ⟨rfl, unhide HF⟩
end Go.Proofs.Ytkdlhnfagghppaa
