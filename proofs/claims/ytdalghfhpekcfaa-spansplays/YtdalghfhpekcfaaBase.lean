/- What the walks over sets share: facts kept from the walk, runs as cells, sort.Search. -/
import Derived.Test.YtdalghfhpekcfaaRows
import Derived.WalkKit
import Derived.WalkSpells
import Derived.WalkLawsBesides
import Derived.Laws.Externs
import Derived.OwnWalk
import Derived.BigQuiet
import Derived.Shelf.Abstract
namespace Go.Proofs.Ytdalghfhpekcfaa
open Go.RowKit

theorem hide {p : Prop} (h : p) : Hid p := h
theorem unhide {p : Prop} (h : Hid p) : p := h

theorem below_drewN {B : Nat} {a w : World} (h : Below B a w) (q : Nat) : Below B a (w.drewN q) := ⟨h.os, h.tape, h.output, h.size, h.block⟩

/-- The cells of a list of runs. -/
def enc (k : IntKind) (rs : List (Int × Int)) : List Value := rs.flatMap fun r => [.int k r.1, .int k r.2]
def lo (rs : List (Int × Int)) (i : Nat) : Int := (rs.getD i (0, 0)).1
def hi (rs : List (Int × Int)) (i : Nat) : Int := (rs.getD i (0, 0)).2

theorem enc_length (k : IntKind) (rs : List (Int × Int)) : (enc k rs).length = rs.length * 2 := by
  induction rs with
  | nil => rfl
  | cons r rs ih => simp [enc] at ih ⊢; omega
theorem enc_append (k : IntKind) (a b : List (Int × Int)) : enc k (a ++ b) = enc k a ++ enc k b := by simp [enc]
theorem enc_cons (k : IntKind) (r : Int × Int) (b : List (Int × Int)) : enc k (r :: b) = .int k r.1 :: .int k r.2 :: enc k b := by simp [enc]
theorem enc_take (k : IntKind) : ∀ (rs : List (Int × Int)) (i : Nat), (enc k rs).take (i * 2) = enc k (rs.take i)
  | [], i => by simp [enc]
  | r :: rs, 0 => by simp [enc]
  | r :: rs, i + 1 => by
    rw [show (i + 1) * 2 = i * 2 + 1 + 1 by omega, enc_cons, List.take_succ_cons, List.take_succ_cons, enc_take k rs i, List.take_succ_cons, enc_cons]
theorem enc_drop (k : IntKind) : ∀ (rs : List (Int × Int)) (i : Nat), (enc k rs).drop (i * 2) = enc k (rs.drop i)
  | [], i => by simp [enc]
  | r :: rs, 0 => by simp [enc]
  | r :: rs, i + 1 => by
    rw [show (i + 1) * 2 = i * 2 + 1 + 1 by omega, enc_cons, List.drop_succ_cons, List.drop_succ_cons, enc_drop k rs i, List.drop_succ_cons]
theorem enc_lo (k : IntKind) : ∀ (rs : List (Int × Int)) (i : Nat), i < rs.length → (enc k rs)[i * 2]? = some (.int k (lo rs i))
  | [], i, h => by simp at h
  | r :: rs, 0, _ => by simp [enc, lo]
  | r :: rs, i + 1, h => by
    rw [show (i + 1) * 2 = i * 2 + 1 + 1 by omega, enc_cons, List.getElem?_cons_succ, List.getElem?_cons_succ, enc_lo k rs i (by simpa using h)]
    simp [lo]
theorem enc_hi (k : IntKind) : ∀ (rs : List (Int × Int)) (i : Nat), i < rs.length → (enc k rs)[i * 2 + 1]? = some (.int k (hi rs i))
  | [], i, h => by simp at h
  | r :: rs, 0, _ => by simp [enc, hi]
  | r :: rs, i + 1, h => by
    rw [show (i + 1) * 2 + 1 = i * 2 + 1 + 1 + 1 by omega, enc_cons, List.getElem?_cons_succ, List.getElem?_cons_succ, enc_hi k rs i (by simpa using h)]
    simp [hi]
theorem enc_one (k : IntKind) (rs : List (Int × Int)) : ∀ u ∈ enc k rs, u.oneCell' = true := by
  intro u hu
  simp only [enc, List.mem_flatMap, List.mem_cons, List.not_mem_nil, or_false] at hu
  obtain ⟨r, -, rfl | rfl⟩ := hu <;> rfl

/-- What an owned row of runs gives to who reads it. -/
theorem owns_cells {w : World} {B : Nat} {e : TypeId} {k : IntKind} {g n c : Nat} {rs : List (Int × Int)} (h : w.ownsRow B e 2 (.slice (some ⟨g, 0, none⟩) n c) n (enc k rs)) :
    ∀ i, i < n → w.cell? ⟨g, i * 2, none⟩ = some (.int k (lo rs i)) ∧ w.cell? ⟨g, i * 2 + 1, none⟩ = some (.int k (hi rs i)) := by
  intro i hi
  have hl : rs.length = n := by have := h.1; rw [enc_length] at this; omega
  have hc := h.cells (g := g) rfl
  have add : ∀ j, (⟨g, 0, none⟩ : Addr).add j = ⟨g, j, none⟩ := fun j => by unfold Addr.add; split <;> simp_all
  have h1 := hc (i * 2) _ (enc_lo k rs i (by omega))
  have h2 := hc (i * 2 + 1) _ (enc_hi k rs i (by omega))
  rw [add] at h1 h2
  exact ⟨h1, h2⟩

set_option maxHeartbeats 1000000 in
/-- sort.Search over a closure that only draws. -/
theorem search_any (g : Nat) (cb : Array Value) (n : Nat) (p : Nat → Bool) (w : World) (hsz : n < 4611686018427387904) (eg : ∀ args w, (callFunc g args).run Try.prog w = .ok (.enter g args) w)
    (HF : Hid (∀ (m i : Nat), i < n → Calls Try.prog g (#[.int .i64 i] ++ cb) (w.drewN m) fun e w' => e = .returned (.bool (p i)) ∧ ∃ q, w' = w.drewN q))
    (M : Hid (∀ a b, a ≤ b → b < n → p a = true → p b = true)) :
    Calls Try.prog 82 #[.int .i64 n, .func (.func g) #[] cb] w fun e w' => ∃ r : Nat, e = .returned (.int .i64 r) ∧ r ≤ n ∧ (∀ t, t < r → p t = false) ∧ (∀ t, r ≤ t → t < n → p t = true) ∧ ∃ q, w' = w.drewN q := by
  go_enter Try.func82, Try.ntmps82
  go_wp2
  go_loopw [5, 6] (fun s5 s6 wr => ∃ (l h q : Nat), s5 = .int .i64 l ∧ s6 = .int .i64 h ∧ l ≤ h ∧ h ≤ n ∧ wr = w.drewN q ∧ Hid ((∀ t, t < l → p t = false) ∧ (∀ t, h ≤ t → t < n → p t = true)))
    (fun a b _ => (intOf b - intOf a).toNat)
  case atStart => exact ⟨0, n, 0, rfl, rfl, Nat.zero_le _, Nat.le_refl _, rfl, ⟨fun t ht => absurd ht (Nat.not_lt_zero _), fun t h1 h2 => by omega⟩⟩
  case round =>
    obtain ⟨l, h, q, rfl, rfl, hlh, hin, rfl, I⟩ := hrel
    by_cases hlt : l < h
    · have hc := unhide HF q ((l + h) / 2) (by omega)
      rw [show (((l + h) / 2 : Nat) : Int) = ((l : Int) + (h : Int)) / 2 by omega] at hc
      cases hp : p ((l + h) / 2) <;> rw [hp] at hc
      · have HP := hide hp
        clear hp
        go_wp2_with fail
        refine hc.mono ?_
        rintro e w' ⟨rfl, nq, rfl⟩
        go_wp2_with fail
        go_roundw
        case measure => simp [intOf]; omega
        case rel =>
          refine ⟨(l + h) / 2 + 1, h, nq, by rw [show ((l : Int) + (h : Int)) / 2 + 1 = (((l + h) / 2 + 1 : Nat) : Int) by omega], rfl, by omega, hin, rfl, ?_, (unhide I).2⟩
          intro t ht
          cases h2 : p t with
          | false => rfl
          | true => have := unhide M t ((l + h) / 2) (by omega) (by omega) h2; rw [unhide HP] at this; cases this
      · have HP := hide hp
        clear hp
        go_wp2_with fail
        refine hc.mono ?_
        rintro e w' ⟨rfl, nq, rfl⟩
        go_wp2_with fail
        go_roundw
        case measure => simp [intOf]; omega
        case rel =>
          refine ⟨l, (l + h) / 2, nq, rfl, by rw [show ((l : Int) + (h : Int)) / 2 = (((l + h) / 2 : Nat) : Int) by omega], by omega, by omega, rfl, (unhide I).1, fun t ht htn => unhide M ((l + h) / 2) t ht htn (unhide HP)⟩
    · obtain rfl : h = l := by omega
      go_wp2
      go_ret
      exact ⟨h, rfl, hin, (unhide I).1, (unhide I).2, q, rfl⟩

theorem wrap_u8 {z : Int} (h : 0 ≤ z) (h2 : z ≤ 255) : IntKind.wrap .u8 z = z := by
  simp only [IntKind.wrap, IntKind.bits, IntKind.signed, Bool.false_and, Bool.false_eq_true, if_false]
  omega
theorem wrap_i64 {z : Int} (h : -9223372036854775808 ≤ z) (h2 : z ≤ 9223372036854775807) : IntKind.wrap .i64 z = z := by rw [IntKind.wrap_i64]; omega
theorem wrap_i8 {z : Int} (h : -128 ≤ z) (h2 : z ≤ 127) : IntKind.wrap .i8 z = z := by
  have e : (2 : Int) ^ 8 = 256 := by decide
  have e2 : (2 : Int) ^ (8 - 1) = 128 := by decide
  simp only [IntKind.wrap, IntKind.bits, IntKind.signed, Bool.true_and, e, e2]
  by_cases h3 : z % 256 ≥ 128
  · rw [if_pos (by simpa using h3)]; omega
  · rw [if_neg (by simpa using h3)]; omega

/-- A call answers whether φ. -/
def Says (e : Ending) (φ : Prop) : Prop := ∃ r : Bool, e = .returned (.bool r) ∧ (r = true ↔ φ)
/-- Next's answer. -/
def SaysNext (k : IntKind) (e : Ending) (rs : List (Int × Int)) (x : Int) : Prop := ∃ (y : Int) (ok : Bool), e = .returned (.tuple #[.int k y, .bool ok]) ∧
      ((ok = false ∧ y = 0 ∧ ∀ t, t < rs.length → hi rs t < x) ∨ (ok = true ∧ ∃ r, r < rs.length ∧ (∀ t, t < r → hi rs t < x) ∧ x ≤ hi rs r ∧ y = max x (lo rs r)))

/-- Runs that are the longest ones, rising. -/
structure Canon (rs : List (Int × Int)) : Prop where
  run : ∀ i, i < rs.length → lo rs i ≤ hi rs i
  gap : ∀ i j, i < j → j < rs.length → hi rs i + 1 < lo rs j

/-- A set's own block, and the row of its runs in another one. -/
structure SetAt (k : IntKind) (eR eS : TypeId) (w : World) (p : Nat) (v : Value) (rs : List (Int × Int)) : Prop where
  box : w.heap[p]? = some (.cells #[v] eS (0, 0))
  row : w.ownsRow 0 eR 2 v rs.length (enc k rs)
  ne : v.ownBlock ≠ some p

theorem SetAt.cell {k : IntKind} {eR eS : TypeId} {w : World} {p : Nat} {v : Value} {rs : List (Int × Int)} (h : SetAt k eR eS w p v rs) : w.cell? ⟨p, 0, none⟩ = some v := by
  have := cell_of_row w p 0 #[v] eS (0, 0) h.box
  simpa using this

theorem SetAt.lt {k : IntKind} {eR eS : TypeId} {w : World} {p : Nat} {v : Value} {rs : List (Int × Int)} (h : SetAt k eR eS w p v rs) : p < w.heap.size := (Array.getElem?_eq_some_iff.1 h.box).1

/-- Where the two blocks are as they were, the set is. -/
theorem SetAt.kept {k : IntKind} {eR eS : TypeId} {w w' : World} {p : Nat} {v : Value} {rs : List (Int × Int)} (h : SetAt k eR eS w p v rs) (h1 : w'.heap[p]? = w.heap[p]?) (h2 : ∀ g, v.ownBlock = some g → w'.heap[g]? = w.heap[g]?) : SetAt k eR eS w' p v rs := by
  refine ⟨h1.trans h.box, ⟨h.row.1, ?_⟩, h.ne⟩
  rcases h.row.2 with hn | ⟨g, cap, cur, rfl, hb, hgg, rest⟩
  · exact .inl hn
  · exact .inr ⟨g, cap, cur, rfl, hb, (h2 g rfl).trans hgg, rest⟩

theorem SetAt.below {k : IntKind} {eR eS : TypeId} {w w' : World} {p : Nat} {v : Value} {rs : List (Int × Int)} (h : SetAt k eR eS w p v rs) (hb : Below w.heap.size w w') : SetAt k eR eS w' p v rs :=
  h.kept (hb.block _ h.lt) (fun g hg => hb.block _ (h.row.lt g hg).2)

/-- A set whose row is nil has no runs; any other has its cells. -/
theorem SetAt.two {k : IntKind} {eR eS : TypeId} {w : World} {p : Nat} {v : Value} {rs : List (Int × Int)} (h : SetAt k eR eS w p v rs) :
    (v = .slice none 0 0 ∧ rs = []) ∨ ∃ g c, v = .slice (some ⟨g, 0, none⟩) rs.length c ∧ rs.length ≤ c ∧ g ≠ p ∧ g < w.heap.size ∧ ∀ i, i < rs.length → w.cell? ⟨g, i * 2, none⟩ = some (.int k (lo rs i)) ∧ w.cell? ⟨g, i * 2 + 1, none⟩ = some (.int k (hi rs i)) := by
  have hr := h.row
  have hne := h.ne
  have hlt := h.row.lt
  rcases h.row.2 with ⟨hn, h0⟩ | ⟨g, cap, cur, rfl, hb, hgg, hc, -⟩
  · exact .inl ⟨hn, List.length_eq_zero_iff.1 h0⟩
  · exact .inr ⟨g, cap, rfl, hc, fun e => hne (by simp [Value.ownBlock, e]), (hlt g rfl).2, owns_cells hr⟩

theorem cell_box (W : World) (v : Value) (t : TypeId) : (W.alloc (.cells #[v] t)).cell? ⟨W.heap.size, 0, none⟩ = some v := by
  rw [World.cell?_alloc_at _ _ _ _ (by simp)]; rfl
theorem cell_old {W : World} {a : Addr} {v : Value} (o : Obj) (h : W.cell? a = some v) : (W.alloc o).cell? a = some v :=
  ((Below.refl W.heap.size W).alloc (Nat.le_refl _) o).cell (World.block_lt_of_cell? _ _ h) |>.trans h

end Go.Proofs.Ytdalghfhpekcfaa
