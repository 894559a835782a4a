/- The reference's deeds in memory, and its Has. -/
import Derived.Test.YtdalghfhpekcfaaRefMath
import Derived.Test.YtdalghfhpekcfaaRefRow
import Derived.Deep.CutRange
import Derived.Lib.AppendZeros
namespace Go.Proofs.Ytdalghfhpekcfaa
open Go.RowKit Go.Shelf

/-- The cells of deeds. -/
def encD (ds : List Deed) : List Value := ds.flatMap fun d => [.bool d.1, .int .i64 d.2.1, .int .i64 d.2.2]
theorem encD_cons (d : Deed) (ds : List Deed) : encD (d :: ds) = .bool d.1 :: .int .i64 d.2.1 :: .int .i64 d.2.2 :: encD ds := by simp [encD]
theorem encD_append (a b : List Deed) : encD (a ++ b) = encD a ++ encD b := by simp [encD]
theorem encD_length (ds : List Deed) : (encD ds).length = ds.length * 3 := by
  induction ds with
  | nil => rfl
  | cons d ds ih => rw [encD_cons]; simp at ih ⊢; omega
theorem encD_one (ds : List Deed) : ∀ u ∈ encD ds, u.oneCell' = true := by
  intro u hu
  simp only [encD, List.mem_flatMap, List.mem_cons, List.not_mem_nil, or_false] at hu
  obtain ⟨d, -, rfl | rfl | rfl⟩ := hu <;> rfl
theorem encD_at : ∀ (ds : List Deed) (i : Nat) (d : Deed), ds[i]? = some d → (encD ds)[i * 3]? = some (.bool d.1) ∧ (encD ds)[i * 3 + 1]? = some (.int .i64 d.2.1) ∧ (encD ds)[i * 3 + 2]? = some (.int .i64 d.2.2)
  | [], i, d, h => by simp at h
  | e :: ds, 0, d, h => by
    simp at h
    subst h
    rw [encD_cons]
    simp
  | e :: ds, i + 1, d, h => by
    have ih := encD_at ds i d (by simpa using h)
    rw [encD_cons, show (i + 1) * 3 = i * 3 + 1 + 1 + 1 by omega]
    simpa using ih

/-- Deeds as a slice. -/
abbrev ActsAt (w : World) (v : Value) (ds : List Deed) : Prop := w.ownsRow 0 97 3 v ds.length (encD ds)

theorem row_kept3 {w w' : World} {e : TypeId} {s : Nat} {v : Value} {L : Nat} {xs : List Value} (h : w.ownsRow 0 e s v L xs) (hk : ∀ k, v.ownBlock = some k → w'.heap[k]? = w.heap[k]?) : w'.ownsRow 0 e s v L xs := by
  refine ⟨h.1, ?_⟩
  rcases h.2 with hn | ⟨g, cap, cur, rfl, hb, hgg, rest⟩
  · exact .inl hn
  · exact .inr ⟨g, cap, cur, rfl, hb, (hk g rfl).trans hgg, rest⟩
theorem row_below {w w' : World} {e : TypeId} {s : Nat} {v : Value} {L : Nat} {xs : List Value} (h : w.ownsRow 0 e s v L xs) (hb : Below w.heap.size w w') : w'.ownsRow 0 e s v L xs := row_kept3 h (fun k hk => hb.block k (h.lt k hk).2)
theorem row_shape3 {w : World} {v : Value} {e : TypeId} {s n : Nat} {xs : List Value} (h : w.ownsRow 0 e s v n xs) : ∃ a c, v = .slice a n c := by
  rcases h.2 with ⟨rfl, h3⟩ | ⟨g, cap, cur, rfl, -⟩
  · exact ⟨none, 0, by rw [h3]⟩
  · exact ⟨_, _, rfl⟩
theorem acts_cells {w : World} {a : Option Addr} {n c : Nat} {ds : List Deed} (h : w.ownsRow 0 97 3 (.slice a n c) n (encD ds)) : ∀ i d, ds[i]? = some d → ∃ g, a = some ⟨g, 0, none⟩ ∧ g < w.heap.size ∧ w.cell? ⟨g, i * 3, none⟩ = some (.bool d.1) ∧ w.cell? ⟨g, i * 3 + 1, none⟩ = some (.int .i64 d.2.1) ∧ w.cell? ⟨g, i * 3 + 2, none⟩ = some (.int .i64 d.2.2) := by
  intro i d hd
  have hl : ds.length = n := by have := h.1; rw [encD_length] at this; omega
  have hi := (List.getElem?_eq_some_iff.1 hd).1
  have hc := @World.ownsRow.cells _ _ _ _ _ _ _ h
  rcases h.2 with ⟨-, h0⟩ | ⟨g, cap, cur, e, -, hg, -⟩
  · omega
  · cases e
    obtain ⟨e0, e1, e2⟩ := encD_at ds i d hd
    have f0 := hc rfl _ _ e0
    have f1 := hc rfl _ _ e1
    have f2 := hc rfl _ _ e2
    rw [add_g, Nat.zero_add] at f0 f1 f2
    exact ⟨g, rfl, (Array.getElem?_eq_some_iff.1 hg).1, f0, f1, f2⟩

/-- A struct of two cells in its box. -/
theorem box62 (w : World) (x y : Value) (t : TypeId) : (w.alloc (.cells #[x, y] t)).cell? ⟨w.heap.size, 0, none⟩ = some x ∧ (w.alloc (.cells #[x, y] t)).cell? ⟨w.heap.size, 1, none⟩ = some y := by
  refine ⟨?_, ?_⟩ <;> rw [World.cell?_alloc_at _ _ _ _ (by simp)] <;> rfl

set_option maxHeartbeats 1000000 in
set_option maxRecDepth 100000 in
theorem refHas {v : Value} {ds : List Deed} (most x : Int) (w : World) (h : ActsAt w v ds) (hn : ds.length ≤ 1000000) :
    Calls Try.prog 36 #[.agg #[v, .int .i64 most], .int .i64 x] w fun e w' => e = .returned (.bool (isIn ds x)) ∧ Below w.heap.size w w' := by
  obtain ⟨a, c, rfl⟩ := row_shape3 h
  have HB : Hid (Below w.heap.size w (w.alloc (.cells #[.slice a ds.length c, .int .i64 most] 62))) := (Below.refl _ _).alloc (Nat.le_refl _) _
  obtain ⟨b0, b1⟩ := box62 w (.slice a ds.length c) (.int .i64 most) 62
  have HC : Hid (∀ i d, ds[i]? = some d → ∃ g, a = some ⟨g, 0, none⟩ ∧ (w.alloc (.cells #[.slice a ds.length c, .int .i64 most] 62)).cell? ⟨g, i * 3, none⟩ = some (.bool d.1) ∧ (w.alloc (.cells #[.slice a ds.length c, .int .i64 most] 62)).cell? ⟨g, i * 3 + 1, none⟩ = some (.int .i64 d.2.1) ∧ (w.alloc (.cells #[.slice a ds.length c, .int .i64 most] 62)).cell? ⟨g, i * 3 + 2, none⟩ = some (.int .i64 d.2.2)) := fun i d hd => by
    obtain ⟨g, e, -, f0, f1, f2⟩ := acts_cells h i d hd
    exact ⟨g, e, cell_old _ f0, cell_old _ f1, cell_old _ f2⟩
  have HN := hide hn
  have HT : Hid (isIn (ds.take ds.length) x = isIn ds x) := by show _ = _; rw [List.take_length]
  have HA : Hid (∀ k, k < ds.length → ∃ d, ds[k]? = some d) := fun k hk => ⟨ds[k], List.getElem?_eq_getElem hk⟩
  generalize hL : ds.length = L at *
  generalize hR : isIn ds x = R at *
  clear h hn hL
  go_enter Try.func36, Try.ntmps36
  go_upto_region 1 with fail
  generalize (w.alloc (.cells #[.slice a L c, .int .i64 most] 62)) = W at *
  have hL6 : (L : Int) ≤ 1000000 := by have := unhide HN; omega
  have hL7 : IntKind.i64.wrap ((L : Int) - 1) = (L : Int) - 1 := by rw [IntKind.wrap_i64]; omega
  go_wp2_with fail
  go_loopw [5] (fun s5 wr => ∃ k : Nat, k ≤ L ∧ s5 = .int .i64 ((k : Int) - 1) ∧ wr = W ∧ Hid (isIn (ds.take k) x = R)) (fun s5 _ => (intOf s5 + 1).toNat)
  case atStart => exact ⟨L, Nat.le_refl _, rfl, rfl, HT⟩
  case round =>
    obtain ⟨k, hk, rfl, rfl, HI⟩ := hrel
    cases k with
    | zero =>
      have HE : Hid (R = false) := by have := unhide HI; rw [List.take_zero] at this; exact this.symm
      clear HI HT hR
      obtain ⟨z, hz⟩ : ∃ z : Int, z = ((0 : Nat) : Int) - 1 := ⟨_, rfl⟩
      rw [← hz]
      have hz0 : z < 0 := by omega
      have hz1 : ¬ (0 : Int) ≤ z := by omega
      clear hz
      go_wp2_with fail
      go_ret
      exact ⟨by rw [unhide HE]; rfl, unhide HB⟩
    | succ j =>
      have hj : ((j + 1 : Nat) : Int) - 1 = (j : Int) := by omega
      rw [hj]
      have hjz : (j : Int) < (L : Int) := by omega
      have hj0 : (0 : Int) ≤ (j : Int) := by omega
      obtain ⟨d, hd⟩ := unhide HA j (by omega)
      obtain ⟨g, rfl, c0, c1, c2⟩ := unhide HC j d hd
      have HD := hide hd
      have hI := unhide HI
      rw [isIn_at hd] at hI
      have HII := hide hI
      clear HI hI hd hR HT
      by_cases h1 : d.2.1 ≤ x
      · by_cases h2 : x ≤ d.2.2
        · have HE : Hid (d.1 = R) := by
            have := unhide HII
            rwa [if_pos ((names_iff _ _).2 ⟨h1, h2⟩)] at this
          clear HII
          obtain ⟨dn, dl, dh⟩ := d
          dsimp only at *
          go_wp2_with fail
          go_ret
          exact ⟨by rw [unhide HE]; rfl, unhide HB⟩
        · have HE : Hid (isIn (ds.take j) x = R) := by
            have := unhide HII
            rwa [if_neg (fun e => h2 ((names_iff _ _).1 e).2)] at this
          clear HII
          obtain ⟨dn, dl, dh⟩ := d
          dsimp only at *
          go_wp2_with fail
          go_roundw
          case rel => exact ⟨j, by omega, by go_num, by first | exact rfl | exact trivial, HE⟩
          case measure => first | (simp [intOf]; done) | (simp [intOf]; omega)
      · have HE : Hid (isIn (ds.take j) x = R) := by
          have := unhide HII
          rwa [if_neg (fun e => h1 ((names_iff _ _).1 e).1)] at this
        clear HII
        obtain ⟨dn, dl, dh⟩ := d
        dsimp only at *
        go_wp2_with fail
        go_roundw
        case rel => exact ⟨j, by omega, by go_num, by first | exact rfl | exact trivial, HE⟩
        case measure => first | (simp [intOf]; done) | (simp [intOf]; omega)
end Go.Proofs.Ytdalghfhpekcfaa
