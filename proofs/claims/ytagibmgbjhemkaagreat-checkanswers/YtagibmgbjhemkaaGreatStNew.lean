/- New: a store without vertices. -/
import Derived.Test.YtagibmgbjhemkaaGreatStTurn
namespace Go.Proofs.YtagibmgbjhemkaaGreat
open Go.RowKit Go.Maps

section
variable [Inhabited EntI]

/-- A store of which nothing is known but that it is empty. -/
def Fresh (w w' : World) (X : Sto) : Prop := Below w.heap.size w w' ∧ StAt w' X ∧ (∀ b, X.L b ≠ none → w.heap.size ≤ b) ∧ X.ps = [] ∧ X.f = (fun _ => none) ∧ X.N = 0 ∧ X.rd = 0 ∧ X.wr = 0 ∧ X.n = 0

set_option maxHeartbeats 1000000 in
set_option maxRecDepth 100000 in
theorem newS (w : World) : Calls Tryz.prog 29 #[] w fun e w' => ∃ s, e = .returned (.pointer (some ⟨s, 0, none⟩)) ∧ Hid (∃ X, X.s = s ∧ Fresh w w' X) := by
  have hmm := @run_makeMap Tryz.prog
  have CN := hide (newE w)
  have HF : Hid (∀ w2 t hp G, Below w.heap.size w w2 ∧ TAtE w2 t hp (.slice none 0 0) 1024 [] [] 0 G ∧ (∀ j, Feet t (.slice none 0 0) G j → w.heap.size ≤ j) → ∃ X, X.s = w2.heap.size + 1 ∧ Fresh w ((w2.alloc (.map #[] 0)).alloc (.cells #[.pointer (some ⟨t, 0, none⟩), .map (some w2.heap.size), .int .i64 0, .int .i64 0] 81)) X) := by
    rintro w2 t hp G ⟨hb, h1, h2⟩
    have hbm : Below w2.heap.size w2 (w2.alloc (.map #[] 0)) := (Below.refl _ _).alloc (Nat.le_refl _) _
    have hsm : (w2.alloc (.map #[] 0)).heap.size = w2.heap.size + 1 := by simp
    have hbs : Below (w2.heap.size + 1) (w2.alloc (.map #[] 0)) ((w2.alloc (.map #[] 0)).alloc (.cells #[.pointer (some ⟨t, 0, none⟩), .map (some w2.heap.size), .int .i64 0, .int .i64 0] 81)) := (Below.refl _ _).alloc (by omega) _
    have hsz : ((w2.alloc (.map #[] 0)).alloc (.cells #[.pointer (some ⟨t, 0, none⟩), .map (some w2.heap.size), .int .i64 0, .int .i64 0] 81)).heap.size = w2.heap.size + 2 := by simp
    have hbx : ((w2.alloc (.map #[] 0)).alloc (.cells #[.pointer (some ⟨t, 0, none⟩), .map (some w2.heap.size), .int .i64 0, .int .i64 0] 81)).heap[w2.heap.size + 1]? = some (.cells #[.pointer (some ⟨t, 0, none⟩), .map (some w2.heap.size), .int .i64 0, .int .i64 0] 81 (0, 0)) := by
      have := heap_alloc_new (w2.alloc (.map #[] 0)) (.cells #[.pointer (some ⟨t, 0, none⟩), .map (some w2.heap.size), .int .i64 0, .int .i64 0] 81)
      rwa [hsm] at this
    have hmap : MapFn 3 klN okN ((w2.alloc (.map #[] 0)).alloc (.cells #[.pointer (some ⟨t, 0, none⟩), .map (some w2.heap.size), .int .i64 0, .int .i64 0] 81)) w2.heap.size (fun _ => none) 0 := (mapFn_made w2).kept (hbs.block _ (by omega))
    generalize (w2.alloc (.map #[] 0)).alloc (.cells #[.pointer (some ⟨t, 0, none⟩), .map (some w2.heap.size), .int .i64 0, .int .i64 0] 81) = w4 at *
    obtain ⟨L, l1, l2, l3, l4⟩ : ∃ L : Nat → Option Who, (∀ b, Feet t (.slice none 0 0) G b → L b = some .tab) ∧ L w2.heap.size = some .map ∧ L (w2.heap.size + 1) = some .box ∧ ∀ b, L b ≠ none → Feet t (.slice none 0 0) G b ∨ b = w2.heap.size ∨ b = w2.heap.size + 1 := by
      classical
      have hf : ∀ b, Feet t (.slice none 0 0) G b → b < w2.heap.size := fun b hb => h1.lt hb
      refine ⟨fun b => if Feet t (.slice none 0 0) G b then some .tab else if b = w2.heap.size then some .map else if b = w2.heap.size + 1 then some .box else none, fun b hb => if_pos hb, ?_, ?_, fun b hb => ?_⟩
      · dsimp only
        rw [if_neg (fun e => by have := hf _ e; omega), if_pos rfl]
      · dsimp only
        rw [if_neg (fun e => by have := hf _ e; omega), if_neg (by omega), if_pos rfl]
      · dsimp only at hb
        by_cases e1 : Feet t (.slice none 0 0) G b
        · exact .inl e1
        · rw [if_neg e1] at hb
          by_cases e2 : b = w2.heap.size
          · exact .inr (.inl e2)
          · rw [if_neg e2] at hb
            by_cases e3 : b = w2.heap.size + 1
            · exact .inr (.inr e3)
            · rw [if_neg e3] at hb; exact absurd rfl hb
    have hall : Below w2.heap.size w2 w4 := hbm.trans (hbs.mono (by omega))
    refine ⟨⟨w2.heap.size + 1, t, hp, w2.heap.size, .slice none 0 0, [], [], 0, G, fun _ => none, 0, fun _ => .slice none 0 0, fun _ => .slice none 0 0, 0, 0, L⟩, rfl, hb.trans (hall.mono hb.size), ⟨⟨hbx, h1.kept (fun b hb => hall.block b (h1.lt hb)), hmap, fun k hk => absurd rfl hk, fun k q e => (by cases e), fun k q e => (by cases e), fun k q e => (by cases e), l3, l1, l2, fun k q e => (by cases e), fun k q b e => (by cases e), fun k q b e => (by cases e), fun b hb => ?_⟩, fun i x hx => (by simp at hx), Nat.zero_le _⟩, fun b hb => ?_, rfl, rfl, rfl, rfl, rfl, rfl⟩
    · rcases l4 b hb with e | e | e
      · have := h1.lt e; omega
      · omega
      · omega
    · have := hb
      rcases l4 b hb with e | e | e
      · exact h2 b e
      · rw [e]; exact Nat.le_trans (Nat.le_refl _) (by have := ‹Below w.heap.size w w2›.size; omega)
      · rw [e]; have := ‹Below w.heap.size w w2›.size; omega
  go_enter Tryz.func29, Tryz.ntmps29
  go_wp2_with fail
  refine (unhide CN).mono ?_
  rintro e w2 ⟨t, hp, G, rfl, h2⟩
  have HG := hide (unhide HF w2 t hp G (unhide h2))
  clear CN HF h2
  go_wp2_with fail
  go_ret
  exact ⟨_, rfl, unhide HG⟩
end
end Go.Proofs.YtagibmgbjhemkaaGreat
