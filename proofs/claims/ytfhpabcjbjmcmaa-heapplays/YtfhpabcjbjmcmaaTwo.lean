/- Two heaps side by side. -/
import Derived.Test.YtfhpabcjbjmcmaaSortsWalk
namespace Go.Proofs.Ytfhpabcjbjmcmaa
open Go.RowKit Go.Maps

structure TwoI [Inhabited EntI] (B : Nat) (w0 : World) (p1 : Nat) (ms1 : List EntI) (n1 p2 : Nat) (ms2 : List EntI) (n2 : Nat) (w : World) : Prop where
  below : Below B w0 w
  room : B ≤ w.heap.size
  on : ∃ F1 F2, OnI w p1 F1 ms1 n1 ∧ OnI w p2 F2 ms2 n2 ∧ (∀ j, F1 j → ¬ F2 j) ∧ (∀ j, F1 j → B ≤ j) ∧ ∀ j, F2 j → B ≤ j

theorem TwoI.swap [Inhabited EntI] {B : Nat} {w0 w : World} {p1 n1 p2 n2 : Nat} {ms1 ms2 : List EntI} (h : TwoI B w0 p1 ms1 n1 p2 ms2 n2 w) : TwoI B w0 p2 ms2 n2 p1 ms1 n1 w := by
  obtain ⟨F1, F2, h1, h2, h3, h4, h5⟩ := h.on
  exact ⟨h.below, h.room, F2, F1, h2, h1, fun j a b => h3 j b a, h5, h4⟩

theorem TwoI.step [Inhabited EntI] {B : Nat} {w0 w w' : World} {p1 n1 p2 n2 : Nat} {ms1 ms2 : List EntI} (h : TwoI B w0 p1 ms1 n1 p2 ms2 n2 w) (hb : Below w.heap.size w w') : TwoI B w0 p1 ms1 n1 p2 ms2 n2 w' := by
  obtain ⟨F1, F2, h1, h2, h3, h4, h5⟩ := h.on
  exact ⟨h.below.trans (hb.mono h.room), Nat.le_trans h.room hb.size, F1, F2, h1.kept (fun k hk => hb.block k (h1.lt hk)), h2.kept (fun k hk => hb.block k (h2.lt hk)), h3, h4, h5⟩

theorem TwoI.turn [Inhabited EntI] {B : Nat} {w0 w : World} {p1 n1 p2 n2 : Nat} {ms1 ms2 : List EntI} (h : TwoI B w0 p1 ms1 n1 p2 ms2 n2 w) :
    ∃ F1, OnI w p1 F1 ms1 n1 ∧ ∀ w' F1' ms1' n1', OnI w' p1 F1' ms1' n1' → Turned F1 w w' → (∀ j, F1' j → F1 j ∨ w.heap.size ≤ j) → TwoI B w0 p1 ms1' n1' p2 ms2 n2 w' := by
  obtain ⟨F1, F2, h1, h2, h3, h4, h5⟩ := h.on
  refine ⟨F1, h1, fun w' F1' ms1' n1' g1 g2 g3 => ⟨h.below.trans (g2.below h.room h4), Nat.le_trans h.room g2.size, F1', F2, g1, h2.kept (fun k hk => g2.block k (h2.lt hk) (fun e => h3 k e hk)), fun j hj hk => ?_, fun j hj => ?_, h5⟩⟩
  · rcases g3 j hj with e | e
    · exact h3 j e hk
    · have := h2.lt hk; omega
  · rcases g3 j hj with e | e
    · exact h4 j e
    · exact Nat.le_trans h.room e

theorem pushT [Inhabited EntI] {B : Nat} {w0 w : World} {p1 n1 p2 n2 : Nat} {ms1 ms2 : List EntI} (k r : Int) (h : TwoI B w0 p1 ms1 n1 p2 ms2 n2 w) (hk : KeyOkI k) (hnin : ∀ x ∈ ms1, x.key ≠ k) (hn : ms1.length < 1099511627776) (hnn : n1 < 1099511627776) :
    Calls Try.prog 14 #[.pointer (some ⟨p1, 0, none⟩), .int .i64 k, .int .i64 r] w fun e w' => e = .returned (.bool true) ∧ TwoI B w0 p1 (ms1 ++ [⟨k, r, n1⟩]) (n1 + 1) p2 ms2 n2 w' := by
  obtain ⟨F1, h1, ht⟩ := h.turn
  exact (h1.push k r hk hnin hn hnn).mono fun e w' ⟨he, F', g1, g2, g3⟩ => ⟨he, ht _ _ _ _ g1 g2 g3⟩

theorem popT [Inhabited EntI] {B : Nat} {w0 w : World} {p1 n1 p2 n2 : Nat} {ms1 ms2 : List EntI} (h : TwoI B w0 p1 ms1 n1 p2 ms2 n2 w) (h0 : 0 < ms1.length) (hn : ms1.length ≤ 1099511627776) :
    Calls Try.prog 15 #[.pointer (some ⟨p1, 0, none⟩)] w fun e w' => ∃ x ∈ ms1, e = .returned (.tuple #[.int .i64 x.key, .int .i64 x.rank, .bool true]) ∧ (∀ y ∈ ms1, le (fun x => x) x y) ∧ TwoI B w0 p1 (without x.key ms1) n1 p2 ms2 n2 w' := by
  obtain ⟨F1, h1, ht⟩ := h.turn
  exact (h1.pop h0 hn).mono fun e w' ⟨x, hx, he, hle, F', g1, g2, g3⟩ => ⟨x, hx, he, hle, ht _ _ _ _ g1 g2 g3⟩

theorem popNoneT [Inhabited EntI] {B : Nat} {w0 w : World} {p1 n1 p2 n2 : Nat} {ms2 : List EntI} (h : TwoI B w0 p1 [] n1 p2 ms2 n2 w) :
    Calls Try.prog 15 #[.pointer (some ⟨p1, 0, none⟩)] w fun e w' => e = .returned (.tuple #[.int .i64 0, .int .i64 0, .bool false]) ∧ w' = w := by
  obtain ⟨F1, h1, -⟩ := h.turn
  exact h1.popNone

theorem lowerT [Inhabited EntI] {B : Nat} {w0 w : World} {p1 n1 p2 n2 : Nat} {ms1 ms2 : List EntI} (h : TwoI B w0 p1 ms1 n1 p2 ms2 n2 w) {x : EntI} (hx : x ∈ ms1) (r : Int) (hn : ms1.length ≤ 1099511627776) :
    Calls Try.prog 17 #[.pointer (some ⟨p1, 0, none⟩), .int .i64 x.key, .int .i64 r] w fun e w' => e = .returned (.bool (decide (r < x.rank))) ∧ TwoI B w0 p1 (if r < x.rank then lowered x.key r ms1 else ms1) n1 p2 ms2 n2 w' := by
  obtain ⟨F1, h1, ht⟩ := h.turn
  exact (h1.lower hx r hn).mono fun e w' ⟨he, g1, g2⟩ => ⟨he, ht _ _ _ _ g1 g2 (fun _ => .inl)⟩

theorem newT [Inhabited EntI] (g : Nat) (B : Nat) (w0 w : World) (p : Nat) (ms : List EntI) (n : Nat) (h : LiveI B w0 p ms n w) (hl : Less (.func (.func g) #[] #[]) (fun x => x)) :
    Calls Try.prog 8 #[.func (.func g) #[] #[]] w fun e w' => ∃ p2, e = .returned (.pointer (some ⟨p2, 0, none⟩)) ∧ TwoI B w0 p ms n p2 [] 0 w' := by
  obtain ⟨F, ho, hF⟩ := h.on
  refine (newOnI g w hl).mono ?_
  rintro e w' ⟨he, hb, F2, g1, g2⟩
  exact ⟨_, he, h.below.trans (hb.mono h.room), Nat.le_trans h.room hb.size, F, F2, ho.kept (fun k hk => hb.block k (ho.lt hk)), g1, fun j a b => by have := ho.lt a; have := g2 j b; omega, hF, fun j hj => Nat.le_trans h.room (g2 j hj)⟩

theorem TwoI.once [Inhabited EntI] {B : Nat} {w0 w : World} {p1 n1 p2 n2 : Nat} {ms1 ms2 : List EntI} (h : TwoI B w0 p1 ms1 n1 p2 ms2 n2 w) : KeysOnce ms1 ∧ ms1.Pairwise (fun a b => a.turn < b.turn) := by
  obtain ⟨F1, h1, -⟩ := h.turn
  exact ⟨h1.once, h1.turns⟩

theorem turn_inj {α ρ : Type} : ∀ {ms : List (Ent α ρ)} {x y : Ent α ρ}, ms.Pairwise (fun a b => a.turn < b.turn) → x ∈ ms → y ∈ ms → x.turn = y.turn → x = y
  | [], _, _, _, h, _, _ => by simp at h
  | a :: ms, x, y, hp, hx, hy, e => by
    obtain ⟨h1, h2⟩ := List.pairwise_cons.1 hp
    rcases List.mem_cons.1 hx with rfl | hx2
    · rcases List.mem_cons.1 hy with rfl | hy2
      · rfl
      · have := h1 y hy2; omega
    · rcases List.mem_cons.1 hy with rfl | hy2
      · have := h1 x hx2; omega
      · exact turn_inj h2 hx2 hy2 e

theorem first_one [Inhabited EntI] {ms : List EntI} (hp : ms.Pairwise (fun a b => a.turn < b.turn)) {x y : EntI} (hx : x ∈ ms) (hy : y ∈ ms) (h1 : ∀ z ∈ ms, le (fun x => x) x z) (h2 : ∀ z ∈ ms, le (fun x => x) y z) : x = y := by
  have a := h1 y hy
  have b := h2 x hx
  unfold le at a b
  exact turn_inj hp hx hy (by omega)

/-- What the list of entries becomes, rank by rank. -/
def lowz (z y : Nat → Int) (m : Nat) (i : Nat) : Int := if i < m then min (z i) (y i) else z i
def zz (z y : Nat → Int) (m c : Nat) (i : Nat) : Int := if i < c then z i else lowz z y m i

theorem ents_congr {z z' : Nat → Int} {N : Nat} (h : ∀ i, i < N → z i = z' i) : ents z N = ents z' N := by
  unfold ents
  apply List.map_congr_left
  intro i hi
  simp only [ent, h i (List.mem_range.1 hi)]

theorem lowered_ents (z z' : Nat → Int) (N k : Nat) (r : Int) (hk : z' k = r) (h : ∀ i, i ≠ k → z' i = z i) : lowered (k : Int) r (ents z N) = ents z' N := by
  unfold lowered ents
  rw [List.map_map]
  apply List.map_congr_left
  intro i _
  show (if (ent z i).key = (k : Int) then ({ ent z i with rank := r } : EntI) else ent z i) = ent z' i
  by_cases e : (ent z i).key = (k : Int)
  · rw [if_pos e]
    have : i = k := by have : (i : Int) = (k : Int) := e; omega
    subst this
    simp only [ent, hk]
  · rw [if_neg e]
    simp only [ent, h i (fun e2 => e (by rw [e2]; rfl))]

theorem zz_low {z y : Nat → Int} {m c N : Nat} (hc : c < N) (hm : c < m) : (if y c < z c then lowered (c : Int) (y c) (ents (zz z y m (c + 1)) N) else ents (zz z y m (c + 1)) N) = ents (zz z y m c) N := by
  have hne : ∀ i, i ≠ c → zz z y m c i = zz z y m (c + 1) i := fun i hi => by
    unfold zz
    by_cases h : i < c
    · rw [if_pos h, if_pos (by omega)]
    · rw [if_neg h, if_neg (by omega)]
  have h1 : zz z y m c c = min (z c) (y c) := by unfold zz lowz; rw [if_neg (by omega), if_pos hm]
  split
  · rename_i hlt
    exact lowered_ents _ _ _ _ _ (by rw [h1]; omega) hne
  · rename_i hlt
    refine ents_congr fun i _ => ?_
    by_cases e : i = c
    · subst e
      rw [h1]; unfold zz; rw [if_pos (by omega)]; omega
    · exact (hne i e).symm

theorem zz_keep {z y : Nat → Int} {m c N : Nat} (hm : ¬ c < m) : ents (zz z y m (c + 1)) N = ents (zz z y m c) N := by
  refine ents_congr fun i _ => ?_
  unfold zz lowz
  by_cases h : i < c
  · rw [if_pos h, if_pos (by omega)]
  · rw [if_neg h]
    split
    · have : i = c := by omega
      subst this
      rw [if_neg hm]
    · rfl
theorem zz_all (z y : Nat → Int) (m N : Nat) : ents (zz z y m N) N = ents z N := ents_congr fun i hi => by unfold zz; rw [if_pos hi]
theorem zz_none (z y : Nat → Int) (m N : Nat) : ents (zz z y m 0) N = ents (lowz z y m) N := ents_congr fun i _ => by unfold zz; rw [if_neg (by omega)]
end Go.Proofs.Ytfhpabcjbjmcmaa
