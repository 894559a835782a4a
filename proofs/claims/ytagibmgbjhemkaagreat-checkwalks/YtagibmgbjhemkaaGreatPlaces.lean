/- Places of five cells: an edge, and whether it is taken. -/
import Derived.Test.YtagibmgbjhemkaaGreatApiI
import Derived.Test.YtagibmgbjhemkaaGreatAtI
namespace Go.Proofs.YtagibmgbjhemkaaGreat

section
open Go.RowKit Go.Maps
def OnI [Inhabited EntI] (w : World) (p : Nat) (F : Nat → Prop) (ms : List EntI) (n : Nat) : Prop := ∃ m lv v es, HAtI w p m lv v es n ∧ Less lv (fun x => x) ∧ Is (fun x => x) es ms n ∧ ∀ k, F k ↔ Foot p m v k
theorem OnI.lt [Inhabited EntI] {w : World} {p : Nat} {F : Nat → Prop} {ms : List EntI} {n : Nat} (h : OnI w p F ms n) {k : Nat} (hk : F k) : k < w.heap.size := by
  obtain ⟨m, lv, v, es, h1, -, -, h4⟩ := h; exact h1.lt ((h4 k).1 hk)
theorem OnI.kept [Inhabited EntI] {w w' : World} {p : Nat} {F : Nat → Prop} {ms : List EntI} {n : Nat} (h : OnI w p F ms n) (hk : ∀ k, F k → w'.heap[k]? = w.heap[k]?) : OnI w' p F ms n := by
  obtain ⟨m, lv, v, es, h1, h2, h3, h4⟩ := h; exact ⟨m, lv, v, es, h1.kept (fun k hf => hk k ((h4 k).2 hf)), h2, h3, h4⟩
theorem OnI.once [Inhabited EntI] {w : World} {p : Nat} {F : Nat → Prop} {ms : List EntI} {n : Nat} (h : OnI w p F ms n) : KeysOnce ms := by
  obtain ⟨m, lv, v, es, h1, -, h3, -⟩ := h; obtain ⟨D, -, hM⟩ := h1.map; exact keysOnce_perm h3.perm hM.once
theorem OnI.turns [Inhabited EntI] {w : World} {p : Nat} {F : Nat → Prop} {ms : List EntI} {n : Nat} (h : OnI w p F ms n) : ms.Pairwise (fun a b => a.turn < b.turn) := by
  obtain ⟨m, lv, v, es, -, -, h3, -⟩ := h; exact h3.turns
theorem OnI.push [Inhabited EntI] {w : World} {p : Nat} {F : Nat → Prop} {ms : List EntI} {n : Nat} (h : OnI w p F ms n) (k : Int) (r : Int) (hk : KeyOkI k) (hnin : ∀ x ∈ ms, x.key ≠ k) (hn : ms.length < 1099511627776) (hnn : n < 1099511627776) :
    Calls Tryz.prog 106 #[.pointer (some ⟨p, 0, none⟩), .int .i64 (k), .int .i64 r] w fun e w' => e = .returned (.bool true) ∧ ∃ F', OnI w' p F' (ms ++ [⟨k, r, n⟩]) (n + 1) ∧ Turned F w w' ∧ ∀ j, F' j → F j ∨ w.heap.size ≤ j := by
  obtain ⟨m, lv, v, es, h1, h2, h3, h4⟩ := h; refine (pushNewI k r w h1 h2 hk (fun x hx => hnin x (h3.perm.mem_iff.1 hx)) (by rw [h3.perm.length_eq]; exact hn) hnn).mono ?_
  rintro e w' ⟨he, hh⟩
  obtain ⟨v', es', g1, g2, g3, g4, g5⟩ := hh.out; refine ⟨he, Foot p m v', ⟨m, lv, v', es', g2, h2, h3.push g1 (g5 h3.ord), fun j => Iff.rfl⟩, g3.mono (fun j _ hf => (h4 j).2 hf), fun j hf => ?_⟩
  rcases hf with hf | hf | hf
  · exact .inl ((h4 j).2 (.inl hf))
  · exact .inl ((h4 j).2 (.inr (.inl hf)))
  · exact (g4 j hf).imp (fun e => (h4 j).2 (.inr (.inr e))) id
theorem newOnI [Inhabited EntI] (g : Nat) (w : World) (hl : Less (.func (.func g) #[] #[]) (fun x => x)) :
    Calls Tryz.prog 96 #[.func (.func g) #[] #[]] w fun e w' => e = .returned (.pointer (some ⟨w.heap.size + 1, 0, none⟩)) ∧ Below w.heap.size w w' ∧ ∃ F, OnI w' (w.heap.size + 1) F [] 0 ∧ ∀ j, F j → w.heap.size ≤ j := by
  refine (newI g #[] w).mono ?_
  rintro e w' ⟨he, hh⟩
  obtain ⟨g1, g2⟩ := hh.out; refine ⟨he, g2, Foot (w.heap.size + 1) w.heap.size (.slice none 0 0), ⟨_, _, _, _, g1, hl, is_nil _, fun j => Iff.rfl⟩, fun j hf => ?_⟩
  rcases hf with hf | hf | hf
  · omega
  · omega
  · simp [Value.ownBlock] at hf
structure LiveI [Inhabited EntI] (B : Nat) (w0 : World) (p : Nat) (ms : List EntI) (n : Nat) (w : World) : Prop where
  below : Below B w0 w
  room : B ≤ w.heap.size
  on : ∃ F, OnI w p F ms n ∧ ∀ j, F j → B ≤ j
theorem LiveI.turned [Inhabited EntI] {B : Nat} {w0 w w' : World} {p n n' : Nat} {ms ms' : List EntI} {F F' : Nat → Prop} (h : LiveI B w0 p ms n w) (hF : ∀ j, F j → B ≤ j) (ho : OnI w' p F' ms' n') (ht : Turned F w w') (hs : ∀ j, F' j → F j ∨ w.heap.size ≤ j) : LiveI B w0 p ms' n' w' :=
  ⟨h.below.trans (ht.below h.room hF), Nat.le_trans h.room ht.size, F', ho, fun j hj => (hs j hj).elim (hF j) (fun e => Nat.le_trans h.room e)⟩
theorem LiveI.step [Inhabited EntI] {B : Nat} {w0 w w' : World} {p n : Nat} {ms : List EntI} (h : LiveI B w0 p ms n w) (hb : Below w.heap.size w w') : LiveI B w0 p ms n w' := by
  obtain ⟨F, ho, hF⟩ := h.on; exact ⟨h.below.trans (hb.mono h.room), Nat.le_trans h.room hb.size, F, ho.kept (fun k hk => hb.block k (ho.lt hk)), hF⟩
end

section
open Go.RowKit Go.Maps
set_option maxHeartbeats 400000 in
set_option maxRecDepth 100000 in
theorem dropInI [Inhabited EntI] {p m : Nat} {lv v : Value} {es : List EntI} {n : Nat} {gg : Int → Int} (i : Nat) (w : World) (h : HAtI w p m lv v es n) (hl : Less lv gg) (hi : i < es.length) (hn : es.length ≤ 1099511627776) :
    Calls Tryz.prog 121 #[.pointer (some ⟨p, 0, none⟩), .int .i64 (at_ es i).key] w fun e w' => e = .returned (.bool true) ∧ Hid (∃ v' es', es'.Perm (without (at_ es i).key es) ∧ HAtI w' p m lv v' es' n ∧ Turned (Foot p m v) w w' ∧ v'.ownBlock = v.ownBlock ∧ (HeapOrd (le gg) es → HeapOrd (le gg) es')) := by
  obtain ⟨D, hD, hM⟩ := h.map; have hk := h.keys i hi; have hhas : Maps.has D (klI (at_ es i).key) = true := (hM.at_ i hi).1; have HLOOK : Hid (∀ c : Int, D.atKey (klI (at_ es i).key) (.lit (.int .i64 0)) = .lit (.int .i64 c) → c = (i : Int)) := fun c hc => lookI hM hi hc
  have c2 := h.cells.2.2.1; have CR := hide (removeI i w h hl hi hn); have HD := hide hD; generalize (at_ es i).key = kk at *; clear h hM hD hl hi
  go_enter Tryz.func121, Tryz.ntmps121
  go_wp2_with (at_lookup; refine wpList_lookup_own_ok_int _ rfl _ _ 180 rfl 3 3 .i64 lawI Tryz.underlying180 Tryz.underlying3 (zeroI _) m es.length D rfl (unhide HD) _ _ rfl (keyI hk) ?_; intro cc hat hwc; rw [hhas, unhide HLOOK cc hat])
  refine (unhide CR).mono ?_
  rintro e w2 ⟨rfl, h2⟩
  clear CR
  go_wp2_with fail
  go_ret
  exact ⟨rfl, unhide h2⟩
theorem OnI.drop [Inhabited EntI] {w : World} {p : Nat} {F : Nat → Prop} {ms : List EntI} {n : Nat} (h : OnI w p F ms n) {x : EntI} (hx : x ∈ ms) (hn : ms.length ≤ 1099511627776) :
    Calls Tryz.prog 121 #[.pointer (some ⟨p, 0, none⟩), .int .i64 x.key] w fun e w' => e = .returned (.bool true) ∧ ∃ F', OnI w' p F' (without x.key ms) n ∧ Turned F w w' ∧ ∀ j, F' j → F j ∨ w.heap.size ≤ j := by
  obtain ⟨m, lv, v, es, h1, h2, h3, h4⟩ := h; obtain ⟨i, hi, rfl⟩ := mem_at (h3.perm.mem_iff.2 hx); refine (dropInI i w h1 h2 hi (by rw [h3.perm.length_eq]; exact hn)).mono ?_
  rintro e w' ⟨he, hh⟩
  obtain ⟨v', es', g1, g2, g3, g4, g5⟩ := hh.out; refine ⟨he, Foot p m v', ⟨m, lv, v', es', g2, h2, h3.without g1 (g5 h3.ord), fun j => Iff.rfl⟩, g3.mono (fun j _ hf => (h4 j).2 hf), fun j hf => .inl ((h4 j).2 ?_)⟩
  rcases hf with hf | hf | hf
  · exact .inl hf
  · exact .inr (.inl hf)
  · exact .inr (.inr (by rw [← g4]; exact hf))
theorem OnI.peekNone [Inhabited EntI] {w : World} {p : Nat} {F : Nat → Prop} {n : Nat} (h : OnI w p F [] n) :
    Calls Tryz.prog 114 #[.pointer (some ⟨p, 0, none⟩)] w fun e w' => e = .returned (.tuple #[.int .i64 0, .int .i64 0, .bool false]) ∧ w' = w := by
  obtain ⟨m, lv, v, es, h1, -, h3, -⟩ := h; obtain rfl : es = [] := h3.perm.eq_nil; exact peekNoneI w h1
theorem OnI.peek [Inhabited EntI] {w : World} {p : Nat} {F : Nat → Prop} {ms : List EntI} {n : Nat} (h : OnI w p F ms n) (h0 : 0 < ms.length) :
    Calls Tryz.prog 114 #[.pointer (some ⟨p, 0, none⟩)] w fun e w' => ∃ x ∈ ms, e = .returned (.tuple #[.int .i64 x.key, .int .i64 x.rank, .bool true]) ∧ (∀ y ∈ ms, le (fun x => x) x y) ∧ ∃ q, w' = w.drewN q := by
  obtain ⟨m, lv, v, es, h1, -, h3, -⟩ := h; have hl : 0 < es.length := by rw [h3.perm.length_eq]; exact h0
  obtain ⟨f1, f2⟩ := h3.first hl; exact (peekSomeI w h1 hl).mono fun e w' ⟨he, hq⟩ => ⟨_, f1, he, f2, hq⟩
theorem LiveI.draw [Inhabited EntI] {B : Nat} {w0 w : World} {p n : Nat} {ms : List EntI} (h : LiveI B w0 p ms n w) (q : Nat) : LiveI B w0 p ms n (w.drewN q) := h.step (below_drewN (Below.refl _ _) q)
end

section
def tk {α : Type} (ps : List (α × Bool)) : Nat := ps.countP (fun p => p.2)
theorem tk_set {α : Type} : ∀ (ps : List (α × Bool)) (i : Nat) (a x : α) (b c : Bool), ps[i]? = some (a, b) → tk (ps.set i (x, c)) + b.toNat = tk ps + c.toNat
  | [], i, a, x, b, c, h => by simp at h
  | p :: ps, 0, a, x, b, c, h => by
    simp at h; subst h; simp only [List.set_cons_zero, tk, List.countP_cons]
    cases b <;> cases c <;> simp
  | p :: ps, i + 1, a, x, b, c, h => by
    have := tk_set ps i a x b c (by simpa using h)
    simp only [List.set_cons_succ, tk, List.countP_cons] at this ⊢; omega
theorem tk_snoc {α : Type} (ps : List (α × Bool)) (x : α) : tk (ps ++ [(x, false)]) = tk ps := by simp [tk]
structure Frees {α : Type} (ps : List (α × Bool)) (ms : List (Ent Int Int)) : Prop where
  rank : ∀ x ∈ ms, x.rank = x.key
  key : ∀ x ∈ ms, ∃ (i : Nat) (a : α), x.key = (i : Int) + 1 ∧ ps[i]? = some (a, false)
  all : ∀ (i : Nat) (a : α), ps[i]? = some (a, false) → ∃ x ∈ ms, x.key = (i : Int) + 1
  cnt : ms.length + tk ps = ps.length
theorem frees_nil {α : Type} : Frees ([] : List (α × Bool)) [] := ⟨by simp, by simp, by simp, rfl⟩
theorem lt_of_at {α : Type} {l : List α} {i : Nat} {x : α} (h : l[i]? = some x) : i < l.length := (List.getElem?_eq_some_iff.1 h).1
theorem at_of_lt {α : Type} {ps : List (α × Bool)} {i : Nat} (h : i < ps.length) : ∃ a b, ps[i]? = some (a, b) := ⟨ps[i].1, ps[i].2, by rw [List.getElem?_eq_getElem h]⟩
theorem frees_grow {α : Type} {ps : List (α × Bool)} {ms : List (Ent Int Int)} (h : Frees ps ms) (x : α) (n : Nat) : Frees (ps ++ [(x, false)]) (ms ++ [⟨(ps.length : Int) + 1, (ps.length : Int) + 1, n⟩]) := by
  refine ⟨fun y hy => ?_, fun y hy => ?_, fun i a hi => ?_, ?_⟩
  · rcases List.mem_append.1 hy with hy | hy
    · exact h.rank y hy
    · simp at hy; subst hy; rfl
  · rcases List.mem_append.1 hy with hy | hy
    · obtain ⟨i, a, e, g⟩ := h.key y hy; exact ⟨i, a, e, by rw [List.getElem?_append_left (lt_of_at g)]; exact g⟩
    · simp at hy; subst hy; exact ⟨ps.length, x, rfl, by simp⟩
  · rcases Nat.lt_or_ge i ps.length with hl | hl
    · rw [List.getElem?_append_left hl] at hi; obtain ⟨y, hy, e⟩ := h.all i a hi; exact ⟨y, List.mem_append_left _ hy, e⟩
    · have h2 := lt_of_at hi; simp at h2; obtain rfl : i = ps.length := by omega
      exact ⟨_, List.mem_append_right _ (List.mem_singleton.2 rfl), rfl⟩
  · rw [tk_snoc]; have := h.cnt; simp; omega
theorem length_without {α ρ : Type} [DecidableEq α] : ∀ {ms : List (Ent α ρ)} {x : Ent α ρ}, KeysOnce ms → x ∈ ms → (without x.key ms).length + 1 = ms.length
  | [], x, _, h => by simp at h
  | y :: ms, x, hk, h => by
    have hk2 : KeysOnce ms := (List.pairwise_cons.1 hk).2; have hk1 := (List.pairwise_cons.1 hk).1
    by_cases e : y.key = x.key
    · have hw : without x.key (y :: ms) = ms := by
        unfold without; rw [List.filter_cons, if_neg (by simp [e]), List.filter_eq_self.2 (fun z hz => by
          have := hk1 z hz; rw [e] at this; exact decide_eq_true (Ne.symm this))]
      rw [hw]; rfl
    · have hx : x ∈ ms := by
        rcases List.mem_cons.1 h with rfl | h
        · exact absurd rfl e
        · exact h
      have := length_without hk2 hx; unfold without at this ⊢; rw [List.filter_cons, if_pos (by simp [e]), List.length_cons, List.length_cons]
      omega
theorem frees_take {α : Type} {ps : List (α × Bool)} {ms : List (Ent Int Int)} (h : Frees ps ms) (hk : KeysOnce ms) {i : Nat} {a : α} (hi : ps[i]? = some (a, false)) (x : α) : Frees (ps.set i (x, true)) (without ((i : Int) + 1) ms) := by
  refine ⟨fun y hy => h.rank y (mem_without.1 hy).1, fun y hy => ?_, fun j b hj => ?_, ?_⟩
  · obtain ⟨h1, h2⟩ := mem_without.1 hy; obtain ⟨j, b, e, g⟩ := h.key y h1; exact ⟨j, b, e, by rw [List.getElem?_set_ne (by omega)]; exact g⟩
  · by_cases hij : i = j
    · subst hij; rw [List.getElem?_set_self (lt_of_at hi)] at hj; simp at hj
    · rw [List.getElem?_set_ne hij] at hj; obtain ⟨y, hy, e⟩ := h.all j b hj; exact ⟨y, mem_without.2 ⟨hy, by omega⟩, e⟩
  · obtain ⟨y, hy, e⟩ := h.all i a hi; have h1 := length_without hk hy; rw [e] at h1; have h2 := tk_set ps i a x false true hi; have h3 := h.cnt; simp at h2 ⊢; omega
theorem frees_free {α : Type} {ps : List (α × Bool)} {ms : List (Ent Int Int)} (h : Frees ps ms) {i : Nat} {a : α} (hi : ps[i]? = some (a, true)) (x : α) (n : Nat) : Frees (ps.set i (x, false)) (ms ++ [⟨(i : Int) + 1, (i : Int) + 1, n⟩]) := by
  refine ⟨fun y hy => ?_, fun y hy => ?_, fun j b hj => ?_, ?_⟩
  · rcases List.mem_append.1 hy with hy | hy
    · exact h.rank y hy
    · simp at hy; subst hy; rfl
  · rcases List.mem_append.1 hy with hy | hy
    · obtain ⟨j, b, e, g⟩ := h.key y hy; refine ⟨j, b, e, ?_⟩
      by_cases hij : i = j
      · subst hij; rw [hi] at g; simp at g
      · rw [List.getElem?_set_ne hij]; exact g
    · simp at hy; subst hy; exact ⟨i, x, rfl, List.getElem?_set_self (lt_of_at hi)⟩
  · by_cases hij : i = j
    · subst hij; exact ⟨_, List.mem_append_right _ (List.mem_singleton.2 rfl), rfl⟩
    · rw [List.getElem?_set_ne hij] at hj; obtain ⟨y, hy, e⟩ := h.all j b hj; exact ⟨y, List.mem_append_left _ hy, e⟩
  · have h2 := tk_set ps i a x true false hi; have h3 := h.cnt; simp at h2 ⊢; omega
theorem frees_set {α : Type} {ps : List (α × Bool)} {ms : List (Ent Int Int)} (h : Frees ps ms) {i : Nat} {a : α} (hi : ps[i]? = some (a, true)) (x : α) : Frees (ps.set i (x, true)) ms := by
  refine ⟨h.rank, fun y hy => ?_, fun j b hj => ?_, ?_⟩
  · obtain ⟨j, b, e, g⟩ := h.key y hy; refine ⟨j, b, e, ?_⟩
    by_cases hij : i = j
    · subst hij; rw [hi] at g; simp at g
    · rw [List.getElem?_set_ne hij]; exact g
  · by_cases hij : i = j
    · subst hij; rw [List.getElem?_set_self (lt_of_at hi)] at hj; simp at hj
    · rw [List.getElem?_set_ne hij] at hj; exact h.all j b hj
  · have h2 := tk_set ps i a x true true hi; have h3 := h.cnt; simp at h2 ⊢; omega
def Full {α : Type} (ps : List (α × Bool)) (n : Nat) : Prop := ∀ j, j < n → ∃ b, ps[j]? = some (b, true)
theorem frees_first {α : Type} {ps : List (α × Bool)} {ms : List (Ent Int Int)} (h : Frees ps ms) {x : Ent Int Int} (hx : x ∈ ms) (hle : ∀ y ∈ ms, le (fun x => x) x y) : ∃ (i : Nat) (a : α), x.key = (i : Int) + 1 ∧ ps[i]? = some (a, false) ∧ Full ps i := by
  obtain ⟨i, a, e, g⟩ := h.key x hx; refine ⟨i, a, e, g, fun j hj => ?_⟩
  obtain ⟨b, c, hb⟩ := at_of_lt (Nat.lt_trans hj (lt_of_at g))
  cases c with
  | true => exact ⟨b, hb⟩
  | false =>
    obtain ⟨y, hy, e2⟩ := h.all j b hb; have h1 := hle y hy; have h2 := h.rank x hx; have h3 := h.rank y hy; simp only [le] at h1; omega
theorem frees_none {α : Type} {ps : List (α × Bool)} (h : Frees ps []) : Full ps ps.length := fun j hj => by
  obtain ⟨b, c, hb⟩ := at_of_lt hj
  cases c with
  | true => exact ⟨b, hb⟩
  | false =>
    obtain ⟨y, hy, -⟩ := h.all j b hb; simp at hy
def FreeIs {α : Type} (ps : List (α × Bool)) (most r : Int) : Prop :=
  (∃ (i : Nat) (a : α), r = (i : Int) + 1 ∧ ps[i]? = some (a, false) ∧ Full ps i) ∨ (Full ps ps.length ∧ ((ps.length : Int) = most ∧ r = 0 ∨ (ps.length : Int) ≠ most ∧ r = (ps.length : Int) + 1))
end

section
open Go.RowKit Go.Maps
abbrev EdgeV : Type := Int × Int × Int × Int
def encE (ps : List (EdgeV × Bool)) : List Value := ps.flatMap fun p => [.int .i64 p.1.1, .int .i64 p.1.2.1, .int .i64 p.1.2.2.1, .int .u32 p.1.2.2.2, .bool p.2]
theorem encE_length (ps : List (EdgeV × Bool)) : (encE ps).length = ps.length * 5 := by
  induction ps with
  | nil => rfl
  | cons r rs ih => simp [encE] at ih ⊢; omega
theorem encE_append (a b : List (EdgeV × Bool)) : encE (a ++ b) = encE a ++ encE b := by simp [encE]
theorem encE_cons (p : EdgeV × Bool) (b : List (EdgeV × Bool)) : encE (p :: b) = .int .i64 p.1.1 :: .int .i64 p.1.2.1 :: .int .i64 p.1.2.2.1 :: .int .u32 p.1.2.2.2 :: .bool p.2 :: encE b := by simp [encE]
theorem encE_at : ∀ (ps : List (EdgeV × Bool)) (i : Nat) (a : EdgeV) (x : Bool), ps[i]? = some (a, x) → (encE ps)[i * 5]? = some (.int .i64 a.1) ∧ (encE ps)[i * 5 + 1]? = some (.int .i64 a.2.1) ∧ (encE ps)[i * 5 + 2]? = some (.int .i64 a.2.2.1) ∧ (encE ps)[i * 5 + 3]? = some (.int .u32 a.2.2.2) ∧ (encE ps)[i * 5 + 4]? = some (.bool x)
  | [], i, a, x, h => by simp at h
  | p :: ps, 0, a, x, h => by simp at h; subst h; simp [encE]
  | p :: ps, i + 1, a, x, h => by
    have := encE_at ps i a x (by simpa using h)
    rw [show (i + 1) * 5 = i * 5 + 1 + 1 + 1 + 1 + 1 by omega, encE_cons, show i * 5 + 1 + 1 + 1 + 1 + 1 + 1 = i * 5 + 1 + 1 + 1 + 1 + 1 + 1 from rfl]
    refine ⟨?_, ?_, ?_, ?_, ?_⟩
    · simp only [List.getElem?_cons_succ]; exact this.1
    · rw [show i * 5 + 1 + 1 + 1 + 1 + 1 + 1 = (i * 5 + 1) + 1 + 1 + 1 + 1 + 1 by omega]; simp only [List.getElem?_cons_succ]; exact this.2.1
    · rw [show i * 5 + 1 + 1 + 1 + 1 + 1 + 2 = (i * 5 + 2) + 1 + 1 + 1 + 1 + 1 by omega]; simp only [List.getElem?_cons_succ]; exact this.2.2.1
    · rw [show i * 5 + 1 + 1 + 1 + 1 + 1 + 3 = (i * 5 + 3) + 1 + 1 + 1 + 1 + 1 by omega]; simp only [List.getElem?_cons_succ]; exact this.2.2.2.1
    · rw [show i * 5 + 1 + 1 + 1 + 1 + 1 + 4 = (i * 5 + 4) + 1 + 1 + 1 + 1 + 1 by omega]; simp only [List.getElem?_cons_succ]; exact this.2.2.2.2
def putE (l : List Value) (i : Nat) (a : EdgeV) (x : Bool) : List Value := ((((l.set (i * 5) (.int .i64 a.1)).set (i * 5 + 1) (.int .i64 a.2.1)).set (i * 5 + 2) (.int .i64 a.2.2.1)).set (i * 5 + 3) (.int .u32 a.2.2.2)).set (i * 5 + 4) (.bool x)
theorem encE_set : ∀ (ps : List (EdgeV × Bool)) (i : Nat) (a : EdgeV) (x : Bool), encE (ps.set i (a, x)) = putE (encE ps) i a x
  | [], i, a, x => by simp [encE, putE]
  | p :: ps, 0, a, x => by simp [encE, putE]
  | p :: ps, i + 1, a, x => by
    rw [List.set_cons_succ, encE_cons, encE_set ps i a x, encE_cons, putE, putE, show (i + 1) * 5 = i * 5 + 1 + 1 + 1 + 1 + 1 by omega, show i * 5 + 1 + 1 + 1 + 1 + 1 + 1 = (i * 5 + 1) + 1 + 1 + 1 + 1 + 1 by omega, show i * 5 + 1 + 1 + 1 + 1 + 1 + 2 = (i * 5 + 2) + 1 + 1 + 1 + 1 + 1 by omega, show i * 5 + 1 + 1 + 1 + 1 + 1 + 3 = (i * 5 + 3) + 1 + 1 + 1 + 1 + 1 by omega, show i * 5 + 1 + 1 + 1 + 1 + 1 + 4 = (i * 5 + 4) + 1 + 1 + 1 + 1 + 1 by omega]
    simp only [List.set_cons_succ]
theorem encE_one (ps : List (EdgeV × Bool)) : ∀ u ∈ encE ps, u.oneCell' = true := by
  intro u hu; simp only [encE, List.mem_flatMap, List.mem_cons, List.not_mem_nil, or_false] at hu; obtain ⟨r, -, rfl | rfl | rfl | rfl | rfl⟩ := hu <;> rfl
theorem row_kept5 {w w' : World} {e : TypeId} {v : Value} {L : Nat} {xs : List Value} (h : w.ownsRow 0 e 5 v L xs) (hk : ∀ k, v.ownBlock = some k → w'.heap[k]? = w.heap[k]?) : w'.ownsRow 0 e 5 v L xs := by
  refine ⟨h.1, ?_⟩; rcases h.2 with hn | ⟨g, cap, cur, rfl, hb, hgg, rest⟩
  · exact .inl hn
  · exact .inr ⟨g, cap, cur, rfl, hb, (hk g rfl).trans hgg, rest⟩
def Feet (t : Nat) (v : Value) (G : Nat → Prop) (k : Nat) : Prop := k = t ∨ v.ownBlock = some k ∨ G k
theorem less_of {g : Nat} (hf : ∀ args w, (callFunc g args).run Tryz.prog w = .ok (.enter g args) w) (h : ∀ (x y : Int) (w : World), Calls Tryz.prog g #[.int .i64 x, .int .i64 y] w fun e w' => e = .returned (.bool (decide (x < y))) ∧ w' = w) : Less (.func (.func g) #[] #[]) (fun x => x) :=
  ⟨g, #[], rfl, hf, h⟩
set_option maxHeartbeats 400000 in
theorem less23 : Less (.func (.func 97) #[] #[]) (fun x => x) := by
  refine less_of (enters_of Tryz.func97 (by kernel_rfl) rfl) (fun x y w => ?_)
  go_enter Tryz.func97, Tryz.ntmps97
  go_wp2
  go_ret
  exact ⟨rfl, rfl⟩
def plen (w : World) (t : Nat) : Nat := match w.cell? ⟨t, 1, none⟩ with
  | some (.slice _ n _) => n
  | _ => 0
theorem plen_of {w : World} {t n c : Nat} {a : Option Addr} (h : w.cell? ⟨t, 1, none⟩ = some (.slice a n c)) : plen w t = n := by unfold plen; rw [h]
theorem key_fit (i : Nat) (h : (i : Int) ≤ 65536) : KeyOkI ((i : Int) + 1) := WalkArith.wf_i64 (by omega)
theorem frees_not {α : Type} {ps : List (α × Bool)} {ms : List EntI} (h : Frees ps ms) {i : Nat} (hi : ∀ a, ps[i]? ≠ some (a, false)) : ∀ x ∈ ms, x.key ≠ (i : Int) + 1 := fun x hx e => by
  obtain ⟨j, a, e2, g⟩ := h.key x hx; obtain rfl : j = i := by omega
  exact hi a g
end

end Go.Proofs.YtagibmgbjhemkaaGreat
