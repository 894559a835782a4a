/- Parts and rows side by side. -/
import Derived.Test.YtfhidghjmookhaaLiveN
import Derived.Test.YtfhidghjmookhaaBeside
namespace Go.Proofs.Ytfhidghjmookhaa
open Go.RowKit Go.Maps

structure SideN (w0 : World) (p : Nat) (S : List (Part Int)) (rs : List Rw) (w : World) : Prop where
  below : Below w0.heap.size w0 w
  rows : ∀ r ∈ rs, r.At w0.heap.size w
  apart : rs.Pairwise RApart
  on : ∃ m, PAtN w p m S ∧ (∀ k, FootN p m S k → w0.heap.size ≤ k) ∧ ∀ r ∈ rs, ∀ b, r.v.ownBlock = some b → ¬ FootN p m S b

section
variable {w0 w w' : World} {p : Nat} {S : List (Part Int)} {rs : List Rw}

theorem LiveN.side (h : LiveN w0.heap.size w0 p S w) : SideN w0 p S [] w := by
  obtain ⟨m, h1, h2⟩ := h.on
  exact ⟨h.below, by simp, .nil, m, h1, h2, by simp⟩
theorem SideN.live (h : SideN w0 p S rs w) : LiveN w0.heap.size w0 p S w := by
  obtain ⟨m, h1, h2, -⟩ := h.on
  exact ⟨h.below, h.below.size, m, h1, h2⟩
theorem SideN.fam (h : SideN w0 p S rs w) : Fam ltN okN S := h.live.fam

theorem SideN.step (h : SideN w0 p S rs w) (hb : Below w.heap.size w w') : SideN w0 p S rs w' := by
  obtain ⟨m, h1, h2, h3⟩ := h.on
  exact ⟨h.below.trans (hb.mono h.below.size), fun r hr => (h.rows r hr).kept (fun k hk => hb.block k ((h.rows r hr).lt k hk).2), h.apart, m, h1.below hb, h2, h3⟩

theorem SideN.perm {rs' : List Rw} (h : SideN w0 p S rs w) (hp : rs.Perm rs') : SideN w0 p S rs' w := by
  obtain ⟨m, h1, h2, h3⟩ := h.on
  exact ⟨h.below, fun r hr => h.rows r (hp.mem_iff.2 hr), hp.pairwise h.apart (fun h => h.symm), m, h1, h2, fun r hr => h3 r (hp.mem_iff.2 hr)⟩

theorem SideN.sub {rs' : List Rw} (h : SideN w0 p S rs w) (hp : rs'.Sublist rs) : SideN w0 p S rs' w := by
  obtain ⟨m, h1, h2, h3⟩ := h.on
  exact ⟨h.below, fun r hr => h.rows r (hp.subset hr), h.apart.sublist hp, m, h1, h2, fun r hr => h3 r (hp.subset hr)⟩

/-- A new row. -/
theorem SideN.more {t : TypeId} {sz n : Nat} {v : Value} {xs : List Value} (h : SideN w0 p S rs w) (hb : Below w.heap.size w w') (hr : w'.ownsRow w.heap.size t sz v n xs) : SideN w0 p S (⟨v, t, sz, n, xs⟩ :: rs) w' := by
  have g := h.step hb
  obtain ⟨m, h1, h2, h3⟩ := h.on
  refine ⟨g.below, fun r hr' => ?_, List.pairwise_cons.2 ⟨fun r hr' b hb' hb2 => ?_, g.apart⟩, m, h1.below hb, h2, fun r hr' b hb' hf => ?_⟩
  · rcases List.mem_cons.1 hr' with rfl | hr'
    · exact row_down hr h.below.size
    · exact g.rows r hr'
  · have e1 := (hr.lt b hb').1
    have e2 := ((h.rows r hr').lt b hb2).2
    omega
  · rcases List.mem_cons.1 hr' with rfl | hr'
    · have e1 := (hr.lt b hb').1
      have e2 := h1.lt hf
      omega
    · exact h3 r hr' b hb' hf

/-- The parts are changed. -/
theorem SideN.turn {m : Nat} {S' : List (Part Int)} (h : SideN w0 p S rs w) (h2 : ∀ k, FootN p m S k → w0.heap.size ≤ k) (h3 : ∀ r ∈ rs, ∀ b, r.v.ownBlock = some b → ¬ FootN p m S b) (g1 : PAtN w' p m S') (g2 : Turned (FootN p m S) w w') (g3 : ∀ j, FootN p m S' j → FootN p m S j ∨ w.heap.size ≤ j) : SideN w0 p S' rs w' := by
  refine ⟨h.below.trans (g2.below h.below.size h2), fun r hr => (h.rows r hr).kept (fun k hk => g2.block k ((h.rows r hr).lt k hk).2 (h3 r hr k hk)), h.apart, m, g1, fun k hk => (g3 k hk).elim (h2 k) (fun e => Nat.le_trans h.below.size e), fun r hr b hb hf => ?_⟩
  rcases g3 b hf with e | e
  · exact h3 r hr b hb e
  · have := ((h.rows r hr).lt b hb).2
    omega

/-- The first row is changed. -/
theorem SideN.grown {r r' : Rw} (h : SideN w0 p S (r :: rs) w) (hr : r'.At w0.heap.size w') (hg : w.grownBy w' r.v.ownBlock) (hv : ∀ b, r'.v.ownBlock = some b → r.v.ownBlock = some b ∨ w.heap.size ≤ b) : SideN w0 p S (r' :: rs) w' := by
  obtain ⟨m, h1, h2, h3⟩ := h.on
  have ha := List.pairwise_cons.1 h.apart
  have hm : ∀ x ∈ rs, x ∈ r :: rs := fun x hx => List.mem_cons_of_mem _ hx
  refine ⟨h.below.grown hg h.below.size (fun k hk => ((h.rows r (List.mem_cons_self ..)).lt k hk).1), fun x hx => ?_, List.pairwise_cons.2 ⟨fun x hx b hb hb2 => ?_, ha.2⟩, m, h1.kept (fun k hk => hg.block k (h1.lt hk) (fun e => h3 r (List.mem_cons_self ..) k e.symm hk)), h2, fun x hx b hb hf => ?_⟩
  · rcases List.mem_cons.1 hx with rfl | hx
    · exact hr
    · exact (h.rows x (hm x hx)).kept (fun k hk => hg.block k ((h.rows x (hm x hx)).lt k hk).2 (fun e => ha.1 x hx k e.symm hk))
  · rcases hv b hb with e | e
    · exact ha.1 x hx b e hb2
    · have := ((h.rows x (hm x hx)).lt b hb2).2
      omega
  · rcases List.mem_cons.1 hx with rfl | hx
    · rcases hv b hb with e | e
      · exact h3 r (List.mem_cons_self ..) b e hf
      · have := h1.lt hf
        omega
    · exact h3 x (hm x hx) b hb hf

/-- A cell of the first row is written. -/
theorem SideN.stored {t : TypeId} {sz n g c : Nat} {xs : List Value} (h : SideN w0 p S (⟨.slice (some ⟨g, 0, none⟩) n c, t, sz, n, xs⟩ :: rs) w) (j : Nat) (u : Value) : SideN w0 p S (⟨.slice (some ⟨g, 0, none⟩) n c, t, sz, n, xs.set j u⟩ :: rs) (w.setCell ⟨g, j, none⟩ u) := by
  have h0 := h.rows _ (List.mem_cons_self ..)
  obtain ⟨h1, h2⟩ := World.ownsRow.stored h0 j u
  exact h.grown (r' := ⟨.slice (some ⟨g, 0, none⟩) n c, t, sz, n, xs.set j u⟩) h1 h2 (fun b hb => .inl hb)

/-! ### the calls -/

theorem addSN (k : Int) (h : SideN w0 p S rs w) (hk : okN k) (hno : ∀ z ∈ S, k ∉ z.ks) (hn : tot S < 1099511627776) : Calls Try.prog 26 #[.pointer (some ⟨p, 0, none⟩), (Value.int .i64) k] w fun e w' => e = .returned (.bool true) ∧ ∃ x : Part Int, x.ks = [k] ∧ SideN w0 p (S ++ [x]) rs w' := by
  obtain ⟨m, h1, h2, h3⟩ := h.on
  refine (addN k w h1 hk hno hn).mono fun e w' hh => ⟨hh.1, ?_⟩
  obtain ⟨x, g0, g1, g2, g3⟩ := unhide hh.2
  exact ⟨x, g0, h.turn h2 h3 g1 g2 g3⟩

theorem joinNoSN (a b : Int) (h : SideN w0 p S rs w) (ha : okN a) (hb : okN b) (hno : fOf S a = none ∨ fOf S b = none ∨ fOf S a = fOf S b) : Calls Try.prog 27 #[.pointer (some ⟨p, 0, none⟩), (Value.int .i64) a, (Value.int .i64) b] w fun e w' => e = .returned (.bool false) ∧ SideN w0 p S rs w' := by
  obtain ⟨m, h1, h2, h3⟩ := h.on
  refine (joinNoN a b w h1 ha hb hno).mono fun e w' hh => ⟨hh.1, ?_⟩
  obtain ⟨q, rfl⟩ := hh.2
  exact h.step (below_drewN (Below.refl _ _) q)

theorem joinSN {x y : Part Int} (a b : Int) (h : SideN w0 p S rs w) (hx : x ∈ S) (hy : y ∈ S) (ha : a ∈ x.ks) (hb : b ∈ y.ks) (hne : x.q ≠ y.q) (hn : tot S < 1099511627776) : Calls Try.prog 27 #[.pointer (some ⟨p, 0, none⟩), (Value.int .i64) a, (Value.int .i64) b] w fun e w' => e = .returned (.bool true) ∧
    ∃ (z : Part Int) (R : List (Part Int)), (∀ k, k ∈ z.ks ↔ k ∈ x.ks ∨ k ∈ y.ks) ∧ z.ks.length = x.ks.length + y.ks.length ∧ (R = without y (without x S) ∨ R = without x (without y S)) ∧ SideN w0 p (R ++ [z]) rs w' := by
  obtain ⟨m, h1, h2, h3⟩ := h.on
  rcases Nat.lt_or_ge x.ks.length y.ks.length with hl | hl
  · refine (joinLtN a b w h1 hx hy ha hb hne hn hl).mono fun e w' hh => ⟨hh.1, ?_⟩
    obtain ⟨z, g0, g1, g2, g3, g4⟩ := unhide hh.2
    exact ⟨z, _, fun k => (g0 k).trans Or.comm, by omega, .inr rfl, h.turn h2 h3 g2 g3 g4⟩
  · refine (joinGeN a b w h1 hx hy ha hb hne hn hl).mono fun e w' hh => ⟨hh.1, ?_⟩
    obtain ⟨z, g0, g1, g2, g3, g4⟩ := unhide hh.2
    exact ⟨z, _, g0, g1, .inl rfl, h.turn h2 h3 g2 g3 g4⟩

theorem dropSN {x : Part Int} (k : Int) (h : SideN w0 p S rs w) (hx : x ∈ S) (hk : k ∈ x.ks) (hn : tot S < 1099511627776) : Calls Try.prog 32 #[.pointer (some ⟨p, 0, none⟩), (Value.int .i64) k] w fun e w' => e = .returned (.bool true) ∧
    ∃ T : List (Part Int), (∀ y ∈ T, ∀ j, j ∈ y.ks ↔ j ∈ x.ks ∧ j ≠ k) ∧ (T = [] ∧ x.ks = [k] ∨ ∃ y, T = [y] ∧ y.q = x.q) ∧ tot (without x S ++ T) + 1 = tot S ∧ SideN w0 p (without x S ++ T) rs w' := by
  obtain ⟨m, h1, h2, h3⟩ := h.on
  refine (dropN k w h1 hx hk hn).mono fun e w' hh => ⟨hh.1, ?_⟩
  obtain ⟨T, g0, g1, g2, g3, g4, g5⟩ := unhide hh.2
  exact ⟨T, g1, g2, g5, h.turn h2 h3 g0 g3 g4⟩

theorem burstSN {x : Part Int} (k : Int) (h : SideN w0 p S rs w) (hx : x ∈ S) (hk : k ∈ x.ks) (hn : tot S < 1099511627776) : Calls Try.prog 35 #[.pointer (some ⟨p, 0, none⟩), (Value.int .i64) k] w fun e w' => e = .returned (.bool true) ∧
    ∃ T, T.map (·.ks) = x.ks.map (fun k => [k]) ∧ SideN w0 p (without x S ++ T) rs w' := by
  obtain ⟨m, h1, h2, h3⟩ := h.on
  refine (burstN k w h1 hx hk hn).mono fun e w' hh => ⟨hh.1, ?_⟩
  obtain ⟨T, g0, g1, g2, g3⟩ := unhide hh.2
  exact ⟨T, g0, h.turn h2 h3 g1 g2 g3⟩

/-- A row of the things of a list. -/
def rwN (v : Value) (ks : List Int) : Rw := ⟨v, 3, 1, ks.length, ks.map (Value.int .i64)⟩

theorem membersSN {x : Part Int} (k : Int) (h : SideN w0 p S rs w) (hx : x ∈ S) (hk : k ∈ x.ks) (hn : tot S < 1099511627776) : Calls Try.prog 12 #[.pointer (some ⟨p, 0, none⟩), (Value.int .i64) k] w fun e w' => ∃ v, e = .returned v ∧ Hid (SideN w0 p S (rwN v x.ks :: rs) w') :=
  (membersLN k h.live hx hk hn).mono fun e w' hh => by
    obtain ⟨v, he, hr⟩ := hh
    obtain ⟨h1, h2⟩ := unhide hr
    exact ⟨v, he, h.more h2 h1⟩

/-- The heads of all parts, rising. -/
def HeadsAreN (S : List (Part Int)) (ys : List Int) : Prop := Rising ltN ys ∧ ∀ k, k ∈ ys ↔ ∃ x ∈ S, x.ks.headD (0 : Int) = k
theorem HeadsAreN.one {ys zs : List Int} (h : HeadsAreN S ys) (h' : HeadsAreN S zs) : ys = zs := rising_ext linN h.1 h'.1 (fun k => (h.2 k).trans (h'.2 k).symm)

theorem parts_leN {S : List (Part Int)} (h : Fam ltN okN S) : S.length ≤ tot S := by
  have h2 := h.some_
  clear h
  induction S with
  | nil => exact Nat.le_refl _
  | cons x S ih =>
    have e1 : tot (x :: S) = x.ks.length + tot S := by simp [tot]
    have e2 := List.length_pos_iff.2 (h2 x (List.mem_cons_self ..))
    have e3 := ih (fun y hy => h2 y (List.mem_cons_of_mem _ hy))
    rw [e1, List.length_cons]
    omega
theorem HeadsAreN.len {ys : List Int} (h : HeadsAreN S ys) (hf : Fam ltN okN S) : ys.length ≤ tot S := by
  have h1 : ys.length ≤ (S.map (fun x => x.ks.headD (0 : Int))).length := (h.1.nodup linN).length_le_of_subset (fun k hk => by
    obtain ⟨x, hx, e⟩ := (h.2 k).1 hk
    exact List.mem_map.2 ⟨x, hx, e⟩)
  rw [List.length_map] at h1
  exact Nat.le_trans h1 (parts_leN hf)

theorem headsSN (h : SideN w0 p S rs w) (hn : tot S < 1099511627776) : Calls Try.prog 14 #[.pointer (some ⟨p, 0, none⟩)] w fun e w' => ∃ v, e = .returned v ∧ Hid (∃ ys, HeadsAreN S ys ∧ SideN w0 p S (rwN v ys :: rs) w') :=
  (headsLN h.live hn).mono fun e w' hh => by
    obtain ⟨v, ys, he, hr⟩ := hh
    obtain ⟨h1, h2, h3, h4⟩ := unhide hr
    exact ⟨v, he, ys, ⟨h1, h2⟩, h.more h4 h3⟩

/-- Whatever is added: it is in then. -/
theorem addAnySN {n : Nat} (k : Int) (h : SideN w0 p S rs w) (hk : okN k) (hS : tot S ≤ n) (hn : n < 1099511627776) : Calls Try.prog 26 #[.pointer (some ⟨p, 0, none⟩), (Value.int .i64) k] w fun e w' => ∃ b, e = .returned (.bool b) ∧ Hid (∃ S', SideN w0 p S' rs w' ∧ tot S' ≤ n + 1 ∧ (∃ x ∈ S', k ∈ x.ks) ∧ ∀ z ∈ S, z ∈ S') := by
  cases hf : fOf S k with
  | none =>
    refine (addSN k h hk (fOf_none.1 hf) (by omega)).mono fun e w' hh => ⟨true, hh.1, ?_⟩
    obtain ⟨x, h1, h2⟩ := hh.2
    exact ⟨_, h2, by rw [tot_append, tot_one, h1]; simp; omega, ⟨x, by simp, by rw [h1]; simp⟩, fun z hz => by simp [hz]⟩
  | some q =>
    obtain ⟨x, hx, hkx, -⟩ := fOf_mem hf
    exact (addInLN k h.live hx hkx).mono fun e w' hh => ⟨false, hh.1, S, by rw [hh.2]; exact h, by omega, ⟨x, hx, hkx⟩, fun z hz => hz⟩
end
end Go.Proofs.Ytfhidghjmookhaa
