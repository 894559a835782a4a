/- The store's Vertices: slices.Sorted(maps.Keys(..)). -/
import Derived.Test.YtagibmgbjhemkaaGreatStDropV
import Derived.Test.YtagibmgbjhemkaaGreatIter
import Derived.OwnWalkIn
import Derived.TacticsInMore
namespace Go.Proofs.YtagibmgbjhemkaaGreat
open Go.RowKit Go.Maps Go.Sort Go.Shelf

theorem sortsP (m : Nat) : AnyZI.SortsIn Tryz.prog Tryz.sortedP_ren Fence.wide m :=
  ⟨fun blk off cap ss W hH hblk hsz => callsIn_wide.2 (Any.slices_Sort_int Tryz.lays189 blk off cap ss W hH hblk hsz),
   fun p cap W => callsIn_wide.2 (Any.slices_Sort_int_none Tryz.lays189 p cap W)⟩

/-- The keys of such a map, each once. -/
theorem keys_of {w : World} {m N : Nat} {f : Int → Option Nat} {D : DataW Unit} (h1 : w.ownsMap Tryz.prog 3 ptrElem m N D) (h4 : ∀ k, okN k → D.atKey (klN k) (dat none) = dat (f k) ∧ Maps.has D (klN k) = (f k).isSome) (hok : ∀ k, f k ≠ none → okN k) :
    (intKeys D).Nodup ∧ ∀ k, k ∈ intKeys D ↔ f k ≠ none := by
  obtain ⟨es, hD, hpw, -⟩ := h1.entries kitN.law
  obtain ⟨es', hD', hko⟩ := h1.keysOf
  obtain rfl : es = es' := by rw [hD] at hD'; simpa using hD'
  have hk : ∀ p ∈ es, ∃ x, p.1 = .int .i64 x ∧ (Lit.int .i64 x).wf = true := fun p hp => by
    obtain ⟨v, hv⟩ := hko p hp
    obtain ⟨x, -, hx, hw⟩ := Maps.keyOf_i64 Tryz.underlying3 hv
    exact ⟨x, hx, hw⟩
  subst hD
  have hm : ∀ x, x ∈ intKeys (.map es : DataW Unit) ↔ ∃ d, (Lit.int .i64 x, d) ∈ es := fun x => by
    show x ∈ es.map (fun p => Go.intOf p.1) ↔ _
    rw [List.mem_map]
    constructor
    · rintro ⟨p, hp, rfl⟩
      obtain ⟨a, ha, -⟩ := hk p hp
      refine ⟨p.2, ?_⟩
      rw [ha]
      show (Lit.int .i64 a, p.2) ∈ es
      rw [← ha]; exact hp
    · rintro ⟨d, hd⟩
      exact ⟨_, hd, rfl⟩
  refine ⟨?_, fun k => ?_⟩
  · show (es.map fun p => Go.intOf p.1).Nodup
    refine List.pairwise_map.2 (hpw.imp_of_mem fun {p q} hp' hq' hne e => hne ?_)
    obtain ⟨a, ha, -⟩ := hk p hp'
    obtain ⟨b, hb, -⟩ := hk q hq'
    rw [ha, hb] at e ⊢
    exact congrArg _ e
  · have hh : (∃ d, (Lit.int .i64 k, d) ∈ es) ↔ Maps.has (.map es : DataW Unit) (.int .i64 k) = true := by
      rw [has_eq, List.any_eq_true]
      constructor
      · rintro ⟨d, hd⟩; exact ⟨_, hd, by simp [Lit.sameKey]⟩
      · rintro ⟨p, hp, hs⟩
        obtain ⟨a, ha, -⟩ := hk p hp
        rw [ha] at hs
        have : a = k := by simpa [Lit.sameKey] using hs
        subst this
        exact ⟨p.2, by rw [← ha]; exact hp⟩
    rw [hm, hh]
    by_cases hw : okN k
    · rw [show Maps.has (.map es : DataW Unit) (.int .i64 k) = (f k).isSome from (h4 k hw).2]
      cases f k <;> simp
    · constructor
      · intro h
        obtain ⟨d, hd⟩ := hh.2 h
        obtain ⟨x, hx, hxw⟩ := hk _ hd
        injection hx with hx1 hx2
        subst hx2
        exact absurd hxw hw
      · intro h; exact absurd (hok k h) hw

section
variable [Inhabited EntI] {w w' : World} {X X' : Sto}

set_option maxHeartbeats 1000000 in
set_option maxRecDepth 100000 in
theorem vertsS (h : StAt w X) : Calls Tryz.prog 54 #[.pointer (some ⟨X.s, 0, none⟩)] w fun e w' => ∃ (v : Value) (vs : List Int), e = .returned v ∧ Hid (BRow w.heap.size w' v vs ∧ Rising ltN vs ∧ (∀ k, k ∈ vs ↔ X.f k ≠ none) ∧ vs.length = X.N ∧ Below w.heap.size w w') := by
  obtain ⟨-, c1, -, -, -⟩ := h.cells
  obtain ⟨D, hown, -, hsz, h4⟩ := h.mem.map
  have hN : X.N ≤ 256 := h.size
  have hK := keys_of hown h4 (fun k hk => by
    cases e : X.f k with
    | none => exact absurd e hk
    | some q => exact h.ok e)
  have hbl := hown.lt
  have HFIN : Hid (∀ ss : List Int, ss.Perm (intKeys D) → Rising ltN (ss.mergeSort (fun x y => decide (x ≤ y))) ∧ (∀ k, k ∈ ss.mergeSort (fun x y => decide (x ≤ y)) ↔ X.f k ≠ none) ∧ (ss.mergeSort (fun x y => decide (x ≤ y))).length = X.N ∧ ss.length = (ss.mergeSort (fun x y => decide (x ≤ y))).length) := fun ss hp => by
    have hpm : (ss.mergeSort fun x y => decide (x ≤ y)).Perm ss := List.mergeSort_perm _ _
    have h1 : (ss.mergeSort fun x y => decide (x ≤ y)).Pairwise (fun x y => decide (x ≤ y) = true) := List.pairwise_mergeSort (fun a b c h1 h2 => by simp at *; omega) (fun a b => by simp; omega) _
    have h2 : (ss.mergeSort fun x y => decide (x ≤ y)).Nodup := (hpm.trans hp).nodup_iff.2 hK.1
    refine ⟨(h1.and h2).imp (fun {a b} hab => by simp [ltN] at *; omega), fun k => by rw [(hpm.trans hp).mem_iff]; exact hK.2 k, ?_, hpm.length_eq.symm⟩
    rw [(hpm.trans hp).length_eq, ← hsz]
    obtain ⟨es, rfl, -, -⟩ := hown.entries kitN.law
    show (es.map fun p => Go.intOf p.1).length = _
    rw [List.length_map]; rfl
  refine (callsIn_wide (n := 6)).1 ?_
  have hseq : SeqGives Fence.wide 2 Tryz.prog 111 #[.pointer (some ⟨w.heap.size, 0, none⟩)] encZ (fun ss => ss.Perm (intKeys D)) (Maps.size D) (w.alloc (.cells #[.map (some X.m)] 79)) :=
    AnyZI.keys_gives (ρ := Tryz.keysP_ren) { Tryz.keysP with } Fence.wide _ trivial rfl (by omega) w.heap.size X.m X.N D _ (by simp) (by simp) (by
      obtain ⟨es, clock, hb, Ft, hs, hD⟩ := hown
      exact ⟨es, clock, (Below.heap_alloc _ _ X.m hbl).trans hb, Ft, hs, hD⟩)
  have cK : ∀ mb W, CallsIn Fence.wide 5 Tryz.prog 92 #[.map mb] W fun e w' => e = .returned (.func (.func 111) #[] #[.pointer (some ⟨W.heap.size, 0, none⟩)]) ∧ w' = W.alloc (.cells #[.map mb] 79) := fun mb W => AnyZI.keys_in Tryz.keysP Fence.wide 5 trivial rfl mb W
  have cS := AnyZI.sorted_in Tryz.sortedP Fence.wide 5 trivial trivial trivial trivial rfl (by omega) (sortsP _) (enters_of Tryz.func110 (by kernel_rfl) rfl) 111 #[.pointer (some ⟨w.heap.size, 0, none⟩)] trivial (enters_of Tryz.func111 (by kernel_rfl) rfl) _ _ (by unfold maxLen; omega) (by omega) _ hseq
  change CallsIn _ _ Tryz.prog 91 _ _ _ at cS
  have hfK : Fence.wide.fn 92 := trivial
  have hfS : Fence.wide.fn 91 := trivial
  generalize X.s = s at *
  generalize X.m = m at *
  generalize X.N = N at *
  clear h h4 hK hown hsz
  refine callsIn_of_wp Tryz.func54 rfl trivial ?_ rfl
  simp only [Tryz.ntmps54, List.size_toArray, List.length_cons, List.length_nil, Nat.reduceAdd, Nat.reduceSub, Array.replicate_succ, Array.replicate_zero, List.push_toArray, List.append_toArray, List.nil_append, List.cons_append]
  gi_wp2_with (first
    | (gi_at_call 92; refine (cK _ _).mono ?_; rintro e w' ⟨rfl, rfl⟩)
    | (gi_at_call 91; refine cS.mono ?_; rintro e w' ⟨v, ss, rfl, hS, hrow, hnil, hb⟩))
  go_ret
  obtain ⟨r1, r2, r3, r4⟩ := unhide HFIN ss hS
  have hrow2 : w'.ownsRow w.heap.size 3 1 v ss.length ((ss.mergeSort (fun x y => decide (x ≤ y))).map encZ) := ownsRow_base_a hrow (by simp)
  rw [r4] at hrow2
  exact ⟨v, _, rfl, hrow2, r1, r2, r3, ((Below.refl _ w).alloc (Nat.le_refl _) _).trans (hb.mono (by simp))⟩
end
end Go.Proofs.YtagibmgbjhemkaaGreat
