/- The vertices, rising: slices.Sorted(maps.Keys(..)). -/
import Derived.Test.YtbmcibofecigeaaGreatLvI14
import Derived.Test.YtbmcibofecigeaaGreatIt14
import Derived.OwnWalkIn
import Derived.TacticsInMore
namespace Go.Proofs.YtbmcibofecigeaaGreat
open Go.RowKit Go.Maps Go.Sort Go.Shelf

theorem sortsP (m : Nat) : AnyZI.SortsIn Tryz.prog Tryz.sortedP_ren Fence.wide m :=
  ⟨fun blk off cap ss W hH hblk hsz => callsIn_wide.2 (Any.slices_Sort_int Tryz.lays189 blk off cap ss W hH hblk hsz),
   fun p cap W => callsIn_wide.2 (Any.slices_Sort_int_none Tryz.lays189 p cap W)⟩

/-- The keys of such a map, each once. -/
theorem keysG_of {X : Type} {ed : X → DataW Unit} {R : Value → Option (DataW Unit × List MemPlace)} {x0 : X} {w : World} {m N : Nat} {f : Int → Option X} {D : DataW Unit} (h1 : w.ownsMap Tryz.prog 3 R m N D) (h4 : ∀ k, okN k → D.atKey (klN k) (ed x0) = ed ((f k).getD x0) ∧ Maps.has D (klN k) = (f k).isSome) (hok : ∀ k, f k ≠ none → okN k) :
    (intKeys D).Nodup ∧ ∀ k, k ∈ intKeys D ↔ f k ≠ none := by
  obtain ⟨es, hD, hpw, -⟩ := h1.entries kitN.law
  obtain ⟨es', hD', hko⟩ := h1.keysOf
  obtain rfl : es = es' := by rw [hD] at hD'; simpa using hD'
  have hk : ∀ p ∈ es, ∃ x, p.1 = .int .i64 x ∧ (Lit.int .i64 x).wf = true := fun p hp => by
    obtain ⟨v, hv⟩ := hko p hp
    obtain ⟨x, -, hx, hw⟩ := Maps.keyOf_i64 Tryz.underlying3 hv
    exact ⟨x, hx, hw⟩
  subst hD
  have hm : ∀ x, x ∈ intKeys (.map es : DataW Unit) ↔ ∃ d, (Lit.int .i64 x, d) ∈ es := fun x => by
    show x ∈ es.map (fun p => Go.intOf p.1) ↔ _
    rw [List.mem_map]
    constructor
    · rintro ⟨p, hp, rfl⟩
      obtain ⟨a, ha, -⟩ := hk p hp
      refine ⟨p.2, ?_⟩
      rw [ha]
      show (Lit.int .i64 a, p.2) ∈ es
      rw [← ha]; exact hp
    · rintro ⟨d, hd⟩
      exact ⟨_, hd, rfl⟩
  refine ⟨?_, fun k => ?_⟩
  · show (es.map fun p => Go.intOf p.1).Nodup
    refine List.pairwise_map.2 (hpw.imp_of_mem fun {p q} hp' hq' hne e => hne ?_)
    obtain ⟨a, ha, -⟩ := hk p hp'
    obtain ⟨b, hb, -⟩ := hk q hq'
    rw [ha, hb] at e ⊢
    exact congrArg _ e
  · have hh : (∃ d, (Lit.int .i64 k, d) ∈ es) ↔ Maps.has (.map es : DataW Unit) (.int .i64 k) = true := by
      rw [has_eq, List.any_eq_true]
      constructor
      · rintro ⟨d, hd⟩; exact ⟨_, hd, by simp [Lit.sameKey]⟩
      · rintro ⟨p, hp, hs⟩
        obtain ⟨a, ha, -⟩ := hk p hp
        rw [ha] at hs
        have : a = k := by simpa [Lit.sameKey] using hs
        subst this
        exact ⟨p.2, by rw [← ha]; exact hp⟩
    rw [hm, hh]
    by_cases hw : okN k
    · rw [show Maps.has (.map es : DataW Unit) (.int .i64 k) = (f k).isSome from (h4 k hw).2]
      cases f k <;> simp
    · constructor
      · intro h
        obtain ⟨d, hd⟩ := hh.2 h
        obtain ⟨x, hx, hxw⟩ := hk _ hd
        injection hx with hx1 hx2
        subst hx2
        exact absurd hxw hw
      · intro h; exact absurd (hok k h) hw

theorem vkeysS (mb : Option Nat) (W : World) : Calls Tryz.prog 83 #[.map mb] W fun e w' => e = .returned (.func (.func 114) #[] #[.pointer (some ⟨W.heap.size, 0, none⟩)]) ∧ w' = W.alloc (.cells #[.map mb] 75) :=
  (callsIn_wide (n := 5)).1 (AnyZI.keys_in Tryz.keysP Fence.wide 5 trivial rfl mb W)
/-- What the sorted keys are. -/
def KeyAns (w : World) (F : Int → Option (Option Nat)) (n : Nat) (r : Ending) (w' : World) : Prop := ∃ (v : Value) (vs : List Int), r = .returned v ∧ BRow w.heap.size w' v vs ∧ Rising ltN vs ∧ (∀ k, k ∈ vs ↔ F k ≠ none) ∧ vs.length = n ∧ Below w.heap.size w w'
theorem vsortedS {w : World} {s n : Nat} {F : Int → Option (Option Nat)} (h : MapG dat ptrElem none w s F n) (hok : ∀ k, F k ≠ none → okN k) (hn : n ≤ 1000000) :
    Calls Tryz.prog 82 #[.func (.func 114) #[] #[.pointer (some ⟨w.heap.size, 0, none⟩)]] (w.alloc (.cells #[.map (some s)] 75)) fun r w' => KeyAns w F n r w' := by
  obtain ⟨D, hown, -, hsz, h4⟩ := h
  have hK := keysG_of hown h4 hok
  have hbl := hown.lt
  have hseq : SeqGives Fence.wide 2 Tryz.prog 114 #[.pointer (some ⟨w.heap.size, 0, none⟩)] encZ (fun ss => ss.Perm (intKeys D)) (Maps.size D) (w.alloc (.cells #[.map (some s)] 75)) :=
    AnyZI.keys_gives (ρ := Tryz.keysP_ren) { Tryz.keysP with } Fence.wide _ trivial rfl (by omega) w.heap.size s n D _ (by simp) (by simp) (by
      obtain ⟨es, clock, hb, Ft, hs, hD⟩ := hown
      exact ⟨es, clock, (Below.heap_alloc _ _ s hbl).trans hb, Ft, hs, hD⟩)
  have cS := AnyZI.sorted_in Tryz.sortedP Fence.wide 5 trivial trivial trivial trivial rfl (by omega) (sortsP _) (enters_of Tryz.func64 (by kernel_rfl) rfl) 114 #[.pointer (some ⟨w.heap.size, 0, none⟩)] trivial (enters_of Tryz.func114 (by kernel_rfl) rfl) _ _ (by unfold maxLen; omega) (by omega) _ hseq
  change CallsIn _ _ Tryz.prog 82 _ _ _ at cS
  refine (callsIn_wide.1 cS).mono ?_
  rintro e w' ⟨v, ss, rfl, hp, hrow, hnil, hb⟩
  have hpm : (ss.mergeSort fun x y => decide (x ≤ y)).Perm ss := List.mergeSort_perm _ _
  have h1 : (ss.mergeSort fun x y => decide (x ≤ y)).Pairwise (fun x y => decide (x ≤ y) = true) := List.pairwise_mergeSort (fun a b c h1 h2 => by simp at *; omega) (fun a b => by simp; omega) _
  have h2 : (ss.mergeSort fun x y => decide (x ≤ y)).Nodup := (hpm.trans hp).nodup_iff.2 hK.1
  have hrow2 : w'.ownsRow w.heap.size 3 1 v ss.length ((ss.mergeSort (fun x y => decide (x ≤ y))).map encZ) := ownsRow_base_a hrow (by simp)
  rw [hpm.length_eq.symm] at hrow2
  refine ⟨v, _, rfl, hrow2, (h1.and h2).imp (fun {a b} hab => by simp [ltN] at *; omega), fun k => by rw [(hpm.trans hp).mem_iff]; exact hK.2 k, ?_, ((Below.refl _ w).alloc (Nat.le_refl _) _).trans (hb.mono (by simp))⟩
  rw [(hpm.trans hp).length_eq, ← hsz]
  obtain ⟨es, rfl, -, -⟩ := hown.entries kitN.law
  show (es.map fun p => Go.intOf p.1).length = _
  rw [List.length_map]; rfl
/-- What rising answers. -/
def RisA (w : World) (vs : List Int) (v : Value) (w' : World) : Prop := ∃ ys, BRow w.heap.size w' v ys ∧ Rising ltN ys ∧ (∀ k, k ∈ ys ↔ k ∈ vs) ∧ Below w.heap.size w w'
set_option maxHeartbeats 1000000 in
theorem vrisingT {L : Lab} {w : World} {p mv me : Nat} {s tc : Int} {V : Int → Option Nat} {nv : Nat} {E : L14.Es} {ne : Nat} {T : L14.Tr} {O I : Int → List Int} {vs : List Int} {N : Nat} (h : LvAt L w p mv me s tc V nv E ne T O I) (hG : GL V E O I vs N) (hn : nv ≤ 1000000) :
    Calls Tryz.prog 42 #[.pointer (some ⟨p, 0, none⟩)] w fun e w' => ∃ a n c, e = .returned (.slice a n c) ∧ Hid (RisA w vs (.slice a n c) w') := by
  obtain ⟨-, c1, -, -, -⟩ := cellsL h.box
  have hm : ∀ k, ((V k).map some : Option (Option Nat)) ≠ none ↔ k ∈ vs := fun k => by
    rw [hG.mem k]
    cases V k <;> simp
  have C1 := hide (vkeysS (some mv) w)
  have C2 := hide (vsortedS h.vs (fun k hk => hG.okV k ((hm k).1 hk)) hn)
  have HM := hide hm
  clear h hG hn hm
  go_enter Tryz.func42, Tryz.ntmps42
  go_wp2_with fail
  refine (unhide C1).mono ?_
  rintro e w1 ⟨rfl, hw⟩
  rw [hw]
  clear C1 hw w1
  go_wp2_with fail
  refine (unhide C2).mono ?_
  intro e w2 H
  obtain ⟨v, ys, rfl, g1, g2, g3, -, g5⟩ := H
  obtain ⟨a, c, e, -⟩ := brow_shape g1
  subst e
  have HE : Hid (RisA w vs (.slice a ys.length c) w2) := ⟨ys, g1, g2, fun k => (g3 k).trans (unhide HM k), g5⟩
  clear C2 g1 g2 g3 g5 HM
  go_wp2_with fail
  go_ret
  exact ⟨_, _, _, rfl, HE⟩
end Go.Proofs.YtbmcibofecigeaaGreat
