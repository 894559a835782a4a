/- Join: what it leaves. -/
import Derived.Test.YtfhidghjmookhaaMergeWalkN
namespace Go.Proofs.Ytfhidghjmookhaa
open Go.RowKit Go.Maps

theorem PAtN.drewN {w : World} {p m : Nat} {S : List (Part Int)} (h : PAtN w p m S) (q : Nat) : PAtN (w.drewN q) p m S := h.kept (fun _ _ => rfl)

theorem PAtN.drew {w : World} {p m : Nat} {S : List (Part Int)} (h : PAtN w p m S) : PAtN w.drew p m S := h.kept (fun _ _ => rfl)

/-- In the midst of it: the two lists are one, the first j things of the lesser part are led to it. -/
structure JMidN (w0 : World) (p m : Nat) (S : List (Part Int)) (la sm z : Part Int) (j : Nat) (w : World) : Prop where
  box : w.heap[p]? = some (.cells #[.map (some m)] 57 (0, 0))
  rows : ∀ t ∈ without sm (without la S), RowN w t
  rowZ : RowN w z
  rowS : RowN w sm
  map : MapFn 3 klN okN w m (fun k => if k ∈ sm.ks.take j then some la.q else fOf S k) (tot S)
  turned : Turned (FootN p m S) w0 w
  q : z.q = la.q
  place : ∀ b, z.v.ownBlock = some b → la.v.ownBlock = some b ∨ w0.heap.size ≤ b
  rise : Rising ltN z.ks
  mem : ∀ k, k ∈ z.ks ↔ k ∈ la.ks ∨ k ∈ sm.ks
  len : z.ks.length = la.ks.length + sm.ks.length

theorem JMidN.start {w w5 : World} {p m g1 g c q0 : Nat} {S : List (Part Int)} {la sm : Part Int} (h : PAtN w p m S) (hla : la ∈ S) (hsm : sm ∈ S) (hne : la.q ≠ sm.q) (hv : la.v.ownBlock = some g1) (hM : MergedN (w.drewN q0) g1 g c la.ks sm.ks w5) :
    w5.cell? ⟨la.q, 0, none⟩ = some la.v ∧ w5.frozen? ⟨la.q, 0, none⟩ = false ∧ ∃ z, z.v = .slice (some ⟨g, 0, none⟩) (la.ks.length + sm.ks.length) c ∧ JMidN w p m S la sm z 0 (w5.setCell ⟨la.q, 0, none⟩ (.slice (some ⟨g, 0, none⟩) (la.ks.length + sm.ks.length) c)) := by
  obtain ⟨cs, m1, m2, m3, m4, m5, m6⟩ := hM
  obtain ⟨k1, k2⟩ := h.kinds
  obtain ⟨kl1, kl2, kl3⟩ := k2 la hla
  obtain ⟨kg1, kg2, kg3⟩ := kl3 g1 hv
  have hg1 : g1 < w.heap.size := (h.rows la hla).lt.2 g1 hv
  have hb5 : ∀ b, b < w.heap.size → b ≠ g1 → w5.heap[b]? = w.heap[b]? := fun b h1 h2 => m5.block b h1 h2
  have e1 : w5.heap[la.q]? = some (.cells #[la.v] 68 (0, 0)) := (hb5 _ (h.rows la hla).lt.1 (fun e => kg3 la hla e.symm)).trans (h.rows la hla).box
  have hb6 : ∀ b v, b < w.heap.size → b ≠ g1 → b ≠ la.q → (w5.setCell ⟨la.q, 0, none⟩ v).heap[b]? = w.heap[b]? := fun b v h1 h2 h3 => (heap_setCell_other w5 ⟨la.q, 0, none⟩ b v h3).trans (hb5 b h1 h2)
  have hrow : ∀ t ∈ S, t.q ≠ la.q → RowN (w5.setCell ⟨la.q, 0, none⟩ (.slice (some ⟨g, 0, none⟩) (la.ks.length + sm.ks.length) c)) t := fun t ht hq => by
    obtain ⟨kt1, kt2, kt3⟩ := k2 t ht
    have hta : Apart la t := (h.fam.of hla ht).resolve_left (fun e => hq (e ▸ rfl))
    refine (h.rows t ht).kept (hb6 _ _ (h.rows t ht).lt.1 (fun e => kg3 t ht e.symm) hq) (fun b hb => hb6 b _ ((h.rows t ht).lt.2 b hb) (fun e => hta.2.1 g1 hv (e ▸ hb)) ((kt3 b hb).2.2 la hla))
  have hgla : g ≠ la.q := by
    rcases m6 with e | e
    · rw [e]; exact kg3 la hla
    · have := (h.rows la hla).lt.1
      have e2 : w.heap.size ≤ g := e
      omega
  refine ⟨by rw [cell_of_row _ _ _ _ _ _ e1]; rfl, frozen_of_row _ _ _ _ _ e1, ⟨la.q, .slice (some ⟨g, 0, none⟩) (la.ks.length + sm.ks.length) c, cs⟩, rfl, ?_, fun t ht => ?_, ⟨heap_setCell_same w5 la.q 0 _ _ _ e1, ?_⟩, hrow sm hsm (fun e => hne e.symm), ?_, ?_, rfl, fun b hb => ?_, m1, m2, m3⟩
  · exact (hb6 p _ (h.lt (.inl rfl)) (fun e => kg1 e.symm) (fun e => kl1 e.symm)).trans h.box
  · obtain ⟨t1, -⟩ := mem_without.1 ht
    obtain ⟨t2, t3⟩ := mem_without.1 t1
    exact hrow t t2 t3
  · show (w5.setCell ⟨la.q, 0, none⟩ (.slice (some ⟨g, 0, none⟩) (la.ks.length + sm.ks.length) c)).ownsRow 0 3 1 (.slice (some ⟨g, 0, none⟩) (la.ks.length + sm.ks.length) c) cs.length (cs.map (Value.int .i64))
    rw [m3]
    refine ⟨m4.1, ?_⟩
    rcases m4.2 with hn | ⟨g', cap, cur, e, hb', hgg, rest⟩
    · exact .inl hn
    · refine .inr ⟨g', cap, cur, e, hb', ?_, rest⟩
      simp only [Value.slice.injEq, Option.some.injEq, Addr.mk.injEq] at e
      obtain ⟨⟨e5, -⟩, -⟩ := e
      rw [← e5] at hgg ⊢
      exact (heap_setCell_other w5 ⟨la.q, 0, none⟩ g _ hgla).trans hgg
  · exact (h.map.kept (hb6 m _ h.map.lt (fun e => kg2 e.symm) (fun e => kl2 e.symm))).congr (fun k _ => by simp)
  · have t1 : Turned (FootN p m S) w w5 := ⟨m5.os, m5.tape, m5.output, m5.size, fun b hb hn => hb5 b hb (fun e => hn (.inr (.inr ⟨la, hla, .inr (e ▸ hv)⟩)))⟩
    exact t1.trans (turned_setCell w5 ⟨la.q, 0, none⟩ _ (.inr (.inr ⟨la, hla, .inl rfl⟩)))
  · have hb' : some g = some b := hb
    injection hb' with hb'
    subst hb'
    rcases m6 with e | e
    · exact .inl (e ▸ hv)
    · exact .inr e

/-- One thing more is led to the greater part. -/
theorem JMidN.next {w0 w : World} {p m j : Nat} {S : List (Part Int)} {la sm z : Part Int} (h0 : PAtN w0 p m S) (hsm : sm ∈ S) (h : JMidN w0 p m S la sm z j w) (hj : j < sm.ks.length) (hn : tot S < 1099511627776) :
    w.cell? ⟨p, 0, none⟩ = some (.map (some m)) ∧ ∃ w', (Instr.mapUpdate 55 (.map (some m)) ((Value.int .i64) (sm.ks.getD j (0 : Int))) (.pointer (some ⟨la.q, 0, none⟩))).run Try.prog w = .ok () w' ∧ JMidN w0 p m S la sm z (j + 1) w' := by
  obtain ⟨D, ⟨es, clock, hmb, -⟩, -⟩ := h.map
  have e1 : sm.ks.getD j (0 : Int) = sm.ks[j] := by simp [List.getD, hj]
  have e2 : sm.ks.take (j + 1) = sm.ks.take j ++ [sm.ks[j]] := List.take_succ_eq_append_getElem hj
  have hin : sm.ks[j] ∈ sm.ks := List.getElem_mem hj
  rw [e1]
  obtain ⟨w', hr, g1, g2⟩ := h.map.put_ kitN (t := 55) (e := 65) Try.underlying55 (by unfold maxLen; omega) sm.ks[j] (h0.fam.keys sm hsm _ hin) la.q
  have hs : (if sm.ks[j] ∈ sm.ks.take j then some la.q else fOf S sm.ks[j]).isSome = true := by
    split
    · rfl
    · rw [fOf_some h0.fam hsm hin]; rfl
  rw [if_pos hs] at g1
  have ht := turned_map (S := fun b => b = m) g2 rfl
  have hkeep : ∀ (b : Nat) (cs : Array Value) (ty : TypeId), w.heap[b]? = some (Obj.cells cs ty (0, 0)) → w'.heap[b]? = w.heap[b]? := fun b cs ty hb => ht.block b (Array.getElem?_eq_some_iff.1 hb).1 (fun e => by rw [e, hmb] at hb; cases hb)
  have hrk : ∀ t, RowN w t → RowN w' t := fun t hr => by
    refine hr.kept (hkeep _ _ _ hr.box) (fun b hb => ?_)
    rcases hr.row.2 with ⟨e, -⟩ | ⟨g, cap, cur, e, -, hgg, -⟩
    · rw [e] at hb; simp [Value.ownBlock] at hb
    · rw [e] at hb
      simp [Value.ownBlock] at hb
      subst hb
      exact hkeep _ _ _ hgg
  refine ⟨by rw [cell_of_row _ _ _ _ _ _ h.box]; rfl, w', hr, (hkeep _ _ _ h.box).trans h.box, fun t ht' => hrk t (h.rows t ht'), hrk z h.rowZ, hrk sm h.rowS, g1.congr (fun k _ => ?_), h.turned.trans (ht.mono (fun b _ e => .inr (.inl e))), h.q, h.place, h.rise, h.mem, h.len⟩
  unfold put
  rw [e2]
  by_cases e : k = sm.ks[j]
  · rw [if_pos e, if_pos (List.mem_append.2 (.inr (List.mem_singleton.2 e)))]
  · rw [if_neg e]
    show _ = if k ∈ sm.ks.take j then some la.q else fOf S k
    by_cases ek : k ∈ sm.ks.take j
    · rw [if_pos ek, if_pos (List.mem_append.2 (.inl ek))]
    · rw [if_neg ek, if_neg (fun hm => (List.mem_append.1 hm).elim ek (fun h => e (List.mem_singleton.1 h)))]

/-- What Join leaves. -/
def JoinedN (w : World) (p m : Nat) (S : List (Part Int)) (x y : Part Int) (w' : World) : Prop :=
  ∃ z : Part Int, (∀ k, k ∈ z.ks ↔ k ∈ x.ks ∨ k ∈ y.ks) ∧ z.ks.length = x.ks.length + y.ks.length ∧ PAtN w' p m (without y (without x S) ++ [z]) ∧ Turned (FootN p m S) w w' ∧ ∀ j, FootN p m (without y (without x S) ++ [z]) j → FootN p m S j ∨ w.heap.size ≤ j

theorem JMidN.done {w w' : World} {p m : Nat} {S : List (Part Int)} {la sm z : Part Int} (h0 : PAtN w p m S) (hla : la ∈ S) (hsm : sm ∈ S) (hne : la.q ≠ sm.q) (h : JMidN w p m S la sm z sm.ks.length w') : JoinedN w p m S la sm w' := by
  have hf1 := h0.fam.without la
  have hsm1 : sm ∈ without la S := mem_without.2 ⟨hsm, fun e => hne e.symm⟩
  have hf2 := hf1.without sm
  have hmap := h.map
  rw [List.take_length] at hmap
  have hsub : ∀ t ∈ without sm (without la S), t ∈ S ∧ t.q ≠ la.q ∧ t.q ≠ sm.q := fun t ht => by
    obtain ⟨t1, t2⟩ := mem_without.1 ht
    obtain ⟨t3, t4⟩ := mem_without.1 t1
    exact ⟨t3, t4, t2⟩
  refine ⟨z, h.mem, h.len, ⟨h.box, fun t ht => ?_, hf2.append (fam_one h.rise ?_ (fun k hk => ?_)) (fun t ht y hy => ?_), ?_⟩, h.turned, fun j hj => ?_⟩
  · rcases List.mem_append.1 ht with ht | ht
    · exact h.rows t ht
    · rw [List.mem_singleton.1 ht]; exact h.rowZ
  · intro e
    have hl := h.len
    rw [e] at hl
    have := h0.fam.some_ la hla
    exact this (List.eq_nil_of_length_eq_zero (by simp at hl; omega))
  · rcases (h.mem k).1 hk with e | e
    · exact h0.fam.keys la hla k e
    · exact h0.fam.keys sm hsm k e
  · rw [List.mem_singleton.1 hy]
    obtain ⟨t1, t2, t3⟩ := hsub t ht
    have a1 : Apart t la := (h0.fam.of t1 hla).resolve_left (fun e => t2 (e ▸ rfl))
    have a2 : Apart t sm := (h0.fam.of t1 hsm).resolve_left (fun e => t3 (e ▸ rfl))
    refine ⟨by rw [h.q]; exact t2, fun b hb e => ?_, fun k hk e => ?_⟩
    · rcases h.place b e with g | g
      · exact a1.2.1 b hb g
      · have := (h0.rows t t1).lt.2 b hb; omega
    · rcases (h.mem k).1 e with g | g
      · exact a1.2.2 k hk g
      · exact a2.2.2 k hk g
  · have t1 := tot_without h0.fam hla
    have t2 := tot_without hf1 hsm1
    rw [tot_append, tot_one, h.len, show tot (without sm (without la S)) + (la.ks.length + sm.ks.length) = tot S by omega]
    refine hmap.congr (fun k _ => ?_)
    rw [fOf_append, fOf_without hf1 hsm1, fOf_without h0.fam hla, fOf_one, h.q]
    by_cases es : k ∈ sm.ks
    · rw [if_pos es, if_pos es, if_pos ((h.mem k).2 (.inr es))]; rfl
    · rw [if_neg es, if_neg es]
      by_cases el : k ∈ la.ks
      · rw [if_pos el, if_pos ((h.mem k).2 (.inl el)), fOf_some h0.fam hla el]; rfl
      · rw [if_neg el, if_neg (fun e => ((h.mem k).1 e).elim el es)]; simp
  · rcases hj with e | e | ⟨t, ht, e⟩
    · exact .inl (.inl e)
    · exact .inl (.inr (.inl e))
    · rcases List.mem_append.1 ht with ht | ht
      · exact .inl (.inr (.inr ⟨t, (hsub t ht).1, e⟩))
      · rw [List.mem_singleton.1 ht] at e
        rcases e with e | e
        · exact .inl (.inr (.inr ⟨la, hla, .inl (e.trans h.q)⟩))
        · rcases h.place j e with g | g
          · exact .inl (.inr (.inr ⟨la, hla, .inr g⟩))
          · exact .inr g
end Go.Proofs.Ytfhidghjmookhaa
