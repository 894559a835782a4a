/- Parts of texts by what stands in them: joined, burst, joined again. -/
import Derived.Test.YtfhidghjmookhaaFallMath
namespace Go.Proofs.Ytfhidghjmookhaa
open Go.RowKit Go.Maps

/-- Some part has just these things. -/
def PartIs (S : List (Part (List UInt8))) (P : List UInt8 → Prop) : Prop := ∃ y ∈ S, ∀ k, k ∈ y.ks ↔ P k

theorem len_without {S : List (Part (List UInt8))} (h : Fam ltZ okZ S) {x : Part (List UInt8)} (hx : x ∈ S) : (without x S).length + 1 = S.length := by
  have hp := h.apart
  clear h
  induction S with
  | nil => cases hx
  | cons z S ih =>
    have p := List.pairwise_cons.1 hp
    rcases List.mem_cons.1 hx with rfl | hx
    · have e2 : without x (x :: S) = S := by
        unfold without
        rw [List.filter_cons, if_neg (by simp)]
        exact List.filter_eq_self.2 (fun y hy => by simpa using fun e => (p.1 y hy).1 e.symm)
      rw [e2, List.length_cons]
    · have e2 : without x (z :: S) = z :: without x S := by
        unfold without
        rw [List.filter_cons, if_pos (by simpa using (p.1 x hx).1)]
      rw [e2, List.length_cons, List.length_cons, ih hx p.2]

theorem heads_length {S : List (Part (List UInt8))} (h : Fam ltZ okZ S) {ys : List (List UInt8)} (hy : HeadsAreZ S ys) : ys.length = S.length := by
  have hp : ys.Perm (S.map (fun x => x.ks.headD [])) := (List.perm_ext_iff_of_nodup (hy.1.nodup linZ) (heads_nodup h)).2 (fun k => (hy.2 k).trans (by simp [List.mem_map]))
  rw [hp.length_eq, List.length_map]

section
variable {w0 w : World} {p : Nat} {S : List (Part (List UInt8))} {rs : List Rw}

theorem joinPart (a b : List UInt8) {P Q : List UInt8 → Prop} (h : SideZ w0 p S rs w) (hP : PartIs S P) (hQ : PartIs S Q) (ha : P a) (hb : Q b) (hd : ∀ k, P k → ¬ Q k) (hn : tot S < 1099511627776) :
    Calls Try.prog 24 #[.pointer (some ⟨p, 0, none⟩), encStr a, encStr b] w fun e w' => e = .returned (.bool true) ∧
      Hid (∃ S', SideZ w0 p S' rs w' ∧ tot S' = tot S ∧ S'.length + 1 = S.length ∧ PartIs S' (fun k => P k ∨ Q k) ∧ ∀ R : List UInt8 → Prop, PartIs S R → (∀ k, R k → ¬ P k ∧ ¬ Q k) → PartIs S' R) := by
  obtain ⟨x, hx, hxP⟩ := hP
  obtain ⟨y, hy, hyQ⟩ := hQ
  have hf := h.fam
  have hxa : a ∈ x.ks := (hxP a).2 ha
  have hyb : b ∈ y.ks := (hyQ b).2 hb
  have hq : x.q ≠ y.q := fun e => by
    rcases hf.of hx hy with e2 | ha2
    · exact hd a ha ((hyQ a).1 (e2 ▸ hxa))
    · exact ha2.1 e
  refine (joinSZ a b h hx hy hxa hyb hq hn).mono fun e w' hh => ⟨hh.1, ?_⟩
  obtain ⟨z, R, h1, h2, h3, h4⟩ := hh.2
  have t1 := tot_without hf hx
  have t2 := tot_without (hf.without x) (mem_without.2 ⟨hy, fun e => hq e.symm⟩)
  have t3 := tot_without hf hy
  have t4 := tot_without (hf.without y) (mem_without.2 ⟨hx, hq⟩)
  have l1 := len_without hf hx
  have l2 := len_without (hf.without x) (mem_without.2 ⟨hy, fun e => hq e.symm⟩)
  have l3 := len_without hf hy
  have l4 := len_without (hf.without y) (mem_without.2 ⟨hx, hq⟩)
  refine ⟨_, h4, ?_, ?_, ⟨z, by simp, fun k => ?_⟩, ?_⟩
  · rw [tot_append, tot_one, h2]
    rcases h3 with rfl | rfl <;> omega
  · rw [List.length_append, List.length_singleton]
    rcases h3 with rfl | rfl <;> omega
  · rw [h1, hxP, hyQ]
  · rintro G ⟨u, hu, huG⟩ hG
    obtain ⟨k, hk⟩ := List.exists_mem_of_ne_nil _ (hf.some_ u hu)
    have hGk := hG k ((huG k).1 hk)
    have q1 : u.q ≠ x.q := fun e => by
      rcases hf.of hu hx with e2 | ha2
      · exact hGk.1 ((hxP k).1 (e2 ▸ hk))
      · exact ha2.1 e
    have q2 : u.q ≠ y.q := fun e => by
      rcases hf.of hu hy with e2 | ha2
      · exact hGk.2 ((hyQ k).1 (e2 ▸ hk))
      · exact ha2.1 e
    refine ⟨u, List.mem_append.2 (.inl ?_), huG⟩
    rcases h3 with rfl | rfl
    · exact mem_without.2 ⟨mem_without.2 ⟨hu, q1⟩, q2⟩
    · exact mem_without.2 ⟨mem_without.2 ⟨hu, q2⟩, q1⟩

theorem burstPart {x : Part (List UInt8)} (a : List UInt8) (h : SideZ w0 p S rs w) (hx : x ∈ S) (ha : a ∈ x.ks) (hn : tot S < 1099511627776) :
    Calls Try.prog 25 #[.pointer (some ⟨p, 0, none⟩), encStr a] w fun e w' => e = .returned (.bool true) ∧
      Hid (∃ S', SideZ w0 p S' rs w' ∧ tot S' = tot S ∧ S'.length + 1 = S.length + x.ks.length ∧ ∀ k ∈ x.ks, PartIs S' (fun j => j = k)) := by
  refine (burstSZ a h hx ha hn).mono fun e w' hh => ⟨hh.1, ?_⟩
  obtain ⟨T, h3, h4⟩ := hh.2
  have hl : T.length = x.ks.length := by have := congrArg List.length h3; simpa using this
  refine ⟨_, h4, ?_, ?_, fun k hk => ?_⟩
  · rw [tot_append, tot_singlesZ h3]; have := tot_without h.fam hx; omega
  · rw [List.length_append, hl]; have := len_without h.fam hx; omega
  · have : [k] ∈ T.map (·.ks) := by rw [h3]; exact List.mem_map.2 ⟨k, hk, rfl⟩
    obtain ⟨y, hy, e⟩ := List.mem_map.1 this
    exact ⟨y, List.mem_append.2 (.inr hy), fun j => by rw [e]; simp⟩

theorem membersPart (k : List UInt8) {P : List UInt8 → Prop} (h : SideZ w0 p S rs w) (hP : PartIs S P) (hk : P k) (hn : tot S < 1099511627776) :
    Calls Try.prog 18 #[.pointer (some ⟨p, 0, none⟩), encStr k] w fun e w' => ∃ v, e = .returned v ∧ Hid (∃ ks, Rising ltZ ks ∧ (∀ j, j ∈ ks ↔ P j) ∧ SideZ w0 p S (rwZ v ks :: rs) w') := by
  obtain ⟨x, hx, hxP⟩ := hP
  refine (membersSZ k h hx ((hxP k).2 hk) hn).mono fun e w' hh => ?_
  obtain ⟨v, he, hs⟩ := hh
  exact ⟨v, he, x.ks, h.fam.rise x hx, hxP, unhide hs⟩
end

/-- What holds ahead of the i-th joining again. -/
def Again (S : List (Part (List UInt8))) (l : List (List UInt8)) (i : Nat) : Prop :=
  tot S ≤ 302 ∧ PartIs S (fun k => k ∈ l.take (max i 1)) ∧ ∀ j, max i 1 ≤ j → j < l.length → PartIs S (fun k => k = l.getD j [])

theorem again_zero {S : List (Part (List UInt8))} {l : List (List UInt8)} (ht : tot S ≤ 302) (h : ∀ k ∈ l, PartIs S (fun j => j = k)) (hl : 0 < l.length) : Again S l 0 := by
  refine ⟨ht, ?_, fun j _ hj => h _ (by simp [List.getD, hj])⟩
  obtain ⟨y, hy, hk⟩ := h (l.getD 0 []) (by simp [List.getD, hl])
  refine ⟨y, hy, fun k => (hk k).trans ?_⟩
  cases l with
  | nil => simp at hl
  | cons a l => simp

theorem again_one {S : List (Part (List UInt8))} {l : List (List UInt8)} (h : Again S l 0) : Again S l 1 := h

theorem again_next {w0 w : World} {p i : Nat} {S : List (Part (List UInt8))} {rs : List Rw} {l : List (List UInt8)} (hr : Rising ltZ l) (h : Again S l i) (hi : 0 < i) (hil : i < l.length) (hS : SideZ w0 p S rs w) :
    Calls Try.prog 24 #[.pointer (some ⟨p, 0, none⟩), encStr (l.getD 0 []), encStr (l.getD i [])] w fun e w' => e = .returned (.bool true) ∧ Hid (∃ S', SideZ w0 p S' rs w' ∧ Again S' l (i + 1)) := by
  obtain ⟨h1, h2, h3⟩ := h
  have hm : max i 1 = i := by omega
  have hm' : max (i + 1) 1 = i + 1 := by omega
  rw [hm] at h2 h3
  have hnd := hr.nodup linZ
  have hi' : l.getD i [] = l[i] := by simp [List.getD, hil]
  have hno : l.getD i [] ∉ l.take i := fun hk => by
    rw [hi'] at hk
    have h5 := hnd
    rw [← List.take_append_drop i l, List.drop_eq_getElem_cons hil] at h5
    exact (List.nodup_append.1 h5).2.2 _ hk _ (List.mem_cons_self ..) rfl
  refine (joinPart (l.getD 0 []) (l.getD i []) hS h2 (h3 i (Nat.le_refl _) hil) ?_ rfl (fun k hk e => hno (e ▸ hk)) (by omega)).mono fun e w' hh => ⟨hh.1, ?_⟩
  · have h0 : 0 < (l.take i).length := by rw [List.length_take]; omega
    have e0 : l.getD 0 [] = (l.take i)[0] := by
      rw [List.getElem_take]
      simp [List.getD, show 0 < l.length by omega]
    rw [e0]
    exact List.getElem_mem h0
  · obtain ⟨S', g1, g2, -, g4, g5⟩ := unhide hh.2
    refine ⟨S', g1, by omega, ?_, fun j hj hjl => ?_⟩
    · obtain ⟨y, hy, hk⟩ := g4
      refine ⟨y, hy, fun k => (hk k).trans ?_⟩
      show k ∈ l.take i ∨ k = l.getD i [] ↔ k ∈ l.take (max (i + 1) 1)
      rw [hm', List.take_succ_eq_append_getElem hil, List.mem_append, List.mem_singleton, hi']
    · rw [hm'] at hj
      refine g5 _ (h3 j (by omega) hjl) (fun k hk => ?_)
      have hj' : l.getD j [] = l[j] := by simp [List.getD, hjl]
      rw [hk, hj']
      refine ⟨fun hk => ?_, fun e => ?_⟩
      · have h5 := hnd
        rw [← List.take_append_drop j l, List.drop_eq_getElem_cons hjl] at h5
        have h6 : l[j] ∈ l.take j := (List.take_sublist_take_left (by omega)).subset hk
        exact (List.nodup_append.1 h5).2.2 _ h6 _ (List.mem_cons_self ..) rfl
      · rw [hi'] at e
        have := (List.pairwise_iff_getElem.1 hnd) i j hil hjl (by omega)
        exact this e.symm
end Go.Proofs.Ytfhidghjmookhaa
