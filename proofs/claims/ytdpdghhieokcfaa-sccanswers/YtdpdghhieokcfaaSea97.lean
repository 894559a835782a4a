/- headsOf: the search made, and all of it. -/
import Derived.Test.YtdpdghhieokcfaaRep9
namespace Go.Proofs.Ytdpdghhieokcfaa
open Go.RowKit Go.Maps T9
/-- Whatever order the operations come up in, a picture is kept. -/
theorem anyInv {P : Program} {ops : Array Oper} {Q : Exit → Act → World → Prop} {md : Region.Mode} {S : World → Prop} {T : List Nat} (I : Nat → Array Bool → Act → World → Prop) (base : Nat)
    (h0 : ∀ l a w, I 0 l a w → wpAnyL P md ops Q S T base l a w)
    (h1 : ∀ k l a w, I (k + 1) l a w → Region.ready md ops l ≠ [] ∧ ∀ i ∈ Region.ready md ops l, ∃ o, ops[i]? = some o ∧ ∀ K' : Act → World → Prop, Shut (∀ a w, S w → I k (l.setIfInBounds i true) a w → K' a w) → if Region.wanted o (yielded ops a.tmps) = true then Oper.wp P o a w K' Q else K' (a.put o.dst undef) w) :
    ∀ k l a w, I k l a w → wpAnyL P md ops Q S T (base + k) l a w
  | 0, l, a, w, h => h0 l a w h
  | k + 1, l, a, w, h => by
    obtain ⟨hne, hall⟩ := h1 k l a w h
    refine ⟨fun h0 => absurd h0 hne, fun j hj => ?_⟩
    obtain ⟨o, ho, hop⟩ := hall j hj
    exact wpOp_step ho (fun K' hK => hop K' (fun a w hS hW => hK a w ⟨fun _ => hS, anyInv I base h0 h1 k _ a w hW⟩))
theorem anyInvAt {P : Program} {ops : Array Oper} {Q : Exit → Act → World → Prop} {md : Region.Mode} {S : World → Prop} {T : List Nat} (I : Act → Nat → Array Bool → Act → World → Prop) (base k : Nat) (l : Array Bool) (a : Act) (w : World) (hst : I a k l a w)
    (h0 : ∀ l a' w, I a 0 l a' w → wpAnyL P md ops Q S T base l a' w)
    (h1 : ∀ k l a' w, I a (k + 1) l a' w → Region.ready md ops l ≠ [] ∧ ∀ i ∈ Region.ready md ops l, ∃ o, ops[i]? = some o ∧ ∀ K' : Act → World → Prop, Shut (∀ a2 w, S w → I a k (l.setIfInBounds i true) a2 w → K' a2 w) → if Region.wanted o (yielded ops a'.tmps) = true then Oper.wp P o a' w K' Q else K' (a'.put o.dst undef) w) :
    wpAnyL P md ops Q S T (base + k) l a w := anyInv (I a) base h0 (fun k l a' w h => by
      obtain ⟨h2, h3⟩ := h1 k l a' w h
      exact ⟨h2, h3⟩) k l a w hst
/-- A row that may have been made already, its block k's. -/
def RowB (w0 w : World) (L : Nat → Nat) (k : Nat) (b : Bool) (x : Value) (ks : List Int) : Prop := b = true → BRow w0.heap.size w x ks ∧ (∀ g, x.ownBlock = some g → L g = k) ∧ ∃ g c, x = .slice (some ⟨g, 0, none⟩) ks.length c
theorem RowB.grow {w0 w w' : World} {L : Nat → Nat} {k : Nat} {b : Bool} {x : Value} {ks : List Int} (h : RowB w0 w L k b x ks) (hb : Below w.heap.size w w') (j : Nat) : RowB w0 w' (lab L w.heap.size j) k b x ks := fun e => by
  obtain ⟨h1, h2, h3⟩ := h e
  exact ⟨brow_kept h1 (fun g eg => hb.block g (h1.lt g eg).2), fun g eg => (if_pos (h1.lt g eg).2).trans (h2 g eg), h3⟩
theorem RowB.new {w0 w w' : World} {L : Nat → Nat} {k g n c : Nat} {ks : List Int} (h : BRow w.heap.size w' (.slice (some ⟨g, 0, none⟩) n c) ks) (hw : w0.heap.size ≤ w.heap.size) : RowB w0 w' (lab L w.heap.size k) k true (.slice (some ⟨g, 0, none⟩) n c) ks := fun _ =>
  ⟨brow_low h hw, fun g eg => if_neg (by have := (h.lt g eg).1; omega), g, c, by obtain ⟨_, _, e, -⟩ := brow_shape h; injection e with _ e2 _; rw [e2]⟩
theorem RowB.off (w0 w : World) (L : Nat → Nat) (k : Nat) (x : Value) (ks : List Int) : RowB w0 w L k false x ks := fun e => by cases e
/-- What is made so far. -/
def Pic5 (w0 : World) (n : Nat) (b1 b3 b5 b7 b9 : Bool) (x9 x11 x13 x15 x17 : Value) (w : World) : Prop := ∃ L, Below w0.heap.size w0 w ∧ RowB w0 w L 9 b1 x9 [-1] ∧ RowB w0 w L 2 b3 x11 (List.replicate n (-1)) ∧ RowB w0 w L 3 b5 x13 (List.replicate n 0) ∧ RowB w0 w L 4 b7 x15 (List.replicate n 0) ∧ RowB w0 w L 5 b9 x17 (List.replicate n 0)
def cnt5 (b1 b3 b5 b7 b9 : Bool) : Nat := (!b1).toNat + (!b3).toNat + (!b5).toNat + (!b7).toNat + (!b9).toNat
def ready5 (b1 b3 b5 b7 b9 : Bool) : List Nat := (if b1 then [] else [1]) ++ (if b1 && !b3 then [3] else []) ++ (if b5 then [] else [5]) ++ (if b7 then [] else [7]) ++ (if b9 then [] else [9]) ++ (if b3 && b5 && b7 && b9 then [10] else [])
theorem ready5_ne {b1 b3 b5 b7 b9 : Bool} : ready5 b1 b3 b5 b7 b9 ≠ [] := by
  cases b1 <;> cases b3 <;> cases b5 <;> cases b7 <;> cases b9 <;> decide
theorem ready5_mem {b1 b3 b5 b7 b9 : Bool} {k i : Nat} (hc : cnt5 b1 b3 b5 b7 b9 = k + 1) (hb : b3 = true → b1 = true) (hi : i ∈ ready5 b1 b3 b5 b7 b9) : (i = 1 ∧ b1 = false ∧ b3 = false) ∨ (i = 3 ∧ b1 = true ∧ b3 = false) ∨ (i = 5 ∧ b5 = false) ∨ (i = 7 ∧ b7 = false) ∨ (i = 9 ∧ b9 = false) := by
  revert hc hb hi
  cases b1 <;> cases b3 <;> cases b5 <;> cases b7 <;> cases b9 <;> simp [ready5, cnt5] <;> omega
theorem cnt5_zero {b1 b3 b5 b7 b9 : Bool} (h : cnt5 b1 b3 b5 b7 b9 = 0) : b1 = true ∧ b3 = true ∧ b5 = true ∧ b7 = true ∧ b9 = true := by
  revert h
  cases b1 <;> cases b3 <;> cases b5 <;> cases b7 <;> cases b9 <;> simp [cnt5]
def Inv5 (a0 : Act) (w0 : World) (n : Nat) (k : Nat) (l : Array Bool) (a : Act) (w : World) : Prop :=
  ∃ (b1 b3 b5 b7 b9 : Bool) (x9 x11 x13 x15 x17 : Value), l = #[true, b1, true, b3, true, b5, true, b7, true, b9, false, false, false] ∧ a = ((((a0.put (some 9) x9).put (some 11) x11).put (some 13) x13).put (some 15) x15).put (some 17) x17 ∧ cnt5 b1 b3 b5 b7 b9 = k ∧ (b3 = true → b1 = true) ∧ Pic5 w0 n b1 b3 b5 b7 b9 x9 x11 x13 x15 x17 w
theorem rep_rowI (n : Nat) (c : Int) : List.replicate n c = rowI n (fun _ => c) := by
  unfold rowI
  apply List.ext_getElem?
  intro k
  by_cases hk : k < n
  · simp [hk]
  · simp [hk]
/-- The search as it begins. -/
theorem sm_start {w0 w : World} {n : Nat} {x9 x11 x13 x15 x17 nv : Value} (h : Pic5 w0 n true true true true true x9 x11 x13 x15 x17 w) : SM ⟨w.heap.size, nv, x11, x13, x15, x17, n, w0⟩ St.start (w.alloc (oS nv x11 x13 x15 x17 0 (.slice none 0 0) (.slice none 0 0))) := by
  obtain ⟨L, hB, -, h2, h3, h4, h5⟩ := h
  have hb := below_new w (oS nv x11 x13 x15 x17 0 (.slice none 0 0) (.slice none 0 0))
  obtain ⟨r2, l2, -⟩ := h2.grow hb 1 rfl
  obtain ⟨r3, l3, -⟩ := h3.grow hb 1 rfl
  obtain ⟨r4, l4, -⟩ := h4.grow hb 1 rfl
  obtain ⟨r5, l5, -⟩ := h5.grow hb 1 rfl
  rw [rep_rowI] at r2 r3 r4 r5
  have hnil : BRow w0.heap.size (w.alloc (oS nv x11 x13 x15 x17 0 (.slice none 0 0) (.slice none 0 0))) (.slice none 0 0) [] := ⟨rfl, .inl ⟨rfl, rfl⟩⟩
  exact ⟨lab L w.heap.size 1, .slice none 0 0, .slice none 0 0, ⟨heap_alloc_new _ _, r2, r3, r4, r5, hnil, hnil, if_neg (Nat.lt_irrefl _), l2, l3, l4, l5, fun b e => by (cases e), fun b e => by (cases e), hB.size, hB.alloc hB.size _⟩⟩
/-- All places were come to, and their components are closed. -/
def HeadsAns (w : World) (nx : Nat → List Nat) (n : Nat) (hv : Value) (w' : World) : Prop := ∃ h, Heads nx n h ∧ (∀ p, h p ≤ p) ∧ Below w.heap.size w w' ∧ BRow w.heap.size w' hv (rowI n (fun p => ((h p : Nat) : Int)))
/-- While the places are gone through. -/
def Goes (F : SF) (nx : Nat → List Nat) (k : Nat) (w : World) : Prop := ∃ st, SM F st w ∧ Inv nx st ∧ st.Cnt F.n ∧ st.tl = [] ∧ ∀ p, p < k → st.tu p ≠ 0
theorem goes_from {F : SF} {nx : Nat → List Nat} {k : Nat} {st : St} {w : World} (h : FromAns F nx (st.enter k) w) (hs : ∀ p, p < k → st.tu p ≠ 0) : Goes F nx (k + 1) w := by
  obtain ⟨s', h1, ⟨h2, h3, h4⟩, h5⟩ := h
  refine ⟨s', h1, h2, h3, h5, fun p hp => h4 p ?_⟩
  by_cases e : p = k
  · subst e; show up st.tu p (st.turn + 1) p ≠ 0; rw [up_same]; omega
  · exact seen_enter (hs p (by omega))
theorem goes_done {F : SF} {nx : Nat → List Nat} {w : World} (h : Goes F nx F.n w) : HeadsAns F.w0 nx F.n F.hv w := by
  obtain ⟨st, ⟨L, kv, ov, hM⟩, hI, hC, ht, hs⟩ := h
  have hh : ∀ p, p < F.n → st.hd p = some (if p < F.n then (st.hd p).getD p else p) := fun p hp => by
    obtain ⟨m, e, -⟩ := hI.heads ht (hs p hp)
    rw [if_pos hp, e]; rfl
  have H : Heads nx F.n (fun p => if p < F.n then (st.hd p).getD p else p) := hI.done ht hs hh
  refine ⟨_, H, fun p => ?_, hM.below, ?_⟩
  · by_cases hp : p < F.n
    · exact H.le hp
    · show (if p < F.n then (st.hd p).getD p else p) ≤ p
      rw [if_neg hp]; exact Nat.le_refl _
  · rw [← rowI_congr (f := fun p => hdI (st.hd p)) (fun p hp => by obtain ⟨m, e, -⟩ := hI.heads ht (hs p hp); rw [if_pos hp, e]; rfl)]
    exact hM.hr
set_option maxHeartbeats 8000000 in
set_option maxRecDepth 100000 in
theorem headsOfS {w : World} {nv : Value} {n : Nat} {nx : Nat → List Nat} (hN : NxAt w nv n nx) (hnx : ∀ p, p < n → ∀ q ∈ nx p, q < n) (hn : n ≤ 1000000) (hl : ∀ p, p < n → (nx p).length ≤ 1000000) :
    Calls Try.prog 32 #[nv] w fun e w' => Hid (∃ hv, e = .returned hv ∧ HeadsAns w nx n hv w') := by
  obtain ⟨gn, cn, rfl, -⟩ := id hN
  have HC := hide (And.intro hN (And.intro hnx (And.intro hn hl)))
  have CR : Hid (∀ (W : World) v, NRow W v [-1] → Calls Try.prog 43 #[v, .int .i64 n] W fun e w' => e = .returned (.slice (some ⟨W.heap.size, 0, none⟩) n n) ∧ Hid (Below W.heap.size W w' ∧ BRow W.heap.size w' (.slice (some ⟨W.heap.size, 0, none⟩) n n) (List.replicate n (-1)))) := fun W v hv => repeatS hn hv
  have hmk := @mkI n hn
  have HBM : Hid (∀ W : World, BRow W.heap.size (W.alloc (.cells (madeCells #[.int .i64 0] n) 3)) (.slice (some ⟨W.heap.size, 0, none⟩) n n) (List.replicate n 0)) := brow_made n hn
  clear hN hnx hn hl
  go_enter Try.func32, Try.ntmps32
  go_upto_region 2 with fail
  refine wp_region_noPanic ?_
  refine regionL [] (fun y => True) (by kernel_rfl) trivial (fun hHeld => ?_)
  refine takeL (i := 0) (v := ?t2v0) (some 8) rfl rfl (by kernel_rfl) (by kernel_rfl) (by kernel_rfl) (by kernel_rfl) (by kernel_rfl) (fun _ _ _ h => h) (Or.inl ⟨by rfl, ?t2h0⟩) (by assumption) ?t2r0
  case t2h0 => (intro y hSu; (try dsimp only at hSu); go_simp; first | done | with_reducible rfl)
  (try simp only [Act.put, List.setIfInBounds_toArray, List.set_cons_zero, List.set_cons_succ])
  refine takeL (i := 2) (v := ?t2v2) (some 10) rfl rfl (by kernel_rfl) (by kernel_rfl) (by kernel_rfl) (by kernel_rfl) (by kernel_rfl) (fun _ _ _ h => h) (Or.inl ⟨by rfl, ?t2h2⟩) (by assumption) ?t2r2
  case t2h2 => (intro y hSu; (try dsimp only at hSu); go_simp; first | done | with_reducible rfl)
  (try simp only [Act.put, List.setIfInBounds_toArray, List.set_cons_zero, List.set_cons_succ])
  refine takeL (i := 4) (v := ?t2v4) (some 12) rfl rfl (by kernel_rfl) (by kernel_rfl) (by kernel_rfl) (by kernel_rfl) (by kernel_rfl) (fun _ _ _ h => h) (Or.inl ⟨by rfl, ?t2h4⟩) (by assumption) ?t2r4
  case t2h4 => (intro y hSu; (try dsimp only at hSu); go_simp; first | done | with_reducible rfl)
  (try simp only [Act.put, List.setIfInBounds_toArray, List.set_cons_zero, List.set_cons_succ])
  refine takeL (i := 6) (v := ?t2v6) (some 14) rfl rfl (by kernel_rfl) (by kernel_rfl) (by kernel_rfl) (by kernel_rfl) (by kernel_rfl) (fun _ _ _ h => h) (Or.inl ⟨by rfl, ?t2h6⟩) (by assumption) ?t2r6
  case t2h6 => (intro y hSu; (try dsimp only at hSu); go_simp; first | done | with_reducible rfl)
  (try simp only [Act.put, List.setIfInBounds_toArray, List.set_cons_zero, List.set_cons_succ])
  refine takeL (i := 8) (v := ?t2v8) (some 16) rfl rfl (by kernel_rfl) (by kernel_rfl) (by kernel_rfl) (by kernel_rfl) (by kernel_rfl) (fun _ _ _ h => h) (Or.inl ⟨by rfl, ?t2h8⟩) (by assumption) ?t2r8
  case t2h8 => (intro y hSu; (try dsimp only at hSu); go_simp; first | done | with_reducible rfl)
  (try simp only [Act.put, List.setIfInBounds_toArray, List.set_cons_zero, List.set_cons_succ])
  refine anyInvAt (fun a0 => Inv5 a0 w n) 3 5 _ _ _ ?start ?h0 ?h1
  case start =>
    refine ⟨false, false, false, false, false, undef, undef, undef, undef, undef, rfl, rfl, rfl, (fun e => by cases e), fun _ => 0, (Below.refl _ _).drew, RowB.off _ _ _ _ _ _, RowB.off _ _ _ _ _ _, RowB.off _ _ _ _ _ _, RowB.off _ _ _ _ _ _, RowB.off _ _ _ _ _ _⟩
  case h1 =>
    rintro k l a W ⟨b1, b3, b5, b7, b9, x9, x11, x13, x15, x17, rfl, rfl, hc, hb, hP⟩
    generalize hr : Region.ready _ _ _ = rs
    have hrs : rs = ready5 b1 b3 b5 b7 b9 := by rw [← hr]; cases b1 <;> cases b3 <;> cases b5 <;> cases b7 <;> cases b9 <;> kernel_rfl
    subst hrs
    refine ⟨ready5_ne, fun i hi => ?_⟩
    obtain ⟨L, hB, p1, p2, p3, p4, p5⟩ := hP
    rcases ready5_mem hc hb hi with ⟨rfl, rfl, rfl⟩ | ⟨rfl, rfl, rfl⟩ | ⟨rfl, rfl⟩ | ⟨rfl, rfl⟩ | ⟨rfl, rfl⟩
    · refine ⟨_, rfl, fun K hK => ?_⟩
      clear hr hi
      go_simp
      have hb2 := below_new W (.cells #[.int .i64 (-1)] 3)
      have hnew : BRow W.heap.size (W.alloc (.cells #[.int .i64 (-1)] 3)) (.slice (some ⟨W.heap.size, 0, none⟩) 1 1) [-1] := ⟨rfl, .inr ⟨W.heap.size, 1, #[.int .i64 (-1)], rfl, Nat.le_refl _, heap_alloc_new _ _, Nat.le_refl _, by unfold maxLen; omega, rfl, rfl⟩⟩
      exact hK.out _ _ trivial ⟨true, false, b5, b7, b9, .slice (some ⟨W.heap.size, 0, none⟩) 1 1, x11, x13, x15, x17, rfl, rfl, by unfold cnt5 at hc ⊢; simp at hc ⊢; omega, (fun e => by cases e), lab L W.heap.size 9, hB.alloc hB.size _, RowB.new hnew hB.size, p2.grow hb2 9, p3.grow hb2 9, p4.grow hb2 9, p5.grow hb2 9⟩
    · refine ⟨_, rfl, fun K hK => ?_⟩
      clear hr hi
      go_simp
      refine (unhide CR W x9 (brow_at0 (p1 rfl).1)).mono ?_
      rintro e w2 ⟨rfl, hh⟩
      (try dsimp only)
      obtain ⟨hb2, hnew⟩ := unhide hh
      exact hK.out _ _ trivial ⟨true, true, b5, b7, b9, x9, .slice (some ⟨W.heap.size, 0, none⟩) n n, x13, x15, x17, rfl, rfl, by unfold cnt5 at hc ⊢; simp at hc ⊢; omega, (fun _ => rfl), lab L W.heap.size 2, hB.trans (hb2.mono hB.size), p1.grow hb2 2, RowB.new hnew hB.size, p3.grow hb2 2, p4.grow hb2 2, p5.grow hb2 2⟩
    · refine ⟨_, rfl, fun K hK => ?_⟩
      clear hr hi
      go_simp
      have hb2 := below_new W (.cells (madeCells #[.int .i64 0] n) 3)
      have hnew := unhide HBM W
      exact hK.out _ _ trivial ⟨b1, b3, true, b7, b9, x9, x11, .slice (some ⟨W.heap.size, 0, none⟩) n n, x15, x17, rfl, rfl, by unfold cnt5 at hc ⊢; simp at hc ⊢; omega, hb, lab L W.heap.size 3, hB.alloc hB.size _, p1.grow hb2 3, p2.grow hb2 3, RowB.new hnew hB.size, p4.grow hb2 3, p5.grow hb2 3⟩
    · refine ⟨_, rfl, fun K hK => ?_⟩
      clear hr hi
      go_simp
      have hb2 := below_new W (.cells (madeCells #[.int .i64 0] n) 3)
      have hnew := unhide HBM W
      exact hK.out _ _ trivial ⟨b1, b3, b5, true, b9, x9, x11, x13, .slice (some ⟨W.heap.size, 0, none⟩) n n, x17, rfl, rfl, by unfold cnt5 at hc ⊢; simp at hc ⊢; omega, hb, lab L W.heap.size 4, hB.alloc hB.size _, p1.grow hb2 4, p2.grow hb2 4, p3.grow hb2 4, RowB.new hnew hB.size, p5.grow hb2 4⟩
    · refine ⟨_, rfl, fun K hK => ?_⟩
      clear hr hi
      go_simp
      have hb2 := below_new W (.cells (madeCells #[.int .i64 0] n) 3)
      have hnew := unhide HBM W
      exact hK.out _ _ trivial ⟨b1, b3, b5, b7, true, x9, x11, x13, x15, .slice (some ⟨W.heap.size, 0, none⟩) n n, rfl, rfl, by unfold cnt5 at hc ⊢; simp at hc ⊢; omega, hb, lab L W.heap.size 5, hB.alloc hB.size _, p1.grow hb2 5, p2.grow hb2 5, p3.grow hb2 5, p4.grow hb2 5, RowB.new hnew hB.size⟩
  case h0 =>
    rintro l a W ⟨b1, b3, b5, b7, b9, x9, x11, x13, x15, x17, rfl, rfl, hc, hb, hP⟩
    obtain ⟨rfl, rfl, rfl, rfl, rfl⟩ := cnt5_zero hc
    have hS0 := sm_start (nv := .slice (some ⟨gn, 0, none⟩) n cn) hP
    obtain ⟨L, hB, p1, p2, p3, p4, p5⟩ := hP
    obtain ⟨-, -, gh, ch, rfl⟩ := p2 rfl
    obtain ⟨-, -, gt, ct, rfl⟩ := p3 rfl
    obtain ⟨-, -, gl, cl, rfl⟩ := p4 rfl
    obtain ⟨-, -, gr, cr, rfl⟩ := p5 rfl
    simp only [List.length_replicate] at hS0 ⊢
    have HS : Hid (Goes ⟨W.heap.size, .slice (some ⟨gn, 0, none⟩) n cn, .slice (some ⟨gh, 0, none⟩) n ch, .slice (some ⟨gt, 0, none⟩) n ct, .slice (some ⟨gl, 0, none⟩) n cl, .slice (some ⟨gr, 0, none⟩) n cr, n, w⟩ nx 0 (W.alloc (oS (.slice (some ⟨gn, 0, none⟩) n cn) (.slice (some ⟨gh, 0, none⟩) n ch) (.slice (some ⟨gt, 0, none⟩) n ct) (.slice (some ⟨gl, 0, none⟩) n cl) (.slice (some ⟨gr, 0, none⟩) n cr) 0 (.slice none 0 0) (.slice none 0 0)))) := ⟨St.start, hS0, Inv.start nx, cnt_start n, rfl, fun p hp => absurd hp (Nat.not_lt_zero _)⟩
    clear hS0 p1 p2 p3 p4 p5 hB L hb hc HBM CR hmk
    (try simp only [Act.put, List.setIfInBounds_toArray, List.set_cons_zero, List.set_cons_succ])
    refine readyL (i := 10) (by kernel_rfl) rfl (fun K hK => ?_)
    go_simp
    refine hK.out _ _ (fun _ => trivial) ?_
    clear hK K
    (try simp only [List.setIfInBounds_toArray, List.set_cons_zero, List.set_cons_succ])
    have hH4 := trivial
    refine readyL (i := 11) (by kernel_rfl) rfl (fun K hK => ?_)
    go_simp
    refine hK.out _ _ (fun _ => trivial) ?_
    clear hK K
    (try simp only [List.setIfInBounds_toArray, List.set_cons_zero, List.set_cons_succ])
    have hH6 := trivial
    refine readyL (i := 12) (by kernel_rfl) rfl (fun K hK => ?_)
    go_simp
    refine hK.out _ _ (fun _ => trivial) ?_
    clear hK K
    (try simp only [List.setIfInBounds_toArray, List.set_cons_zero, List.set_cons_succ])
    have hH8 := trivial
    refine doneL (by kernel_rfl) ?_ _
    refine NoPanic.normal ?_
    change Exit.then _ _ _ _ (W.alloc (oS (.slice (some ⟨gn, 0, none⟩) n cn) (.slice (some ⟨gh, 0, none⟩) n ch) (.slice (some ⟨gt, 0, none⟩) n ct) (.slice (some ⟨gl, 0, none⟩) n cl) (.slice (some ⟨gr, 0, none⟩) n cr) 0 (.slice none 0 0) (.slice none 0 0)))
    generalize W.alloc (oS (.slice (some ⟨gn, 0, none⟩) n cn) (.slice (some ⟨gh, 0, none⟩) n ch) (.slice (some ⟨gt, 0, none⟩) n ct) (.slice (some ⟨gl, 0, none⟩) n cl) (.slice (some ⟨gr, 0, none⟩) n cr) 0 (.slice none 0 0) (.slice none 0 0)) = w1 at *
    generalize W.heap.size = sb at *
    go_upto_region 4 with fail
    go_loopw [22, 5] (fun s22 s5 wr => ∃ k : Nat, s22 = .int .i64 (k : Nat) ∧ k ≤ n ∧ Hid (Goes ⟨sb, .slice (some ⟨gn, 0, none⟩) n cn, .slice (some ⟨gh, 0, none⟩) n ch, .slice (some ⟨gt, 0, none⟩) n ct, .slice (some ⟨gl, 0, none⟩) n cl, .slice (some ⟨gr, 0, none⟩) n cr, n, w⟩ nx k wr)) (fun s22 _ _ => n - (intOf s22).toNat)
    case atStart => exact ⟨0, rfl, Nat.zero_le _, HS⟩
    case round =>
      obtain ⟨k, rfl, hk, hS⟩ := hrel
      by_cases hlt : k < n
      · obtain ⟨hN, hnx, hn, hl⟩ := unhide HC
        obtain ⟨st, ⟨L, kv, ov, hM⟩, hI, hCn, ht, hs⟩ := unhide hS
        have CF : Hid (st.tu k = 0 → Calls Try.prog 44 #[.pointer (some ⟨sb, 0, none⟩), .int .i64 k] wr fun r w' => r = .returned (.tuple #[]) ∧ Hid (Goes ⟨sb, .slice (some ⟨gn, 0, none⟩) n cn, .slice (some ⟨gh, 0, none⟩) n ch, .slice (some ⟨gt, 0, none⟩) n ct, .slice (some ⟨gl, 0, none⟩) n cl, .slice (some ⟨gr, 0, none⟩) n cr, n, w⟩ nx (k + 1) w')) := fun hv => by
          refine (fromS (p := k) hN hM hI hCn ht hlt hv hnx hn hl).mono ?_
          rintro r w' ⟨rfl, hh⟩
          exact ⟨rfl, goes_from (unhide hh) hs⟩
        have CG : Hid (¬ st.tu k = 0 → Goes ⟨sb, .slice (some ⟨gn, 0, none⟩) n cn, .slice (some ⟨gh, 0, none⟩) n ch, .slice (some ⟨gt, 0, none⟩) n ct, .slice (some ⟨gl, 0, none⟩) n cl, .slice (some ⟨gr, 0, none⟩) n cr, n, w⟩ nx (k + 1) wr) := fun hv => ⟨st, ⟨L, kv, ov, hM⟩, hI, hCn, ht, fun p hp => by
          by_cases e : p = k
          · rw [e]; exact hv
          · exact hs p (by omega)⟩
        obtain ⟨-, -, c2, -, -, -, -, -, -⟩ := hM.cells
        have t2 := (hM.atT (by omega)).2.1 k hlt
        have z1 : (k : Int) < (n : Int) := by omega
        have zw : Hid (wrap64 ((k : Int) + 1) = ((k + 1 : Nat) : Int)) := by show wrap64 ((k : Int) + 1) = ((k + 1 : Nat) : Int); unfold wrap64; omega
        have HJ : Hid (k + 1 ≤ n ∧ n - (k + 1) < n - k) := ⟨by omega, by omega⟩
        by_cases hv : st.tu k = 0
        · have hz : (((st.tu k : Nat) : Int) == 0) = true := by simp [hv]
          have CC := hide (unhide CF hv)
          generalize st.tu k = tk at *
          clear hN hnx hn hl hM hI hCn ht hs CF CG hv hk hS hlt HS
          go_wp2_with fail
          refine (unhide CC).mono ?_
          rintro r w2 ⟨rfl, hh⟩
          go_wp2_with fail
          rw [unhide zw]
          exact ⟨⟨k + 1, rfl, (unhide HJ).1, hh⟩, by have := (unhide HJ).2; simp [intOf]; omega⟩
        · have hz : (((st.tu k : Nat) : Int) == 0) = false := by simp; omega
          have CC := hide (unhide CG hv)
          generalize st.tu k = tk at *
          clear hN hnx hn hl hM hI hCn ht hs CF CG hv hk hS hlt HS
          go_wp2_with fail
          rw [unhide zw]
          exact ⟨⟨k + 1, rfl, (unhide HJ).1, CC⟩, by have := (unhide HJ).2; simp [intOf]; omega⟩
      · have z1 : ¬ (k : Int) < (n : Int) := by omega
        obtain rfl : k = n := by omega
        obtain ⟨st, ⟨L, kv, ov, hM⟩, -⟩ := unhide hS
        obtain ⟨-, c1, -, -, -, -, -, -, -⟩ := hM.cells
        have HG := hide (goes_done (unhide hS))
        clear hM hS hlt hk HS
        go_wp2_with fail
        go_ret
        exact ⟨_, rfl, unhide HG⟩
end Go.Proofs.Ytdpdghhieokcfaa
