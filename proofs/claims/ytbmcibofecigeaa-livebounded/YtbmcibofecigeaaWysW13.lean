/- waysOf, walked. -/
import Derived.Test.YtbmcibofecigeaaLvQ142
import Derived.Test.YtbmcibofecigeaaLvI14
import Derived.Laws.EntriesVeiled
import Derived.Test.YtbmcibofecigeaaLvO14
import Derived.Deep.OwnRows
namespace Go.Proofs.Ytbmcibofecigeaa

section
open Go.RowKit Go.Maps
attribute [local go_sem] run_storeF run_fieldE0 run_fieldE1
section
variable {L : Lab} {w : World} {p mv me : Nat} {s tc : Int} {V : Int → Option Nat} {nv : Nat} {E : L14.Es} {ne : Nat} {T : L14.Tr} {O I : Int → List Int} {vs : List Int} {N : Nat}
theorem dsL_snoc {ys : List Int} {i : Nat} {v : Int} (h : ys[i]? = some v) : dsL (ys.take (i + 1)) T = dsL (ys.take i) T ++ [(v, !L14.fnd T v, L14.cst T v, L14.lst T v)] := by
  unfold dsL
  rw [List.take_add_one, h]; simp
end
theorem mapTurned_size {w w' : World} {b : Nat} (h : w.mapTurned w' b) : w.heap.size = w'.heap.size := by
  obtain ⟨es, clock, es', clock', hb, rfl⟩ := h
  simp [ChangeMaps.setBlock]
/-- What New makes. -/
def NewL (w : World) (s : Int) (p : Nat) (w' : World) : Prop :=
  Below w.heap.size w w' ∧ ∃ L, LvK L w' p s 0 [s] [] (L14.upd (fun _ => (false, 0, 0)) s (true, 0, 0)) 1 ∧ ∀ b, b < w.heap.size → L b = none
set_option maxHeartbeats 2000000 in
set_option maxRecDepth 100000 in
theorem vNewT (w : World) {s : Int} (os : okN s) : Calls Try.prog 4 #[.int .i64 s] w fun e w' => ∃ p, e = .returned (.pointer (some ⟨p, 0, none⟩)) ∧ Hid (NewL w s p w') := by
  have hmm := @run_makeMap Try.prog
  obtain ⟨n, hn⟩ : ∃ n, n = w.heap.size := ⟨_, rfl⟩
  have m1 : MapG dat ptrElem none (w.alloc (.map #[] 0)) n (fun _ => none) 0 := by rw [hn]; exact mapG_made w
  have b1 := below_new w (.map #[] 0)
  have s1 : (w.alloc (.map #[] 0)).heap.size = n + 1 := by simp [hn]
  generalize hA : w.alloc (.map #[] 0) = wA at *
  have b2 := below_new wA (oSp (.slice none 0 0) (.slice none 0 0) (true, 0, 0))
  have k2 := heap_alloc_new wA (oSp (.slice none 0 0) (.slice none 0 0) (true, 0, 0))
  have s2 : (wA.alloc (oSp (.slice none 0 0) (.slice none 0 0) (true, 0, 0))).heap.size = n + 2 := by simp [s1]
  rw [s1] at k2
  have m2 := m1.kept (b2.block n m1.lt)
  generalize hB : wA.alloc (oSp (.slice none 0 0) (.slice none 0 0) (true, 0, 0)) = wB at *
  obtain ⟨wC, rC, mC, tC⟩ := m2.put kitPt (t := 48) (e := 44) Try.underlying48 (by unfold maxLen; omega) os (some (n + 1))
  have htC : Turned (fun b => b = n) wB wC := turned_map tC rfl
  have sC : wC.heap.size = n + 2 := (mapTurned_size tC).symm.trans s2
  have bC : Below n wB wC := htC.below (by omega) (fun k hk => by omega)
  have mD : MapG edG rdG (0, 0, 0) (wC.alloc (.map #[] 0)) (n + 2) (fun _ => none) 0 := by
    have := mapG_made (ed := edG) (R := rdG) (x0 := (0, 0, 0)) wC
    rwa [sC] at this
  have bD := below_new wC (.map #[] 0)
  have sD : (wC.alloc (.map #[] 0)).heap.size = n + 3 := by simp [sC]
  generalize hD : wC.alloc (.map #[] 0) = wD at *
  have bE := below_new wD (oL s n (n + 2) 0)
  have kE := heap_alloc_new wD (oL s n (n + 2) 0)
  have sE : (wD.alloc (oL s n (n + 2) 0)).heap.size = n + 4 := by simp [sD]
  rw [sD] at kE
  generalize hE : wD.alloc (oL s n (n + 2) 0) = wE at *
  have hAE : Below n w wE := by
    rw [hn]
    refine (b1.trans (b2.mono (by omega))).trans ?_
    rw [← hn]
    exact bC.trans ((bD.mono (by omega)).trans (bE.mono (by omega)))
  have HK : Hid (NewL w s (n + 3) wE) := by
    refine ⟨by rw [← hn]; exact hAE, fun d => if d = n then some (2, 0) else if d = n + 1 then some (4, s) else if d = n + 2 then some (3, 0) else if d = n + 3 then some (1, 0) else none, ⟨n, n + 2, fun x => if x = s then some (n + 1) else none, 1, fun _ => none, 0, fun _ => [], fun _ => [], ⟨⟨kE, ?_, mD.kept (bE.block _ (by omega)), ?_, ?_, ?_, ?_⟩, fun b q => ?_⟩, ⟨by simp, fun v => ?_, ?_, Nat.le_refl _, fun _ _ _ _ q => (by cases q), fun u e => ⟨fun q => (by cases q), fun ⟨_, _, q⟩ => (by cases q)⟩, fun u e => ⟨fun q => (by cases q), fun ⟨_, _, q⟩ => (by cases q)⟩, fun _ => List.Pairwise.nil, fun _ => List.Pairwise.nil, fun _ => Nat.zero_le _, fun _ => Nat.zero_le _⟩, List.mem_singleton.2 rfl, L14.Right.new s, ⟨fun _ _ _ _ => ⟨fun q => (by cases q), fun q => (by cases q)⟩, List.nodup_nil, fun _ q => (by cases q)⟩, Nat.le_refl _, Nat.zero_le _⟩, fun b q => ?_⟩
    · have hmE : MapG dat ptrElem none wE n (putG (fun _ => none) s (some (some (n + 1)))) 1 := (mC.kept (bD.block n (by omega))).kept (bE.block n (by omega))
      have e : (fun v => ((if v = s then some (n + 1) else none : Option Nat)).map some) = putG (fun _ => none) s (some (some (n + 1))) := by
        funext x
        unfold putG
        by_cases q : x = s
        · rw [if_pos q, if_pos q]; rfl
        · rw [if_neg q, if_neg q]; rfl
      rw [e]; exact hmE
    · rw [if_neg (by omega), if_neg (by omega), if_neg (by omega), if_pos rfl]
    · rw [if_pos rfl]
    · rw [if_neg (by omega), if_neg (by omega), if_pos rfl]
    · intro v b q
      by_cases z : v = s
      · rw [if_pos z] at q
        have q := Option.some.inj q
        refine ⟨.slice none 0 0, .slice none 0 0, ?_, ?_, ⟨rfl, .inl ⟨rfl, rfl⟩⟩, ⟨rfl, .inl ⟨rfl, rfl⟩⟩, fun d e => (by cases e), fun d e => (by cases e)⟩
        · rw [z, L14.upd_self, ← q]
          exact (bE.block _ (by omega)).trans ((bD.block _ (by omega)).trans ((htC.block _ (by omega) (by omega)).trans k2))
        · rw [← q, if_neg (by omega), if_pos rfl, z]
      · rw [if_neg z] at q; cases q
    · show (if b = n then some (2, 0) else if b = n + 1 then some (4, s) else if b = n + 2 then some (3, 0) else if b = n + 3 then some (1, 0) else none : Option (Nat × Int)) = none
      rw [if_neg (by omega), if_neg (by omega), if_neg (by omega), if_neg (by omega)]
    · constructor
      · intro q
        rw [List.mem_singleton.1 q, if_pos rfl]; exact fun z => by cases z
      · intro q
        by_cases z : v = s
        · exact List.mem_singleton.2 z
        · rw [if_neg z] at q; exact absurd rfl q
    · intro v q
      rw [List.mem_singleton.1 q]; exact os
    · show (if b = n then some (2, 0) else if b = n + 1 then some (4, s) else if b = n + 2 then some (3, 0) else if b = n + 3 then some (1, 0) else none : Option (Nat × Int)) = none
      rw [if_neg (by omega), if_neg (by omega), if_neg (by omega), if_neg (by omega)]
  have rC2 : (Instr.mapUpdate 48 (.map (some w.heap.size)) (.int .i64 s) (.pointer (some ⟨w.heap.size + 1, 0, none⟩))).run Try.prog ((w.alloc (.map #[] 0)).alloc (.cells #[.slice none 0 0, .slice none 0 0, .bool true, .float .f32 0, .int .i64 0] 47)) = .ok () wC := by
    rw [← hn, hA, show wA.alloc (.cells #[.slice none 0 0, .slice none 0 0, .bool true, .float .f32 0, .int .i64 0] 47) = wB from hB]
    exact rC
  have HD := hide hD
  have HE := hide hE
  have HN : Hid (n = w.heap.size ∧ wC.heap.size = n + 2 ∧ wD.heap.size = n + 3) := ⟨hn, sC, sD⟩
  clear m1 b1 s1 b2 k2 s2 m2 rC mC tC htC sC bC mD bD sD bE kE sE hAE hA hB hD hE hn os
  go_enter Try.func4, Try.ntmps4
  go_wp2_with fail
  obtain ⟨n1, n2, n3⟩ := unhide HN
  have hw : (wC.alloc (.map #[] 0)).alloc (.cells #[.int .i64 s, .map (some w.heap.size), .map (some wC.heap.size), .int .i64 0] 51) = wE := by
    rw [unhide HD, ← n1, n2]; exact unhide HE
  rw [hw, show wC.heap.size + 1 = n + 3 by omega]
  clear n1 n2 n3 hw HN HD HE
  go_ret
  exact ⟨n + 3, rfl, HK⟩
end

section
open Go.RowKit Go.Maps
theorem below_of_grown {w w0 w' : World} {g : Option Nat} (hb : Below w0.heap.size w0 w) (hg : w.grownBy w' g) (hn : ∀ b, g = some b → w0.heap.size ≤ b) : Below w0.heap.size w0 w' :=
  ⟨hg.os.trans hb.os, hg.tape.trans hb.tape, hg.output.trans hb.output, Nat.le_trans hb.size hg.size, fun b hbl => (hg.block b (Nat.lt_of_lt_of_le hbl hb.size) (fun e => by have := hn b e.symm; omega)).trans (hb.block b hbl)⟩
def RisenAns (w : World) (ks : List Int) (v : Value) (w' : World) : Prop := ∃ ys, ys.Perm ks ∧ ys.Pairwise (· ≤ ·) ∧ BRow w.heap.size w' v ys ∧ Below w.heap.size w w'
theorem strict_of {ys : List Int} (h : ∀ j : Nat, 1 ≤ j → j < ys.length → ys[j]? ≠ ys[j - 1]?) (hs : ys.Pairwise (· ≤ ·)) : ys.Pairwise (· < ·) := by
  rw [List.pairwise_iff_getElem] at hs ⊢
  intro i j hi hj hij
  have h1 := h (i + 1) (by omega) (by omega)
  rw [Nat.add_sub_cancel, List.getElem?_eq_getElem (show i + 1 < ys.length by omega), List.getElem?_eq_getElem hi] at h1
  have h2 := hs i (i + 1) hi (by omega) (by omega)
  have h4 : ys[i + 1] ≠ ys[i] := fun e => h1 (by rw [e])
  rcases Nat.lt_or_ge (i + 1) j with q | q
  · have h3 := hs (i + 1) j (by omega) hj q
    omega
  · have e : j = i + 1 := by omega
    subst e
    omega
def oEd (x : EdV) : Obj := .cells #[.int .i64 x.1, .int .i64 x.2.1, .int .i64 x.2.2.1, .int .u32 x.2.2.2] 42
theorem cellsEd {w : World} {b : Nat} {x : EdV} (h : w.heap[b]? = some (oEd x)) : w.cell? ⟨b, 0, none⟩ = some (.int .i64 x.1) ∧ w.cell? ⟨b, 1, none⟩ = some (.int .i64 x.2.1) ∧ w.cell? ⟨b, 2, none⟩ = some (.int .i64 x.2.2.1) ∧ w.cell? ⟨b, 3, none⟩ = some (.int .u32 x.2.2.2) :=
  ⟨(cell_of_row _ _ 0 _ _ (0, 0) h).trans rfl, (cell_of_row _ _ 1 _ _ (0, 0) h).trans rfl, (cell_of_row _ _ 2 _ _ (0, 0) h).trans rfl, (cell_of_row _ _ 3 _ _ (0, 0) h).trans rfl⟩
def IdxAns (w : World) (es : List EdV) (p : EdV → Bool) (r : Int) (w' : World) : Prop := (0 ≤ r ↔ es.any p = true) ∧ Below w.heap.size w w'
/-- A question that is asked of an edge: it answers p, and leaves all there was. -/
def Asks (w : World) (g : Nat) (cb : Array Value) (p : EdV → Bool) : Prop := ∀ (x : EdV) (W : World), Below w.heap.size w W → Calls Try.prog g (#[.agg #[.int .i64 x.1, .int .i64 x.2.1, .int .i64 x.2.2.1, .int .u32 x.2.2.2]] ++ cb) W fun e w' => e = .returned (.bool (p x)) ∧ Hid (Below W.heap.size W w')
end

section
open Go.RowKit Go.Maps
def lowB (x : EdV) : Bool := decide (x.1 < 1)
def awayB (ys : List Int) (x : EdV) : Bool := !decide (x.2.1 ∈ ys) || !decide (x.2.2.1 ∈ ys)
def badB (x : EdV) : Bool := (kept x.2.2.2).isNone
/-- What is wrong with a graph's lists. -/
def faultC (ys : List Int) (es : List EdV) (s : Int) : Int :=
  if (!decide ys.Nodup || !decide (es.map (·.1)).Nodup) = true then 2 else if es.any lowB = true then 1 else if (!decide (s ∈ ys) || es.any (awayB ys)) = true then 5 else if es.any badB = true then 7 else 0
theorem cell_lt13 {w : World} {b o : Nat} {v : Value} (h : w.cell? ⟨b, o, none⟩ = some v) : b < w.heap.size := by
  rcases Nat.lt_or_ge b w.heap.size with q | q
  · exact q
  · unfold World.cell? at h
    rw [Array.getElem?_eq_none q] at h; cases h
end

section
open Go.RowKit Go.Maps
def oV (v : Value) : Obj := .cells #[v] 25
end

section
open Go.RowKit Go.Maps
theorem made_list (z : Value) (n : Nat) : (madeCells #[z] n).toList = List.replicate n z := toList_madeCells_one z n
theorem mkI {n : Nat} (hn : n ≤ 1000000) (w : World) : (Instr.makeSlice 25 (.int .i64 (n : Nat)) (.int .i64 (n : Nat))).run Try.prog w = .ok (.slice (some ⟨w.heap.size, 0, none⟩) n n) (w.alloc (.cells (madeCells #[.int .i64 0] n) 3)) :=
  run_make_row' 25 3 (.int .i64 0) 8 Try.underlying25 info3 rfl .i64 .i64 n (by omega) (by omega) w
theorem brow_made (n : Nat) (hn : n ≤ 1000000) (w : World) : BRow w.heap.size (w.alloc (.cells (madeCells #[.int .i64 0] n) 3)) (.slice (some ⟨w.heap.size, 0, none⟩) n n) (List.replicate n 0) := by
  refine ⟨by simp, .inr ⟨w.heap.size, n, madeCells #[.int .i64 0] n, by simp, Nat.le_refl _, heap_alloc_new _ _, by simp, by unfold maxLen; omega, ?_, ?_⟩⟩
  · rw [← Array.length_toList, made_list]; simp
  · rw [made_list]; simp
/-- The distances of a graph without edges. -/
def bareD (s : Int) (ys : List Int) : List DiV := ys.map (fun v => (v, v != s, 0, 0))
end

section
open Go.RowKit Go.Maps
attribute [local go_sem] run_storeF
theorem flat_rep (n : Nat) : (List.replicate n ((none, 0, 0) : SlV)).flatMap encS = List.replicate n (.slice none 0 0) := by
  induction n with
  | zero => rfl
  | succ n ih => rw [List.replicate_succ, List.flatMap_cons, ih, List.replicate_succ]; rfl
/-- Where a vertex stands. -/
def plc (ys : List Int) (v : Int) : Nat := ys.countP (fun x => decide (x < v))
/-- The weight's word. -/
def wtN (x : EdV) : Nat := ((kept x.2.2.2).getD 0).toNat
def wayOf (ys : List Int) (x : EdV) : WyV := (x.1, plc ys x.2.2.1, wtN x)
/-- The ways of each place. -/
def waysL (ys : List Int) (es : List EdV) : List (List WyV) := (List.range ys.length).map (fun p => (es.filter (fun x => decide (plc ys x.2.1 = p))).map (wayOf ys))
theorem waysL_nil (ys : List Int) : waysL ys [] = List.replicate ys.length [] := by
  unfold waysL
  apply List.ext_getElem?
  intro i
  by_cases h : i < ys.length
  · simp [h]
  · simp [h]
theorem waysL_at {ys : List Int} {es : List EdV} {p : Nat} (h : p < ys.length) : (waysL ys es)[p]? = some ((es.filter (fun x => decide (plc ys x.2.1 = p))).map (wayOf ys)) := by
  unfold waysL; simp [h]
theorem waysL_len (ys : List Int) (es : List EdV) : (waysL ys es).length = ys.length := by unfold waysL; simp
theorem waysL_snoc {ys : List Int} {es : List EdV} {x : EdV} {ws : List WyV} (hp : plc ys x.2.1 < ys.length) (hw : (waysL ys es)[plc ys x.2.1]? = some ws) : waysL ys (es ++ [x]) = (waysL ys es).set (plc ys x.2.1) (ws ++ [wayOf ys x]) := by
  rw [waysL_at hp] at hw
  injection hw with hw
  apply List.ext_getElem?
  intro i
  by_cases h : i < ys.length
  · rw [waysL_at h]
    by_cases q : i = plc ys x.2.1
    · subst q
      rw [List.getElem?_set_self (by rw [waysL_len]; exact hp), ← hw, List.filter_append, List.map_append]
      simp
    · rw [List.getElem?_set_ne (fun z => q z.symm), waysL_at h, List.filter_append]
      have : [x].filter (fun y => decide (plc ys y.2.1 = i)) = [] := by simp; exact fun z => q z.symm
      rw [this, List.append_nil]
  · rw [List.getElem?_eq_none (by rw [waysL_len]; omega), List.getElem?_eq_none (by rw [List.length_set, waysL_len]; omega)]
theorem plc_lt {ys : List Int} {v : Int} (hv : v ∈ ys) : plc ys v < ys.length := by
  unfold plc
  rcases Nat.lt_or_ge (ys.countP (fun x => decide (x < v))) ys.length with h | h
  · exact h
  · have := List.countP_eq_length.1 (Nat.le_antisymm List.countP_le_length h) v hv
    simp at this
end

section
open Go.RowKit Go.Maps
attribute [local go_sem] run_storeF
end

end Go.Proofs.Ytbmcibofecigeaa
