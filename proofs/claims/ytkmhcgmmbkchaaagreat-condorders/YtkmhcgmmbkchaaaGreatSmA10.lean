/- SameArcs of two like lists; Heads. -/
import Derived.Test.YtkmhcgmmbkchaaaGreatCptW10
import Derived.Test.YtkmhcgmmbkchaaaGreatSF
import Derived.Test.YtkmhcgmmbkchaaaGreatEd10
import Derived.Test.YtkmhcgmmbkchaaaGreatPMath
namespace Go.Proofs.YtkmhcgmmbkchaaaGreat

section
open Go.RowKit Go.Maps Go.Sort
def encAr (x : Int × Int) : List Value := [.int .i64 x.1, .int .i64 x.2]
theorem ltT (x y : Int × Int) : ltOf cfA x y = true ↔ lexLt x y := by
  unfold ltOf
  rw [decide_eq_true_iff]; exact cfA_lt x y
theorem ltF (x y : Int × Int) : ltOf cfA x y = false ↔ ¬ lexLt x y := by
  rw [← ltT]; cases ltOf cfA x y <;> simp
theorem swoA : SWO (ltOf cfA) where
  irrefl x := (ltF x x).2 (fun h => by unfold lexLt at h; omega)
  trans x y z h1 h2 := (ltT x z).2 (lexLt_trans ((ltT x y).1 h1) ((ltT y z).1 h2))
  ntrans x y z h1 h2 := (ltF x z).2 (fun h => by
    have a := (ltF x y).1 h1
    have b := (ltF y z).1 h2
    unfold lexLt at *; omega)
theorem flat_list (d : Array (Int × Int)) : (flatK encAr 2 d).toList = encA d.toList := by
  apply List.ext_getElem?
  intro t
  by_cases ht : t < d.size * 2
  · have h1 := get_flatK encAr 2 d t ht
    have hs : t < (flatK encAr 2 d).size := by rw [size_flatK]; exact ht
    rw [getElem!_pos _ t hs] at h1
    have hd : t / 2 < d.size := by omega
    have e0 : (flatK encAr 2 d).toList[t]? = some (encAr d[t / 2]!)[t % 2]! := by
      rw [Array.getElem?_toList, Array.getElem?_eq_getElem hs, h1]
    rw [e0, getElem!_pos d (t / 2) hd]
    have hl : d.toList[t / 2]? = some d[t / 2] := by rw [Array.getElem?_toList, Array.getElem?_eq_getElem hd]
    obtain ⟨q1, q2⟩ := encA_get hl
    rcases Nat.mod_two_eq_zero_or_one t with m | m
    · rw [m]
      have : t = t / 2 * 2 := by omega
      rw [show (encA d.toList)[t]? = (encA d.toList)[t / 2 * 2]? by rw [← this], q1]; rfl
    · rw [m]
      have : t = t / 2 * 2 + 1 := by omega
      rw [show (encA d.toList)[t]? = (encA d.toList)[t / 2 * 2 + 1]? by rw [← this], q2]; rfl
  · rw [List.getElem?_eq_none (by rw [Array.length_toList, size_flatK]; omega), List.getElem?_eq_none (by rw [encA_len]; simp; omega)]
theorem rc_holds {w : World} {g c : Nat} {l : List (Int × Int)} {rest : List Value} (h : RC w g c l rest w) : HoldsK encAr 2 w g 0 l.toArray := by
  intro j hj
  have hj2 : j < l.length * 2 := by rw [size_flatK] at hj; simpa using hj
  refine ⟨?_, h.frozen _⟩
  rw [Nat.zero_add, cell_of_row _ _ _ _ _ _ h.heap]
  have e := flat_list l.toArray
  rw [List.toList_toArray] at e
  have h1 : (encA l)[j]? = some (flatK encAr 2 l.toArray)[j]! := by rw [← e, Array.getElem?_toList, Array.getElem?_eq_getElem hj, getElem!_pos _ j hj]
  have hl : j < (encA l).length := by rw [encA_len]; exact hj2
  simp only [List.getElem?_toArray]
  rw [List.getElem?_append_left hl, h1]; rfl
theorem rc_sorted {w : World} {g c : Nat} {l : List (Int × Int)} {rest : List Value} (h : RC w g c l rest w) {n : Nat} {os : Array Obj} {d : Array (Int × Int)} (hs : d.size = l.length) : RC w g c d.toList rest (sortWorldK encAr 2 w g 0 n d os) := by
  have hg := heap_lt h.heap
  have hheap : (sortWorldK encAr 2 w g 0 n d os).heap[g]? = some (.cells (putCells id 0 (flatK encAr 2 d) (encA l ++ rest).toArray) 54 (0, 0)) := by
    unfold sortWorldK putRowK
    rw [heap_grow_old _ _ (by simpa using hg)]
    simp [putRow, mapBlock, Array.getElem?_modify, h.heap, onCells]
  have hcs : putCells id 0 (flatK encAr 2 d) (encA l ++ rest).toArray = (encA d.toList ++ rest).toArray := by
    apply Array.ext_getElem?
    intro t
    have hfl := flat_list d
    have hsz : (flatK encAr 2 d).size = l.length * 2 := by rw [size_flatK, hs]
    have hl1 : (encA d.toList).length = l.length * 2 := by rw [encA_len]; simp [hs]
    have hl2 : (encA l).length = l.length * 2 := encA_len l
    unfold putCells
    rw [Array.getElem?_mapIdx]
    simp only [List.getElem?_toArray]
    by_cases ht : t < l.length * 2
    · rw [List.getElem?_append_left (by omega), List.getElem?_append_left (by omega), List.getElem?_eq_getElem (show t < (encA l).length by omega), ← hfl]
      simp only [Option.map_some, Nat.zero_le, true_and, Nat.zero_add, Nat.sub_zero]
      rw [if_pos (by omega), Array.getElem?_toList, Array.getElem?_eq_getElem (show t < (flatK encAr 2 d).size by omega), getElem!_pos _ t (by omega)]; rfl
    · rw [List.getElem?_append_right (by omega), List.getElem?_append_right (by omega), hl1, hl2]
      cases rest[t - l.length * 2]? with
      | none => rfl
      | some v => simp only [Option.map_some]; rw [if_neg (by omega)]
  have hlen := h.len
  refine ⟨by rw [hheap, hcs], ?_, ⟨rfl, rfl, rfl, by simp [sortWorldK, putRowK, grow, putRow, mapBlock], fun k hk hne => ?_⟩⟩
  · rw [List.length_append, encA_len] at hlen ⊢
    rw [Array.length_toList, hs]; exact hlen
  · unfold sortWorldK putRowK
    rw [heap_grow_old _ _ (by simpa using hk)]
    have : g ≠ k := fun e => hne e.symm
    simp [putRow, mapBlock, Array.getElem?_modify, this]
theorem sortArcsS {B : Nat} {w : World} {g n c : Nat} {l : List (Int × Int)} (h : ABRow B w (.slice (some ⟨g, 0, none⟩) n c) l) (hl : l.length ≤ 100000) :
    Calls Tryz.prog 40 #[.slice (some ⟨g, 0, none⟩) n c, .func (.func 41) #[] #[]] w fun e w' => e = .returned (.tuple #[]) ∧ Hid (∃ l', l'.Perm l ∧ l'.Pairwise (fun a b => ¬ lexLt b a) ∧ ABRow B w' (.slice (some ⟨g, 0, none⟩) n c) l' ∧ Turned (fun b => b = g) w w') := by
  obtain ⟨hn, hnc, hcm, hBg, rest, hRC⟩ := rc_of h
  have eg : ∀ args w, (callFunc 41 args).run Tryz.prog w = .ok (.enter 41 args) w := enters_of Tryz.func41 (by kernel_rfl) rfl
  have hcon := AnyQ.slices_SortFunc Tryz.sortArc 2 Tryz.isAgg54 Tryz.sizeOf54 encAr (fun _ => rfl) (fun x v hv => by simp [encAr] at hv; rcases hv with rfl | rfl <;> rfl) cfA swoA 41 #[] g 0 c l.toArray w eg (fun _ _ _ _ x y => arcsC10 x y _) (rc_holds hRC) (heap_lt hRC.heap) (by simp; omega)
  have hsz : l.toArray.size = n := by rw [hn]; simp
  rw [hsz] at hcon
  refine hcon.mono ?_
  rintro e w' ⟨rfl, d, m, os, hp, hso, rfl⟩
  obtain ⟨p1, -, p3⟩ := hp
  have hds : d.size = l.length := by rw [p1]; simp
  have R := rc_sorted hRC (n := m) (os := os) hds
  have hdl : d.toList.length = n := by rw [Array.length_toList, hds, hn]
  refine ⟨rfl, d.toList, ?_, ?_, ?_, R.tur⟩
  · have e1 : (d.extract 0 n).toList = d.toList := by rw [Array.toList_extract, List.extract_eq_take_drop, List.drop_zero]; exact List.take_of_length_le (by omega)
    have e2 : (l.toArray.extract 0 n).toList = l := by rw [Array.toList_extract, List.extract_eq_take_drop, List.drop_zero]; exact List.take_of_length_le (by simp; omega)
    rw [e1, e2] at p3
    exact p3
  · rw [List.pairwise_iff_getElem]
    intro i j hi hj hij
    rw [Array.length_toList] at hi hj
    have := hso i j (Nat.zero_le _) hij (by omega)
    rw [getElem!_pos d j hj, getElem!_pos d i hi] at this
    simpa using (ltF _ _).1 this
  · have := R.owns B hBg (k := n) (by omega) hcm
    rw [List.take_of_length_le (by omega)] at this
    exact this
theorem sortArcsNil (w : World) : Calls Tryz.prog 40 #[.slice none 0 0, .func (.func 41) #[] #[]] w fun e w' => e = .returned (.tuple #[]) ∧ w' = w := AnyF.slices_SortFunc_none Tryz.sortArc none 0 _ w
end

section
open Go.RowKit Go.Maps
/-- k is told as a's head. -/
def Hd (S : List (Part Int)) (a k : Int) : Prop := (k = 0 ∧ ¬ SP S a a) ∨ (SP S a k ∧ ∀ y, SP S a y → k ≤ y)
theorem Hd.uni {S : List (Part Int)} {a k k' : Int} (h : Hd S a k) (h' : Hd S a k') : k = k' := by
  rcases h with ⟨rfl, h⟩ | ⟨h1, h2⟩
  · rcases h' with ⟨rfl, -⟩ | ⟨⟨x, q1, q2, -⟩, -⟩
    · rfl
    · exact absurd ⟨x, q1, q2, q2⟩ h
  · rcases h' with ⟨rfl, h⟩ | ⟨k1, k2⟩
    · obtain ⟨x, q1, q2, -⟩ := h1
      exact absurd ⟨x, q1, q2, q2⟩ h
    · have := h2 _ k1; have := k2 _ h1; omega
/-- An arc leads from the part of head p to that of head q. -/
def Betw (S : List (Part Int)) (Af : Int → Option (Int × Int)) (p q : Int) : Prop := ∃ e u v, okN e ∧ Af e = some (u, v) ∧ Hd S u p ∧ Hd S v q ∧ p ≠ q
def ArAns (w : World) (S : List (Part Int)) (Af : Int → Option (Int × Int)) (N : Nat) (v : Value) (w' : World) : Prop :=
  ∃ l, ABRow w.heap.size w' v l ∧ l.Pairwise lexLt ∧ (∀ p q, (p, q) ∈ l ↔ Betw S Af p q) ∧ l.length ≤ N ∧ Below w.heap.size w w'
structure CPic (w : World) (wv : Value) (l : List (Int × Int)) (W : World) : Prop where
  bel : Below w.heap.size w W
  row : ABRow w.heap.size W wv l
section
variable {w W W' : World} {wv : Value} {l : List (Int × Int)}
theorem CPic.below (h : CPic w wv l W) (hb : Below W.heap.size W W') : CPic w wv l W' :=
  ⟨h.bel.trans (hb.mono h.bel.size), abrow_kept h.row (fun b e => hb.block b (h.row.lt b e).2)⟩
theorem CPic.grown {r : Nat} (h : CPic w wv l W) (hg : W.grownBy W' (some r)) (hr : w.heap.size ≤ r) (hn : wv.ownBlock ≠ some r) : CPic w wv l W' := by
  have hk : ∀ k, k < W.heap.size → k ≠ r → W'.heap[k]? = W.heap[k]? := fun k h1 h2 => hg.block k h1 (fun e => h2 (Option.some.inj e))
  have hs := h.bel.size
  refine ⟨⟨hg.os.trans h.bel.os, hg.tape.trans h.bel.tape, hg.output.trans h.bel.output, Nat.le_trans hs hg.size, fun k h1 => ?_⟩, abrow_kept h.row (fun b e => hk b (h.row.lt b e).2 (fun q => hn (by rw [← q]; exact e)))⟩
  rw [hk k (by omega) (by omega)]
  exact h.bel.block k h1
theorem CPic.turned {g : Nat} (h : CPic w wv l W) (ht : Turned (fun b => b = g) W W') (hg : w.heap.size ≤ g) : Below w.heap.size w W' := by
  have hs := h.bel.size
  refine ⟨ht.os.trans h.bel.os, ht.tape.trans h.bel.tape, ht.output.trans h.bel.output, Nat.le_trans hs ht.size, fun k h1 => ?_⟩
  rw [ht.block k (by omega) (by omega)]
  exact h.bel.block k h1
theorem CPic.app (h : CPic w wv l W) (u x : Int) (hl : l.length ≤ 900000) :
    ∃ a' n' c' w', (∀ ty, (Builtin.append_ #[50, 50] ty #[wv, .slice (some ⟨W.heap.size, 0, none⟩) 1 1]).run Tryz.prog (W.alloc (oArc u x)) = .ok (.slice a' n' c') w') ∧ CPic w (.slice a' n' c') (l ++ [(u, x)]) w' ∧ W.heap.size ≤ w'.heap.size ∧ (∀ k, k < W.heap.size → wv.ownBlock ≠ some k → w'.heap[k]? = W.heap[k]?) ∧ ∀ b, (Value.slice a' n' c').ownBlock = some b → wv.ownBlock = some b ∨ W.heap.size ≤ b := by
  have hb := below_new W (oArc u x)
  have h2 := h.below hb
  have hcc := cellsArc (heap_alloc_new W (oArc u x))
  obtain ⟨a', n', c', w', r, g1, g2, g3⟩ := run_appA (ad := ⟨W.heap.size, 0, none⟩) (c := 1) (l2 := [(u, x)]) h2.row h2.bel.size (fun j y hj => by
    rw [add_off10, Nat.zero_add]
    match j, hj with
    | 0, hj => injection hj with hj; rw [← hj]; exact hcc.1
    | 1, hj => injection hj with hj; rw [← hj]; exact hcc.2.1
    | j + 2, hj => simp [encA] at hj) (by simp; omega)
  have hs := hb.size
  refine ⟨a', n', c', w', r, ⟨⟨g2.os.trans h2.bel.os, g2.tape.trans h2.bel.tape, g2.output.trans h2.bel.output, Nat.le_trans h2.bel.size g2.size, fun k h1 => ?_⟩, g1⟩, Nat.le_trans hs g2.size, fun k h1 hk => (g2.block k (by omega) hk).trans (hb.block k h1), fun b e => (g3 b e).imp id (fun q => by omega)⟩
  rw [g2.block k (Nat.lt_of_lt_of_le h1 h2.bel.size) (fun e => by have := (h2.row.lt k e).1; omega)]
  exact h2.bel.block k h1
end
/-- In the midst of the map of arcs. -/
def KIn (w : World) (S : List (Part Int)) (Af : Int → Option (Int × Int)) (ma r n : Nat) (wv : Value) (kk : Nat) (W : World) : Prop :=
  ∃ l left, CPic w wv l W ∧ RangeG edA rdA (0, 0) ma r Af n left kk W ∧ wv.ownBlock ≠ some r ∧ r < W.heap.size ∧ (∀ p q, (p, q) ∈ l → Betw S Af p q) ∧ (∀ e u v p q, okN e → left e = false → Af e = some (u, v) → Hd S u p → Hd S v q → p ≠ q → (p, q) ∈ l) ∧ l.length + kk ≤ n
set_option maxHeartbeats 8000000 in
set_option maxRecDepth 100000 in
theorem kArcsS {L : Nat → Nat} {w : World} {c p m ma ml me : Nat} {lk : Int} {S : List (Part Int)} {Af : Int → Option (Int × Int)} {g1 g2 : Int → Int → Option Int} {N : Nat} (h : KRaw L w c p m ma ml me lk S Af g1 g2 N) (hN : N ≤ 1000) (hV : ∀ e u v, okN e → Af e = some (u, v) → okN u ∧ okN v) :
    Calls Tryz.prog 20 #[.pointer (some ⟨c, 0, none⟩)] w fun e w' => ∃ a n c', e = .returned (.slice a n c') ∧ Hid (ArAns w S Af N (.slice a n c') w') := by
  obtain ⟨n, ha, hn⟩ := h.arcs
  obtain ⟨-, c1, -, -, -, -⟩ := cellsC h.box
  obtain ⟨w5, hrg, hR5, hgr, hsz⟩ := ha.range (t := 58) (e := 54) Tryz.underlying58
  have hb5 : Below w.heap.size w w5 := ⟨hgr.os, hgr.tape, hgr.output, hgr.size, fun k hk => hgr.block k hk (by simp)⟩
  obtain ⟨r, hr⟩ : ∃ r, r = w.heap.size := ⟨_, rfl⟩
  have hma : ma < r := by rw [hr]; exact ha.lt
  have HI0 : Hid (KIn w S Af ma r n (.slice none 0 0) n w5) := by
    refine ⟨[], _, ⟨hb5, ⟨rfl, .inl ⟨rfl, rfl⟩⟩⟩, by rw [hr]; exact hR5, (fun e => by cases e), by omega, (fun p q hm => by cases hm), (fun e u v p q he hl hg => ?_), by simp⟩
    rw [hg] at hl; cases hl
  have HK : Hid (∀ W, Below w.heap.size w W → W.heap[c]? = some (oC p ma ml me lk) ∧ PAtN W p m S) := fun W hb => ⟨(hb.block c (heap_lt h.box)).trans h.box, h.at_.kept (fun k hk => hb.block k (h.at_.lt hk))⟩
  have HX : Hid (n ≤ N ∧ N ≤ 1000 ∧ (∀ e u v, okN e → Af e = some (u, v) → okN u ∧ okN v) ∧ r = w.heap.size ∧ ma < r) := ⟨hn, hN, hV, hr, hma⟩
  have HHR := hide hr
  clear h hN hV ha hn hR5 hgr hsz hb5 hma hr
  go_enter Tryz.func20, Tryz.ntmps20
  go_upto_region 3 with fail
  rw [← unhide HHR]
  clear hrg c1 HHR
  go_loopg [3] n (fun kk s3 W => ∃ (wa : Option Addr) (wn wc : Nat), s3 = .slice wa wn wc ∧ Hid (KIn w S Af ma r n (.slice wa wn wc) kk W))
  case atStart => exact ⟨_, _, _, rfl, unhide HI0⟩
  case round =>
    obtain ⟨wa2, wn2, wc2, rfl, hR⟩ := hrel
    clear HI0
    obtain ⟨l2, left, hA, hRg, hwr, hrl, i1, i3, i4⟩ := unhide hR
    obtain ⟨y1, y2, y3, y4, y5⟩ := unhide HX
    rcases hRg.next kitA 0 with ⟨hc0, hall, hrun⟩ | ⟨e, ⟨u, v⟩, w6, c6, hoe, hle, hge, hrun, hen, hRg6, hlt, hgr, hsz⟩
    · have HT : Hid (∀ p q, (p, q) ∈ l2 ↔ Betw S Af p q) := fun p q => ⟨i1 p q, fun ⟨e, u, v, b1, b2, b3, b4, b5⟩ => i3 e u v p q b1 (hall e b1) b2 b3 b4 b5⟩
      have HL : Hid (l2.length ≤ N ∧ l2.length ≤ 1000) := ⟨by omega, by omega⟩
      have HA := hide hA
      clear hR hA hRg hwr hrl i1 i3 i4 y1 y2 y3 y4 y5 hall hc0
      rcases (unhide HA).row.2 with ⟨q1, q2⟩ | ⟨g, cap, cur, q1, q2, -⟩
      · injection q1 with q1 q3 q4
        subst q1 q3 q4
        have CS := hide (sortArcsNil wr)
        have CC := hide (compactNil wr)
        have HE : Hid (ArAns w S Af N (.slice none 0 0) wr) := by
          have e0 := List.length_eq_zero_iff.1 q2
          subst e0
          exact ⟨[], (unhide HA).row, List.Pairwise.nil, unhide HT, by simp, (unhide HA).bel⟩
        clear HA HT HL q2
        go_wp2_with fail
        refine (unhide CS).mono ?_
        rintro e7 w7 ⟨rfl, rfl⟩
        go_wp2_with fail
        refine (unhide CC).mono ?_
        rintro e8 w8 ⟨rfl, rfl⟩
        go_wp2_with fail
        go_ret
        exact ⟨_, _, _, rfl, unhide HE⟩
      · injection q1 with q1 q3 q4
        subst q1 q3 q4
        have CS := hide (sortArcsS (unhide HA).row (by have := (unhide HL).2; omega))
        have HG := hide q2
        clear q2
        go_wp2_with fail
        refine (unhide CS).mono ?_
        rintro e7 w7 ⟨rfl, HQ⟩
        obtain ⟨l', s1, s2, s3, s4⟩ := unhide HQ
        have CC := hide (compactS s3 (by have := (unhide HL).2; have := s1.length_eq; omega))
        have HS : Hid (l'.Perm l2 ∧ l'.Pairwise (fun a b => ¬ lexLt b a) ∧ Below w.heap.size w w7 ∧ ABRow w.heap.size w7 (.slice (some ⟨g, 0, none⟩) l2.length wc2) l') := ⟨s1, s2, (unhide HA).turned s4 (unhide HG), s3⟩
        clear CS HQ s1 s2 s3 s4 HA hrun
        go_wp2_with fail
        refine (unhide CC).mono ?_
        rintro e8 w8 ⟨k, rfl, HQ⟩
        have HE : Hid (ArAns w S Af N (.slice (some ⟨g, 0, none⟩) k wc2) w8) := by
          obtain ⟨s1, s2, s3, s4⟩ := unhide HS
          obtain ⟨t1, t2⟩ := unhide HQ
          refine ⟨ded l', t1, ded_rise s2, fun p q => ?_, ?_, (CPic.mk s3 s4).turned t2 (unhide HG)⟩
          · rw [ded_mem, s1.mem_iff]; exact unhide HT p q
          · have := ded_len l'; have := s1.length_eq; have := (unhide HL).1; omega
        clear CC HQ HS HT HL HG
        go_wp2_with fail
        go_ret
        exact ⟨_, _, _, rfl, unhide HE⟩
    · replace hrun : (Instr.next (.pointer (some ⟨r, 0, none⟩)) false 0).run Tryz.prog wr = .ok (.tuple #[.bool true, .int .i64 e, .agg #[.int .i64 u, .int .i64 v]]) w6 := hrun
      replace hen : (Instr.entry (.pointer (some ⟨r, 0, none⟩))).run Tryz.prog w6 = .ok (.tuple #[.int .i64 e, .agg #[.int .i64 u, .int .i64 v]]) w6 := hen
      obtain ⟨hou, hov⟩ := y3 e u v hoe hge
      have hA6 := hA.grown hgr (by omega) hwr
      have hb7 := below_new w6 (oArc u v)
      have hA7 := hA6.below hb7
      have HC6 := hide hlt
      have HOK : Hid (okN u ∧ okN v) := ⟨hou, hov⟩
      have HA7 := hide hA7
      have HM : Hid (∃ left, RangeG edA rdA (0, 0) ma r Af n left c6 (w6.alloc (oArc u v)) ∧ (Value.slice wa2 wn2 wc2).ownBlock ≠ some r ∧ r < (w6.alloc (oArc u v)).heap.size ∧ (∀ p q, (p, q) ∈ l2 → Betw S Af p q) ∧ (∀ e' u' v' p q, okN e' → left e' = false → Af e' = some (u', v') → Hd S u' p → Hd S v' q → p ≠ q → (p, q) ∈ l2 ∨ (u' = u ∧ v' = v)) ∧ l2.length + c6 + 1 ≤ n ∧ okN e ∧ Af e = some (u, v)) := by
        have hs7 := hb7.size
        refine ⟨_, hRg6.same (hb7.block ma (by omega)) (hb7.block r (by omega)), hwr, by omega, i1, fun e' u' v' p q he hl hg hp hq hne => ?_, by omega, hoe, hge⟩
        by_cases z : e' = e
        · subst z
          have := Option.some.inj (hg.symm.trans hge)
          injection this with z1 z2
          exact .inr ⟨z1, z2⟩
        · rw [decide_eq_true z, Bool.and_true] at hl
          exact .inl (i3 e' u' v' p q he hl hg hp hq hne)
      clear hR hA hRg hwr hrl i1 i3 i4 y1 y2 y3 y4 y5 hoe hle hge hRg6 hlt hgr hsz hou hov hA6 hb7 hA7
      go_upto_region 5 with fail
      change Code.wp _ _ _ _ (w6.alloc (oArc u v))
      obtain ⟨b0, b1, -⟩ := cellsArc (heap_alloc_new w6 (oArc u v))
      clear hrun hen
      generalize w6.alloc (oArc u v) = w7 at *
      generalize w6.heap.size = ab at *
      obtain ⟨k1, k2⟩ := unhide HK w7 (unhide HA7).bel
      have CU := hide (kHeadS k1 k2 (unhide HOK).1)
      have CV := hide (kHeadS k1 k2 (unhide HOK).2)
      clear k1 k2
      go_wp2_with fail
      refine (unhide CU).mono ?_
      rintro e8 w8 ⟨pu, tu, rfl, HQ⟩
      obtain ⟨hpu, hw8⟩ := unhide HQ
      subst hw8
      have HPU : Hid (Hd S u pu) := hpu.imp (fun q => q.2) (fun q => q.2)
      clear CU HQ hpu b0
      go_wp2_with fail
      refine (unhide CV).mono ?_
      rintro e9 w9 ⟨pv, tv, rfl, HQ⟩
      obtain ⟨hpv, hw9⟩ := unhide HQ
      subst hw9
      have HPV : Hid (Hd S v pv) := hpv.imp (fun q => q.2) (fun q => q.2)
      clear CV HQ hpv b1
      obtain ⟨left, m1, m2, m3, m4, m5, m6, m7, m8⟩ := unhide HM
      by_cases hpq : pu = pv
      · subst hpq
        have HD : Hid (KIn w S Af ma r n (.slice wa2 wn2 wc2) c6 w9) := by
          refine ⟨l2, left, unhide HA7, m1, m2, m3, m4, fun e' u' v' p q he hl hg hp hq hne => ?_, by omega⟩
          rcases m5 e' u' v' p q he hl hg hp hq hne with z | ⟨rfl, rfl⟩
          · exact z
          · exact absurd ((hp.uni (unhide HPU)).trans ((unhide HPV).uni hq)) hne
        clear HM HPU HPV HA7 m1 m2 m3 m4 m5 m6 m7 m8
        go_wp2_with fail
        go_roundg c6
        case measure => exact unhide HC6
        case rel => exact ⟨_, _, _, rfl, HD⟩
      · have z5 : (pu == pv) = false := by simpa using hpq
        have hl9 : l2.length ≤ 900000 := by have := (unhide HX).1; have := (unhide HX).2.1; omega
        obtain ⟨a', n', c', w10, r10, hA10, t1, t2, t3⟩ := (unhide HA7).app pu pv hl9
        have HD : Hid (KIn w S Af ma r n (.slice a' n' c') c6 w10) := by
          have hmr := (unhide HX).2.2.2.2
          have hwm : (Value.slice wa2 wn2 wc2).ownBlock ≠ some ma := fun z => by
            have := ((unhide HA7).row.lt ma z).1
            have := (unhide HX).2.2.2.1
            omega
          refine ⟨l2 ++ [(pu, pv)], left, hA10, m1.same (t2 ma (by omega) hwm) (t2 r m3 m2), fun z => ?_, by omega, fun p q hm => ?_, fun e' u' v' p q he hl hg hp hq hne => ?_, by rw [List.length_append]; show l2.length + 1 + c6 ≤ _; omega⟩
          · rcases t3 r z with z | z
            · exact m2 z
            · omega
          · rcases List.mem_append.1 hm with hm | hm
            · exact m4 p q hm
            · have hm := List.mem_singleton.1 hm
              injection hm with q1 q2
              subst q1 q2
              exact ⟨e, u, v, m7, m8, unhide HPU, unhide HPV, hpq⟩
          · rcases m5 e' u' v' p q he hl hg hp hq hne with z | ⟨rfl, rfl⟩
            · exact List.mem_append.2 (.inl z)
            · rw [hp.uni (unhide HPU), hq.uni (unhide HPV)]
              exact List.mem_append.2 (.inr (List.mem_singleton.2 rfl))
        have HR10 := hide r10
        clear HM HPU HPV HA7 m1 m2 m3 m4 m5 m6 m7 m8 hl9 r10 hA10 t1 t2 t3
        go_wp2_with (at_builtin; refine Lib.wpList_append_run _ rfl _ _ 50 50 rfl _ _ rfl rfl _ _ (unhide HR10 _) ?_)
        go_roundg c6
        case measure => exact unhide HC6
        case rel => exact ⟨_, _, _, rfl, HD⟩
end

section
open Go.RowKit Go.Maps
theorem abr_some {B : Nat} {w : World} {a : Option Addr} {n c : Nat} {l : List (Int × Int)} (h : ABRow B w (.slice a n c) l) (h0 : 0 < l.length) : ∃ g, a = some ⟨g, 0, none⟩ := by
  rcases h.2 with ⟨-, e⟩ | ⟨g, cap, cur, e, -⟩
  · omega
  · exact ⟨g, by injection e⟩
set_option maxHeartbeats 4000000 in
set_option maxRecDepth 100000 in
theorem sameArcsS {B1 B2 : Nat} {w : World} {v1 v2 : Value} {l : List (Int × Int)} (h1 : ABRow B1 w v1 l) (h2 : ABRow B2 w v2 l) (hl : l.length ≤ 1000000) :
    Calls Tryz.prog 19 #[v1, v2] w fun e w' => e = .returned (.bool true) ∧ ∃ q, w' = w.drewN q := by
  obtain ⟨x1, c1, e1, -⟩ := abrow_shape h1
  obtain ⟨x2, c2, e2, -⟩ := abrow_shape h2
  obtain ⟨n, hn⟩ : ∃ n, n = l.length := ⟨_, rfl⟩
  rw [← hn] at e1 e2
  have HN : Hid (n = l.length ∧ n ≤ 1000000) := ⟨hn, by omega⟩
  have HC := hide (And.intro h1 h2)
  clear h1 h2 hl hn
  subst e1 e2
  go_enter Tryz.func19, Tryz.ntmps19
  go_wp2_with fail
  go_loopw [13] (fun s13 wr => ∃ i q : Nat, s13 = .int .i64 (i : Nat) ∧ wr = w.drewN q ∧ i ≤ n) (fun s13 _ => n - (intOf s13).toNat)
  case atStart => exact ⟨0, 0, rfl, rfl, Nat.zero_le _⟩
  case round =>
    obtain ⟨i, q, rfl, hwr, hi⟩ := hrel
    obtain ⟨l1, l3⟩ := unhide HN
    by_cases hlt : i < n
    · obtain ⟨x, hx⟩ : ∃ x, l[i]? = some x := ⟨_, List.getElem?_eq_getElem (by omega)⟩
      obtain ⟨g1, hg1⟩ := abr_some (unhide HC).1 (by omega)
      subst hg1
      obtain ⟨g2, hg2⟩ := abr_some (unhide HC).2 (by omega)
      subst hg2
      obtain ⟨k1, k2⟩ := arow_at (abrow_low (unhide HC).1 (Nat.zero_le _)) hx
      obtain ⟨k3, k4⟩ := arow_at (abrow_low (unhide HC).2 (Nat.zero_le _)) hx
      replace k1 : wr.cell? ⟨g1, i * 2, none⟩ = some (.int .i64 x.1) := by rw [hwr]; exact k1
      replace k2 : wr.cell? ⟨g1, i * 2 + 1, none⟩ = some (.int .i64 x.2) := by rw [hwr]; exact k2
      replace k3 : wr.cell? ⟨g2, i * 2, none⟩ = some (.int .i64 x.1) := by rw [hwr]; exact k3
      replace k4 : wr.cell? ⟨g2, i * 2 + 1, none⟩ = some (.int .i64 x.2) := by rw [hwr]; exact k4
      have z1 : (i : Int) < (n : Int) := by omega
      have hq : ∀ W : World, (Op.equalIn 10000 54 (.agg #[.int .i64 x.1, .int .i64 x.2]) (.agg #[.int .i64 x.1, .int .i64 x.2])).run Tryz.prog W = .ok true W := fun W => by rw [eqA x x W, decide_eq_true rfl]
      obtain ⟨i1, hi1⟩ : ∃ i1, i1 = i + 1 := ⟨_, rfl⟩
      have zw : Hid (wrap64 ((i : Int) + 1) = (i1 : Int)) := by show wrap64 ((i : Int) + 1) = (i1 : Int); unfold wrap64; omega
      have HJ : Hid (i1 ≤ n ∧ n - i1 < n - i) := ⟨by omega, by omega⟩
      have HWR := hide hwr
      clear hx hi1 hlt hi l1 l3 hwr
      go_upto_region 6 with fail
      refine wp_region_noPanic ?_
      refine regionL [] (fun y => y.cell? ⟨g1, i * 2, none⟩ = some (.int .i64 x.1) ∧ y.cell? ⟨g1, i * 2 + 1, none⟩ = some (.int .i64 x.2) ∧ y.cell? ⟨g2, i * 2, none⟩ = some (.int .i64 x.1) ∧ y.cell? ⟨g2, i * 2 + 1, none⟩ = some (.int .i64 x.2)) (by kernel_rfl) ⟨k1, k2, k3, k4⟩ (fun hHeld => ?_)
      refine takeL (i := 0) (v := ?t2v0) (some 16) rfl rfl (by kernel_rfl) (by kernel_rfl) (by kernel_rfl) (by kernel_rfl) (by kernel_rfl) (fun _ _ _ h => h) (Or.inl ⟨by rfl, ?t2h0⟩) (by assumption) ?t2r0
      case t2h0 => (intro y hSu; (try dsimp only at hSu); go_simp; first | done | with_reducible rfl)
      (try simp only [Act.put, List.setIfInBounds_toArray, List.set_cons_zero, List.set_cons_succ])
      refine takeL (i := 1) (v := ?t2v1) (some 17) rfl rfl (by kernel_rfl) (by kernel_rfl) (by kernel_rfl) (by kernel_rfl) (by kernel_rfl) (fun _ _ _ h => h) (Or.inl ⟨by rfl, ?t2h1⟩) (by assumption) ?t2r1
      case t2h1 => (intro y hSu; (try dsimp only at hSu); go_simp; first | done | with_reducible rfl)
      (try simp only [Act.put, List.setIfInBounds_toArray, List.set_cons_zero, List.set_cons_succ])
      refine takeL (i := 2) (v := ?t2v2) (some 18) rfl rfl (by kernel_rfl) (by kernel_rfl) (by kernel_rfl) (by kernel_rfl) (by kernel_rfl) (fun _ _ _ h => h) (Or.inl ⟨by rfl, ?t2h2⟩) (by assumption) ?t2r2
      case t2h2 => (intro y hSu; (try dsimp only at hSu); go_simp; first | done | with_reducible rfl)
      (try simp only [Act.put, List.setIfInBounds_toArray, List.set_cons_zero, List.set_cons_succ])
      refine takeL (i := 3) (v := ?t2v3) (some 19) rfl rfl (by kernel_rfl) (by kernel_rfl) (by kernel_rfl) (by kernel_rfl) (by kernel_rfl) (fun _ _ _ h => h) (Or.inl ⟨by rfl, ?t2h3⟩) (by assumption) ?t2r3
      case t2h3 => (intro y hSu; (try dsimp only at hSu); go_simp; first | done | with_reducible rfl)
      (try simp only [Act.put, List.setIfInBounds_toArray, List.set_cons_zero, List.set_cons_succ])
      refine takeL (i := 4) (v := ?t2v4) (some 20) rfl rfl (by kernel_rfl) (by kernel_rfl) (by kernel_rfl) (by kernel_rfl) (by kernel_rfl) (fun _ _ _ h => h) (Or.inl ⟨by rfl, ?t2h4⟩) (by assumption) ?t2r4
      case t2h4 => (intro y hSu; (try dsimp only at hSu); go_simp; first | done | with_reducible rfl)
      (try simp only [Act.put, List.setIfInBounds_toArray, List.set_cons_zero, List.set_cons_succ])
      refine takeL (i := 5) (v := ?t2v5) (some 21) rfl rfl (by kernel_rfl) (by kernel_rfl) (by kernel_rfl) (by kernel_rfl) (by kernel_rfl) (fun _ _ _ h => h) (Or.inl ⟨by rfl, ?t2h5⟩) (by assumption) ?t2r5
      case t2h5 => (intro y hSu; (try dsimp only at hSu); go_simp; first | done | with_reducible rfl)
      (try simp only [Act.put, List.setIfInBounds_toArray, List.set_cons_zero, List.set_cons_succ])
      refine takeL (i := 6) (v := ?t2v6) (some 22) rfl rfl (by kernel_rfl) (by kernel_rfl) (by kernel_rfl) (by kernel_rfl) (by kernel_rfl) (fun _ _ _ h => h) (Or.inl ⟨by rfl, ?t2h6⟩) (by assumption) ?t2r6
      case t2h6 => (intro y hSu; (try dsimp only at hSu); go_simp; first | done | with_reducible rfl)
      (try simp only [Act.put, List.setIfInBounds_toArray, List.set_cons_zero, List.set_cons_succ])
      refine takeL (i := 7) (v := ?t2v7) (some 23) rfl rfl (by kernel_rfl) (by kernel_rfl) (by kernel_rfl) (by kernel_rfl) (by kernel_rfl) (fun _ _ _ h => h) (Or.inl ⟨by rfl, ?t2h7⟩) (by assumption) ?t2r7
      case t2h7 => (intro y hSu; (try dsimp only at hSu); go_simp; first | done | with_reducible rfl)
      (try simp only [Act.put, List.setIfInBounds_toArray, List.set_cons_zero, List.set_cons_succ])
      refine takeL (i := 8) (v := ?t2v8) (some 24) rfl rfl (by kernel_rfl) (by kernel_rfl) (by kernel_rfl) (by kernel_rfl) (by kernel_rfl) (fun _ _ _ h => h) (Or.inl ⟨by rfl, ?t2h8⟩) (by assumption) ?t2r8
      case t2h8 => (intro y hSu; (try dsimp only at hSu); go_simp; first | done | with_reducible rfl)
      (try simp only [Act.put, List.setIfInBounds_toArray, List.set_cons_zero, List.set_cons_succ])
      refine doneL (by kernel_rfl) ?_ _
      refine NoPanic.normal ?_
      clear k1 k2 k3 k4 hHeld hq
      go_wp2_with fail
      (try rw [unhide zw])
      exact ⟨⟨i1, q + 1, rfl, by rw [unhide HWR]; rfl, (unhide HJ).1⟩, by have := (unhide HJ).2; simp [intOf]; omega⟩
    · have z1 : ¬ (i : Int) < (n : Int) := by omega
      go_wp2_with fail
      go_ret
      exact ⟨rfl, _, rfl⟩
set_option maxHeartbeats 1000000 in
set_option maxRecDepth 100000 in
theorem kHeadsF {w : World} {c p ma ml me : Nat} {lk : Int} {Q : Value → World → Prop} (hb : w.heap[c]? = some (oC p ma ml me lk)) (h : Calls Tryz.prog 39 #[.pointer (some ⟨p, 0, none⟩)] w fun e w' => ∃ v, e = .returned v ∧ Hid (Q v w')) :
    Calls Tryz.prog 18 #[.pointer (some ⟨c, 0, none⟩)] w fun e w' => ∃ v, e = .returned v ∧ Hid (Q v w') := by
  obtain ⟨c1, -⟩ := cellsC hb
  have C := hide h
  clear h hb
  go_enter Tryz.func18, Tryz.ntmps18
  go_wp2_with fail
  refine (unhide C).mono ?_
  rintro e w' ⟨v, rfl, HQ⟩
  clear C c1
  go_wp2_with fail
  go_ret
  exact ⟨_, rfl, HQ⟩
def HsAns (w : World) (S : List (Part Int)) (v : Value) (w' : World) : Prop := ∃ ys : List Int, ys.Pairwise (· < ·) ∧ (∀ k, k ∈ ys ↔ ∃ x ∈ S, x.ks.headD (0 : Int) = k) ∧ BRow w.heap.size w' v ys ∧ Below w.heap.size w w'
theorem kHeadsS {L : Nat → Nat} {w : World} {c p m ma ml me : Nat} {lk : Int} {S : List (Part Int)} {Af : Int → Option (Int × Int)} {g1 g2 : Int → Int → Option Int} {N : Nat} (h : KRaw L w c p m ma ml me lk S Af g1 g2 N) (hN : N ≤ 1000) :
    Calls Tryz.prog 18 #[.pointer (some ⟨c, 0, none⟩)] w fun e w' => ∃ v, e = .returned v ∧ Hid (HsAns w S v w') := by
  have ht := h.tot_
  refine kHeadsF (Q := HsAns w S) h.box ((headsN w h.at_ (by omega)).mono ?_)
  rintro e w' ⟨v, ys, rfl, hq⟩
  obtain ⟨q1, q2, q3, q4⟩ := unhide hq
  exact ⟨v, rfl, ys, List.Pairwise.imp (fun hh => by simpa [ltN] using hh) q1, q2, q3, q4⟩
end

end Go.Proofs.YtkmhcgmmbkchaaaGreat
