/- The reference's Reached: whom a vertex reaches. -/
import Derived.Test.YtdpdghhieokcfaaRefG9
namespace Go.Proofs.Ytdpdghhieokcfaa
open Go.RowKit Go.Maps T9
/-- A row of truth values. -/
abbrev TRow (B : Nat) (w : World) (v : Value) (bs : List Bool) : Prop := w.ownsRow B 4 1 v bs.length (bs.map Value.bool)
theorem trow_kept {B : Nat} {w w' : World} {v : Value} {bs : List Bool} (h : TRow B w v bs) (hk : ∀ b, v.ownBlock = some b → w'.heap[b]? = w.heap[b]?) : TRow B w' v bs := by
  refine ⟨h.1, ?_⟩
  rcases h.2 with hn | ⟨g, cap, cur, e, hb, hgg, rest⟩
  · exact .inl hn
  · exact .inr ⟨g, cap, cur, e, hb, (hk g (by rw [e]; rfl)).trans hgg, rest⟩
theorem trow_at {B : Nat} {w : World} {g n c : Nat} {bs : List Bool} (h : TRow B w (.slice (some ⟨g, 0, none⟩) n c) bs) {j : Nat} {e : Bool} (hj : bs[j]? = some e) : w.cell? ⟨g, j, none⟩ = some (.bool e) := by
  have := h.cells (g := g) rfl j (.bool e) (by rw [List.getElem?_map, hj]; rfl)
  rwa [addr_off, Nat.zero_add] at this
theorem trow_zero {B : Nat} {w : World} {v : Value} {bs : List Bool} (h : TRow B w v bs) : TRow 0 w v bs := ⟨h.1, h.2.imp id (fun ⟨g, cap, cur, e, _, r⟩ => ⟨g, cap, cur, e, Nat.zero_le _, r⟩)⟩
theorem trow_low {B B' : Nat} {w : World} {v : Value} {bs : List Bool} (h : TRow B' w v bs) (hb : B ≤ B') : TRow B w v bs := ⟨h.1, h.2.imp id (fun ⟨g, cap, cur, e, q, r⟩ => ⟨g, cap, cur, e, Nat.le_trans hb q, r⟩)⟩
theorem trow_set {B : Nat} {W : World} {g n c k : Nat} {bs : List Bool} (h : TRow B W (.slice (some ⟨g, 0, none⟩) n c) bs) (x : Bool) : (∀ o, W.frozen? ⟨g, o, none⟩ = false) ∧ TRow B (W.setCell ⟨g, k, none⟩ (.bool x)) (.slice (some ⟨g, 0, none⟩) n c) (bs.set k x) := by
  rcases h.2 with ⟨e, -⟩ | ⟨g', cap, cur, e, hb, hgg, hc, hm, hs, ht⟩
  · cases e
  · obtain rfl : g = g' := by injection e with e1; injection e1 with e1; injection e1
    refine ⟨fun o => frozen_of_row W _ o _ _ hgg, by simp, .inr ⟨g, cap, _, ?_, hb, heap_setCell_same W g k cur 4 _ hgg, ?_, hm, by simpa using hs, ?_⟩⟩
    · rw [List.length_set]; exact e
    · rw [List.length_set]; exact hc
    · rw [List.length_set, Array.toList_setIfInBounds, List.take_set, ht, List.map_set]
set_option maxHeartbeats 1000000 in
set_option maxRecDepth 100000 in
theorem info4 : (Try.prog.info? 4).map (fun i => (i.zero, i.size, i.bytes)) = some (some (.bool false), 1, 1) := by kernel_rfl
theorem mkB {n : Nat} (hn : n ≤ 1000000) (w : World) : (Instr.makeSlice 61 (.int .i64 (n : Nat)) (.int .i64 (n : Nat))).run Try.prog w = .ok (.slice (some ⟨w.heap.size, 0, none⟩) n n) (w.alloc (.cells (madeCells #[.bool false] n) 4)) :=
  run_make_row' 61 4 (.bool false) 1 Try.underlying61 info4 rfl .i64 .i64 n (by omega) (by omega) w
theorem trow_made (n : Nat) (hn : n ≤ 1000000) (w : World) : TRow w.heap.size (w.alloc (.cells (madeCells #[.bool false] n) 4)) (.slice (some ⟨w.heap.size, 0, none⟩) n n) (List.replicate n false) := by
  refine ⟨by simp, .inr ⟨w.heap.size, n, madeCells #[.bool false] n, by simp, Nat.le_refl _, heap_alloc_new _ _, by simp, by unfold maxLen; omega, ?_, ?_⟩⟩
  · rw [← Array.length_toList, made_list]; simp
  · rw [made_list]; simp
/-- The search as it stands: what is marked is reached, and where it begins is marked. -/
structure Mk (nx : Nat → List Nat) (V : List Int) (s : Int) (bs : List Bool) : Prop where
  len : bs.length = V.length
  sound : ∀ j : Nat, bs[j]? = some true → ∃ p : Nat, V[p]? = some s ∧ T9.Reach nx p j
  start : ∀ p : Nat, V[p]? = some s → bs[p]? = some true
/-- Of the first k records each one's end is marked where its beginning is. -/
def Shut9 (V : List Int) (es : List EdV) (bs : List Bool) (k : Nat) : Prop := ∀ (j : Nat) (e : EdV), j < k → es[j]? = some e → bs[V.idxOf e.2.1]? = some true → bs[V.idxOf e.2.2.1]? = some true
theorem idx_at9 {V : List Int} (hs : V.Pairwise (· < ·)) {p : Nat} {x : Int} (h : V[p]? = some x) : V.idxOf x = p := by
  obtain ⟨l1, e1⟩ := List.getElem?_eq_some_iff.1 h
  have hm : x ∈ V := List.mem_of_getElem? h
  obtain ⟨l2, e2⟩ := List.getElem?_eq_some_iff.1 (idx_some hm)
  have hne := List.pairwise_iff_getElem.1 hs
  rcases Nat.lt_trichotomy (V.idxOf x) p with q | q | q
  · have := hne _ p l2 l1 q; rw [e1, e2] at this; simp at this
  · exact q
  · have := hne p _ l1 l2 q; rw [e1, e2] at this; simp at this
section
variable {V : List Int} {es : List EdV} {s : Int} {bs : List Bool}
theorem next_edge {i : Nat} {e : EdV} (h : es[i]? = some e) (hu : e.2.1 ∈ V) : V.idxOf e.2.2.1 ∈ nextOf V (arcsE es) (V.idxOf e.2.1) :=
  mem_nextOf.2 ⟨(e.2.1, e.2.2.1), List.mem_map.2 ⟨e, List.mem_of_getElem? h, rfl⟩, idx_some hu, rfl⟩
theorem Mk.mark (h : Mk (nextOf V (arcsE es)) V s bs) {i : Nat} {e : EdV} (hi : es[i]? = some e) (hu : e.2.1 ∈ V) (hm : bs[V.idxOf e.2.1]? = some true) : Mk (nextOf V (arcsE es)) V s (bs.set (V.idxOf e.2.2.1) true) := by
  refine ⟨by rw [List.length_set]; exact h.len, fun j hj => ?_, fun p hp => ?_⟩
  · by_cases q : V.idxOf e.2.2.1 = j
    · obtain ⟨p, h1, h2⟩ := h.sound _ hm
      exact ⟨p, h1, by rw [← q]; exact h2.step (next_edge hi hu)⟩
    · rw [List.getElem?_set_ne q] at hj; exact h.sound j hj
  · by_cases q : V.idxOf e.2.2.1 = p
    · rw [q, List.getElem?_set_self]; exact (by rw [h.len]; exact (List.getElem?_eq_some_iff.1 hp).1)
    · rw [List.getElem?_set_ne q]; exact h.start p hp
theorem Mk.done (h : Mk (nextOf V (arcsE es)) V s bs) (hsd : V.Pairwise (· < ·)) (hc : Shut9 V es bs es.length) : ∀ j : Nat, bs[j]? = some true ↔ ∃ p : Nat, V[p]? = some s ∧ T9.Reach (nextOf V (arcsE es)) p j := fun j => by
  refine ⟨h.sound j, fun ⟨p, h1, h2⟩ => ?_⟩
  refine Reach.closed (C := fun q => bs[q]? = some true) (fun q hq r hr => ?_) h2 (h.start p h1)
  obtain ⟨a, ha, e1, e2⟩ := mem_nextOf.1 hr
  obtain ⟨e, he, rfl⟩ := List.mem_map.1 ha
  obtain ⟨i, hi⟩ := List.mem_iff_getElem?.1 he
  have h5 : V.idxOf e.2.1 = q := idx_at9 hsd e1
  rw [← e2]
  exact hc i e (List.getElem?_eq_some_iff.1 hi).1 hi (by rw [h5]; exact hq)
end
theorem falses_set : ∀ {bs : List Bool} {i : Nat}, bs[i]? = some false → (bs.set i true).count false + 1 = bs.count false
  | [], i, h => by cases h
  | b :: bs, 0, h => by injection h with h; subst h; simp
  | b :: bs, i + 1, h => by
    have := falses_set (bs := bs) (i := i) h
    rw [List.set_cons_succ, List.count_cons, List.count_cons]; omega
def RcAns (w : World) (V : List Int) (es : List EdV) (s : Int) (e : Ending) (w' : World) : Prop := ∃ g n c bs, e = .returned (.slice (some ⟨g, 0, none⟩) n c) ∧ n = V.length ∧ TRow w.heap.size w' (.slice (some ⟨g, 0, none⟩) n c) bs ∧ bs.length = V.length ∧ (∀ j : Nat, bs[j]? = some true ↔ ∃ p : Nat, V[p]? = some s ∧ T9.Reach (nextOf V (arcsE es)) p j) ∧ Below w.heap.size w w'
/-- The row of marks; all that was there when it was made stands. -/
def RP (wb : World) (gi n : Nat) (bs : List Bool) (W : World) : Prop := TRow wb.heap.size W (.slice (some ⟨gi, 0, none⟩) n n) bs ∧ Below wb.heap.size wb W
theorem RP.below {wb W W' : World} {gi n : Nat} {bs : List Bool} (h : RP wb gi n bs W) (hb : Below W.heap.size W W') : RP wb gi n bs W' := ⟨trow_kept h.1 (fun b e => hb.block b (h.1.lt b e).2), h.2.trans (hb.mono h.2.size)⟩
theorem RP.set {wb W : World} {gi n k : Nat} {bs : List Bool} (h : RP wb gi n bs W) (x : Bool) : (∀ o, W.frozen? ⟨gi, o, none⟩ = false) ∧ RP wb gi n (bs.set k x) (W.setCell ⟨gi, k, none⟩ (.bool x)) := by
  obtain ⟨f, r⟩ := trow_set (k := k) h.1 x
  have ht : Turned (fun b => b = gi) W (W.setCell ⟨gi, k, none⟩ (.bool x)) := setCells_turned (S := fun b => b = gi) gi rfl [.bool x] k W
  exact ⟨f, r, h.2.trans (ht.below h.2.size (fun b e => by rw [e]; exact (h.1.lt gi rfl).1))⟩
/-- What is read of the graph in a round. -/
def SeenE (gb g2 i : Nat) (vv ev : Value) (rd wr : Int) (u x : Int) (y : World) : Prop := (y.cell? ⟨gb, 0, none⟩ = some vv ∧ y.cell? ⟨gb, 1, none⟩ = some ev ∧ y.cell? ⟨gb, 2, none⟩ = some (.int .i64 rd) ∧ y.cell? ⟨gb, 3, none⟩ = some (.int .i64 wr)) ∧ y.cell? ⟨g2, i * 4 + 1, none⟩ = some (.int .i64 u) ∧ y.cell? ⟨g2, i * 4 + 2, none⟩ = some (.int .i64 x)
set_option maxHeartbeats 8000000 in
set_option maxRecDepth 100000 in
theorem reachedS {w : World} {vv ev : Value} {rd wr_ s : Int} {V : List Int} {es : List EdV} (h : NRow w vv V) (he : ERow 0 w ev es) (hs : V.Pairwise (· < ·)) (hok : okArcs V (arcsE es)) (hl : V.length ≤ 100000) (hl2 : es.length ≤ 100000) :
    Calls Try.prog 39 #[.agg #[vv, ev, .int .i64 rd, .int .i64 wr_], .int .i64 s] w fun e w' => Hid (RcAns w V es s e w') := by
  have hb := below_new w (oGr vv ev rd wr_)
  have hbx := heap_alloc_new w (oGr vv ev rd wr_)
  have h1 := nrow_below h hb
  have h2 := erow_below he hb
  obtain ⟨a, c, hvv, -⟩ := brow_shape h1
  obtain ⟨ea, ec, hev, -⟩ := erow_shape h2
  obtain ⟨n, hn⟩ : ∃ n, n = V.length := ⟨_, rfl⟩
  obtain ⟨m, hm⟩ : ∃ m, m = es.length := ⟨_, rfl⟩
  rw [← hn] at hvv
  rw [← hm] at hev
  subst hvv hev
  have HB : Hid (Below w.heap.size w (w.alloc (oGr (.slice a n c) (.slice ea m ec) rd wr_)) ∧ (w.alloc (oGr (.slice a n c) (.slice ea m ec) rd wr_)).heap[w.heap.size]? = some (oGr (.slice a n c) (.slice ea m ec) rd wr_) ∧ NRow (w.alloc (oGr (.slice a n c) (.slice ea m ec) rd wr_)) (.slice a n c) V ∧ ERow 0 (w.alloc (oGr (.slice a n c) (.slice ea m ec) rd wr_)) (.slice ea m ec) es) := ⟨hb, hbx, h1, h2⟩
  have HN : Hid (n = V.length ∧ n ≤ 100000 ∧ m = es.length ∧ m ≤ 100000 ∧ V.Pairwise (· < ·) ∧ okArcs V (arcsE es)) := ⟨hn, by omega, hm, by omega, hs, hok⟩
  clear h h1 h2 hb hbx he hl hl2 hn hm hs hok
  go_enter Try.func39, Try.ntmps39
  go_upto_region 1 with fail
  change Code.wp _ _ _ _ (w.alloc (oGr (.slice a n c) (.slice ea m ec) rd wr_))
  generalize w.alloc (oGr (.slice a n c) (.slice ea m ec) rd wr_) = wb at *
  obtain ⟨gb, hgb⟩ : ∃ gb, gb = w.heap.size := ⟨_, rfl⟩
  have HGB := hide hgb
  rw [← hgb] at HB ⊢
  clear hgb
  have HC : Hid (∀ W, Below wb.heap.size wb W → W.cell? ⟨gb, 0, none⟩ = some (.slice a n c) ∧ W.cell? ⟨gb, 1, none⟩ = some (.slice ea m ec) ∧ W.cell? ⟨gb, 2, none⟩ = some (.int .i64 rd) ∧ W.cell? ⟨gb, 3, none⟩ = some (.int .i64 wr_)) := fun W hW => by
    have q := (hW.block gb (heap_lt (unhide HB).2.1)).trans (unhide HB).2.1
    obtain ⟨d0, d1, d2, d3, -⟩ := cellsGr q
    exact ⟨d0, d1, d2, d3⟩
  have k0 := (unhide HC wb (Below.refl _ _)).1
  have MK := mkB (n := n) (by have := unhide HN; omega) wb
  obtain ⟨gi, hgi⟩ : ∃ gi, gi = wb.heap.size := ⟨_, rfl⟩
  obtain ⟨w1, hw1⟩ : ∃ w1, w1 = wb.alloc (.cells (madeCells #[.bool false] n) 4) := ⟨_, rfl⟩
  have HP : Hid (RP wb gi n (List.replicate n false) w1) := by
    rw [hgi, hw1]; exact ⟨trow_made n (by have := unhide HN; omega) wb, below_new _ _⟩
  rw [← hgi, ← hw1] at MK
  have HGI := hide hgi
  clear hgi hw1
  go_upto_region 3 with fail
  clear MK k0
  go_loopw [6] (fun s6 W => ∃ (i : Nat), s6 = .int .i64 (i : Nat) ∧ i ≤ n ∧ Hid (∃ bs, RP wb gi n bs W ∧ bs.length = n ∧ ∀ j : Nat, j < i → bs[j]? = some (decide (V[j]? = some s)))) (fun s6 _ => n - (intOf s6).toNat)
  case atStart => exact ⟨0, rfl, Nat.zero_le _, _, unhide HP, by simp, fun j hj => absurd hj (Nat.not_lt_zero _)⟩
  case round =>
    obtain ⟨i, rfl, hi, hS⟩ := hrel
    clear HP
    obtain ⟨bs, hP, hbl, hbs⟩ := unhide hS
    obtain ⟨l1, l2, l3, l4, l5, l6⟩ := unhide HN
    have k0 := (unhide HC wr hP.2).1
    by_cases hlt : i < n
    · obtain ⟨y, hy⟩ : ∃ y, V[i]? = some y := ⟨_, List.getElem?_eq_getElem (by omega)⟩
      have hV := nrow_below (unhide HB).2.2.1 hP.2
      obtain ⟨g, hg⟩ := brow_some hV (by omega)
      subst hg
      have k1 := brow_at hV hy
      obtain ⟨b0, hb0⟩ : ∃ b0, bs[i]? = some b0 := ⟨_, List.getElem?_eq_getElem (by omega)⟩
      have k2 := trow_at hP.1 hb0
      obtain ⟨i1, hi1⟩ : ∃ i1, i1 = i + 1 := ⟨_, rfl⟩
      have zw : Hid (wrap64 ((i : Int) + 1) = (i1 : Int)) := by show wrap64 ((i : Int) + 1) = (i1 : Int); unfold wrap64; omega
      have HI1 := hide hi1
      have z1 : (i : Int) < (n : Int) := by omega
      have HJ : Hid (i1 ≤ n ∧ n - i1 < n - i) := ⟨by omega, by omega⟩
      obtain ⟨tv, htv⟩ : ∃ tv, tv = decide (y = s) := ⟨_, rfl⟩
      have hz : (y == s) = tv := by rw [htv]; by_cases q : y = s <;> simp [q]
      obtain ⟨fz, hP2⟩ := hP.set (k := i) tv
      have HD : Hid (∃ bs, RP wb gi n bs (wr.setCell ⟨gi, i, none⟩ (.bool tv)) ∧ bs.length = n ∧ ∀ j : Nat, j < i1 → bs[j]? = some (decide (V[j]? = some s))) := ⟨_, hP2, by rw [List.length_set]; exact hbl, fun j hj => by
        by_cases q : i = j
        · subst q
          rw [List.getElem?_set_self (by omega), htv, hy]; simp
        · rw [List.getElem?_set_ne q]; exact hbs j (by omega)⟩
      clear hP hbl hbs l1 l2 l3 l4 l5 l6 hlt hi hS hy hV hb0 hi1 htv hP2
      go_wp2_with fail
      (try rw [unhide zw])
      exact ⟨⟨i1, by first | rfl | (rw [unhide HI1]; rfl), (unhide HJ).1, by first | exact HD | (simp only [hz]; exact HD)⟩, by have := (unhide HJ).2; simp [intOf]; omega⟩
    · have z1 : ¬ (i : Int) < (n : Int) := by omega
      obtain ⟨f0, hf0⟩ : ∃ f0, f0 = bs.count false := ⟨_, rfl⟩
      have HM : Hid (∃ bs, RP wb gi n bs wr ∧ Mk (nextOf V (arcsE es)) V s bs ∧ bs.count false = f0) := by
        refine ⟨bs, hP, ⟨by omega, fun j hj => ?_, fun p hp => ?_⟩, hf0.symm⟩
        · have hj2 : j < n := by have := (List.getElem?_eq_some_iff.1 hj).1; omega
          rw [hbs j (by omega)] at hj
          have hj := Option.some.inj hj
          exact ⟨j, of_decide_eq_true hj, Reach.refl _ _⟩
        · have hj2 : p < n := by have := (List.getElem?_eq_some_iff.1 hp).1; omega
          rw [hbs p (by omega)]; simp [hp]
      clear hP hbl hbs l1 l2 l3 l4 l5 l6 hlt hi hS hf0
      go_upto_region 7 with fail
      clear z1 k0
      go_loopg [7, 8, 9, 10] (f0 + 1) (fun kk s7 s8 s9 s10 W => ∃ t : Bool, s7 = .bool t ∧ Hid (∃ bs, RP wb gi n bs W ∧ Mk (nextOf V (arcsE es)) V s bs ∧ bs.count false + t.toNat = kk ∧ (t = false → Shut9 V es bs es.length)))
      case atStart => exact ⟨true, rfl, by obtain ⟨bs, q1, q2, q3⟩ := unhide HM; exact ⟨bs, q1, q2, by rw [q3]; rfl, fun e => by cases e⟩⟩
      case round =>
        obtain ⟨t, rfl, hR⟩ := hrel
        clear HM
        obtain ⟨bs, hP, hM, hkk, hsh⟩ := unhide hR
        cases t with
        | false =>
          have HE : Hid (TRow w.heap.size wr (.slice (some ⟨gi, 0, none⟩) n n) bs ∧ bs.length = V.length ∧ (∀ j : Nat, bs[j]? = some true ↔ ∃ p : Nat, V[p]? = some s ∧ T9.Reach (nextOf V (arcsE es)) p j) ∧ Below w.heap.size w wr) := by
            have hb := (unhide HB).1
            rw [unhide HGB] at hb
            exact ⟨trow_low hP.1 (by have := hb.size; omega), hM.len, hM.done (unhide HN).2.2.2.2.1 (hsh rfl), hb.trans (hP.2.mono hb.size)⟩
          clear hP hM hkk hsh hR
          go_wp2_with fail
          go_ret
          exact ⟨gi, n, n, bs, rfl, (unhide HN).1, unhide HE⟩
        | true =>
          obtain ⟨fc, hfc⟩ : ∃ fc, fc = bs.count false := ⟨_, rfl⟩
          rw [← hfc] at hkk
          have HK := hide hkk
          have HS : Hid (∃ bs, RP wb gi n bs wr ∧ Mk (nextOf V (arcsE es)) V s bs ∧ bs.count false = fc) := ⟨bs, hP, hM, hfc.symm⟩
          clear hP hM hkk hsh hR hfc
          go_upto_region 10 with fail
          go_loopw [8, 7, 9, 10] (fun s8 s7 s9 s10 W => ∃ (k : Nat) (t : Bool), s8 = .int .i64 (k : Nat) ∧ s7 = .bool t ∧ k ≤ m ∧ Hid (∃ bs, RP wb gi n bs W ∧ Mk (nextOf V (arcsE es)) V s bs ∧ bs.count false + t.toNat ≤ fc ∧ (t = false → Shut9 V es bs k))) (fun s8 _ _ _ _ => m - (intOf s8).toNat)
          case atStart => exact ⟨0, false, rfl, rfl, Nat.zero_le _, by obtain ⟨bs, q1, q2, q3⟩ := unhide HS; exact ⟨bs, q1, q2, by rw [q3]; exact Nat.le_refl _, fun _ j e hj => absurd hj (Nat.not_lt_zero _)⟩⟩
          case round =>
            obtain ⟨k, t, rfl, rfl, hk, hR⟩ := hrel
            clear HS
            obtain ⟨bs, hP, hM, hle, hsh⟩ := unhide hR
            obtain ⟨l1, l2, l3, l4, l5, l6⟩ := unhide HN
            by_cases hlt : k < m
            · obtain ⟨⟨en, u, x, ew⟩, hux⟩ : ∃ e, es[k]? = some e := ⟨_, List.getElem?_eq_getElem (by omega)⟩
              obtain ⟨hu, hx⟩ : u ∈ V ∧ x ∈ V := l6 (u, x) (List.mem_map.2 ⟨_, List.mem_of_getElem? hux, rfl⟩)
              obtain ⟨g2, hg2⟩ := erow_some (unhide HB).2.2.2 (by omega)
              subst hg2
              have HSN : Hid (∀ W, Below wb.heap.size wb W → (W.cell? ⟨gb, 0, none⟩ = some (.slice a n c) ∧ W.cell? ⟨gb, 1, none⟩ = some (.slice (some ⟨g2, 0, none⟩) m ec) ∧ W.cell? ⟨gb, 2, none⟩ = some (.int .i64 rd) ∧ W.cell? ⟨gb, 3, none⟩ = some (.int .i64 wr_)) ∧ W.cell? ⟨g2, k * 4 + 1, none⟩ = some (.int .i64 u) ∧ W.cell? ⟨g2, k * 4 + 2, none⟩ = some (.int .i64 x)) := fun W hW => by
                obtain ⟨-, e2, e3, -⟩ := erow_at (erow_below (unhide HB).2.2.2 hW) hux
                exact ⟨unhide HC W hW, e2, e3⟩
              obtain ⟨pu, hpu⟩ : ∃ pu, pu = V.idxOf u := ⟨_, rfl⟩
              obtain ⟨px, hpx⟩ : ∃ px, px = V.idxOf x := ⟨_, rfl⟩
              have CP : Hid (∀ (y : Int) (py : Nat) (W : World), y ∈ V → py = V.idxOf y → RP wb gi n bs W → Calls Try.prog 26 #[.agg #[.slice a n c, .slice (some ⟨g2, 0, none⟩) m ec, .int .i64 rd, .int .i64 wr_], .int .i64 y] W fun e w' => e = .returned (.int .i64 (py : Nat)) ∧ Hid (RP wb gi n bs w')) := fun y py W hy hpy hW => by
                refine (placeS (nrow_below (unhide HB).2.2.1 hW.2) l5 (by omega)).mono (fun e w' hh => ⟨?_, hW.below hh.2⟩)
                have : placeOf V y = (py : Int) := by unfold placeOf; rw [if_pos hy, hpy]
                rw [hh.1, this]
              have hpl : pu < n ∧ px < n := by
                rw [hpu, hpx, l1]; exact ⟨List.idxOf_lt_length_of_mem hu, List.idxOf_lt_length_of_mem hx⟩
              obtain ⟨bu, hbu⟩ : ∃ b, bs[pu]? = some b := ⟨_, List.getElem?_eq_getElem (by rw [hM.len]; omega)⟩
              obtain ⟨bx, hbx⟩ : ∃ b, bs[px]? = some b := ⟨_, List.getElem?_eq_getElem (by rw [hM.len]; omega)⟩
              have hd := unhide HSN wr hP.2
              obtain ⟨⟨d0, d1, d2, d3⟩, d4, d5⟩ := hd
              have hPd : Hid (RP wb gi n bs wr.drew) := hP.below ⟨rfl, rfl, rfl, Nat.le_refl _, fun _ _ => rfl⟩
              have z1 : (k : Int) < (m : Int) := by omega
              obtain ⟨k1, hk1⟩ : ∃ k1, k1 = k + 1 := ⟨_, rfl⟩
              have zw : Hid (wrap64 ((k : Int) + 1) = (k1 : Int)) := by show wrap64 ((k : Int) + 1) = (k1 : Int); unfold wrap64; omega
              have HI1 := hide hk1
              have HJ : Hid (k1 ≤ m ∧ m - k1 < m - k) := ⟨by omega, by omega⟩
              have HU : Hid (u ∈ V ∧ pu = V.idxOf u) := ⟨hu, hpu⟩
              have HX : Hid (x ∈ V ∧ px = V.idxOf x) := ⟨hx, hpx⟩
              have z2 : (pu : Int) < (n : Int) := by omega
              have z3 : (px : Int) < (n : Int) := by omega
              have HQ : Hid (∀ W, RP wb gi n bs W → W.cell? ⟨gi, pu, none⟩ = some (.bool bu) ∧ W.cell? ⟨gi, px, none⟩ = some (.bool bx) ∧ (bu = true ∧ bx = false → (∀ o, W.frozen? ⟨gi, o, none⟩ = false) ∧ ∃ bs, RP wb gi n bs (W.setCell ⟨gi, px, none⟩ (.bool true)) ∧ Mk (nextOf V (arcsE es)) V s bs ∧ bs.count false + (true).toNat ≤ fc ∧ (true = false → Shut9 V es bs k1)) ∧ (¬ (bu = true ∧ bx = false) → ∃ bs, RP wb gi n bs W ∧ Mk (nextOf V (arcsE es)) V s bs ∧ bs.count false + t.toNat ≤ fc ∧ (t = false → Shut9 V es bs k1))) := fun W hW => by
                refine ⟨trow_at hW.1 hbu, trow_at hW.1 hbx, fun ⟨q1, q2⟩ => ?_, fun q => ?_⟩
                · obtain ⟨f, r⟩ := hW.set (k := px) true
                  refine ⟨f, _, r, ?_, ?_, fun e => by cases e⟩
                  · rw [hpx]; exact hM.mark hux hu (by rw [← hpu, hbu, q1])
                  · have := falses_set (bs := bs) (i := px) (by rw [hbx, q2])
                    have h7 : bs.count false ≤ fc := Nat.le_trans (Nat.le_add_right _ _) hle
                    show _ + 1 ≤ fc
                    omega
                · refine ⟨bs, hW, hM, hle, fun e j z hj hz => ?_⟩
                  by_cases q3 : j = k
                  · subst q3
                    rw [hux] at hz
                    injection hz with hz
                    subst hz
                    show bs[V.idxOf u]? = some true → bs[V.idxOf x]? = some true
                    rw [← hpu, ← hpx, hbu, hbx]
                    intro q4
                    injection q4 with q4
                    cases hb : bx with
                    | true => rfl
                    | false => exact absurd ⟨q4, hb⟩ q
                  · exact hsh e j z (by omega) hz
              clear hM hle hsh l1 l2 l3 l4 l5 l6 hlt hk hR hux hu hx hpu hpx hpl hbu hbx hk1 hP
              go_upto_region 12 with fail
              refine wp_region_noPanic ?_
              refine regionL [] (fun y => (y.cell? ⟨gb, 0, none⟩ = some (.slice a n c) ∧ y.cell? ⟨gb, 1, none⟩ = some (.slice (some ⟨g2, 0, none⟩) m ec) ∧ y.cell? ⟨gb, 2, none⟩ = some (.int .i64 rd) ∧ y.cell? ⟨gb, 3, none⟩ = some (.int .i64 wr_)) ∧ y.cell? ⟨g2, k * 4 + 1, none⟩ = some (.int .i64 u) ∧ y.cell? ⟨g2, k * 4 + 2, none⟩ = some (.int .i64 x)) (by kernel_rfl) ⟨⟨d0, d1, d2, d3⟩, d4, d5⟩ (fun hHeld => ?_)
              refine takeL (i := 0) (v := ?t2v0) (some 40) rfl rfl (by kernel_rfl) (by kernel_rfl) (by kernel_rfl) (by kernel_rfl) (by kernel_rfl) (fun _ _ _ h => h) (Or.inl ⟨by rfl, ?t2h0⟩) (by assumption) ?t2r0
              case t2h0 => (intro y hSu; (try dsimp only at hSu); go_simp; first | done | with_reducible rfl)
              (try simp only [Act.put, List.setIfInBounds_toArray, List.set_cons_zero, List.set_cons_succ])
              refine takeL (i := 1) (v := ?t2v1) (some 41) rfl rfl (by kernel_rfl) (by kernel_rfl) (by kernel_rfl) (by kernel_rfl) (by kernel_rfl) (fun _ _ _ h => h) (Or.inl ⟨by rfl, ?t2h1⟩) (by assumption) ?t2r1
              case t2h1 => (intro y hSu; (try dsimp only at hSu); go_simp; first | done | with_reducible rfl)
              (try simp only [Act.put, List.setIfInBounds_toArray, List.set_cons_zero, List.set_cons_succ])
              refine takeL (i := 2) (v := ?t2v2) (some 42) rfl rfl (by kernel_rfl) (by kernel_rfl) (by kernel_rfl) (by kernel_rfl) (by kernel_rfl) (fun _ _ _ h => h) (Or.inl ⟨by rfl, ?t2h2⟩) (by assumption) ?t2r2
              case t2h2 => (intro y hSu; (try dsimp only at hSu); go_simp; first | done | with_reducible rfl)
              (try simp only [Act.put, List.setIfInBounds_toArray, List.set_cons_zero, List.set_cons_succ])
              refine takeL (i := 3) (v := ?t2v3) (some 43) rfl rfl (by kernel_rfl) (by kernel_rfl) (by kernel_rfl) (by kernel_rfl) (by kernel_rfl) (fun _ _ _ h => h) (Or.inl ⟨by rfl, ?t2h3⟩) (by assumption) ?t2r3
              case t2h3 => (intro y hSu; (try dsimp only at hSu); go_simp; first | done | with_reducible rfl)
              (try simp only [Act.put, List.setIfInBounds_toArray, List.set_cons_zero, List.set_cons_succ])
              refine takeL (i := 4) (v := ?t2v4) (some 44) rfl rfl (by kernel_rfl) (by kernel_rfl) (by kernel_rfl) (by kernel_rfl) (by kernel_rfl) (fun _ _ _ h => h) (Or.inl ⟨by rfl, ?t2h4⟩) (by assumption) ?t2r4
              case t2h4 => (intro y hSu; (try dsimp only at hSu); go_simp; first | done | with_reducible rfl)
              (try simp only [Act.put, List.setIfInBounds_toArray, List.set_cons_zero, List.set_cons_succ])
              refine takeL (i := 5) (v := ?t2v5) (some 45) rfl rfl (by kernel_rfl) (by kernel_rfl) (by kernel_rfl) (by kernel_rfl) (by kernel_rfl) (fun _ _ _ h => h) (Or.inl ⟨by rfl, ?t2h5⟩) (by assumption) ?t2r5
              case t2h5 => (intro y hSu; (try dsimp only at hSu); go_simp; first | done | with_reducible rfl)
              (try simp only [Act.put, List.setIfInBounds_toArray, List.set_cons_zero, List.set_cons_succ])
              refine takeL (i := 6) (v := ?t2v6) (some 46) rfl rfl (by kernel_rfl) (by kernel_rfl) (by kernel_rfl) (by kernel_rfl) (by kernel_rfl) (fun _ _ _ h => h) (Or.inl ⟨by rfl, ?t2h6⟩) (by assumption) ?t2r6
              case t2h6 => (intro y hSu; (try dsimp only at hSu); go_simp; first | done | with_reducible rfl)
              (try simp only [Act.put, List.setIfInBounds_toArray, List.set_cons_zero, List.set_cons_succ])
              refine takeL (i := 8) (v := ?t2v8) (some 48) rfl rfl (by kernel_rfl) (by kernel_rfl) (by kernel_rfl) (by kernel_rfl) (by kernel_rfl) (fun _ _ _ h => h) (Or.inl ⟨by rfl, ?t2h8⟩) (by assumption) ?t2r8
              case t2h8 => (intro y hSu; (try dsimp only at hSu); go_simp; first | done | with_reducible rfl)
              (try simp only [Act.put, List.setIfInBounds_toArray, List.set_cons_zero, List.set_cons_succ])
              refine takeL (i := 9) (v := ?t2v9) (some 49) rfl rfl (by kernel_rfl) (by kernel_rfl) (by kernel_rfl) (by kernel_rfl) (by kernel_rfl) (fun _ _ _ h => h) (Or.inl ⟨by rfl, ?t2h9⟩) (by assumption) ?t2r9
              case t2h9 => (intro y hSu; (try dsimp only at hSu); go_simp; first | done | with_reducible rfl)
              (try simp only [Act.put, List.setIfInBounds_toArray, List.set_cons_zero, List.set_cons_succ])
              refine takeL (i := 10) (v := ?t2v10) (some 50) rfl rfl (by kernel_rfl) (by kernel_rfl) (by kernel_rfl) (by kernel_rfl) (by kernel_rfl) (fun _ _ _ h => h) (Or.inl ⟨by rfl, ?t2h10⟩) (by assumption) ?t2r10
              case t2h10 => (intro y hSu; (try dsimp only at hSu); go_simp; first | done | with_reducible rfl)
              (try simp only [Act.put, List.setIfInBounds_toArray, List.set_cons_zero, List.set_cons_succ])
              refine takeL (i := 11) (v := ?t2v11) (some 51) rfl rfl (by kernel_rfl) (by kernel_rfl) (by kernel_rfl) (by kernel_rfl) (by kernel_rfl) (fun _ _ _ h => h) (Or.inl ⟨by rfl, ?t2h11⟩) (by assumption) ?t2r11
              case t2h11 => (intro y hSu; (try dsimp only at hSu); go_simp; first | done | with_reducible rfl)
              (try simp only [Act.put, List.setIfInBounds_toArray, List.set_cons_zero, List.set_cons_succ])
              refine takeL (i := 12) (v := ?t2v12) (some 52) rfl rfl (by kernel_rfl) (by kernel_rfl) (by kernel_rfl) (by kernel_rfl) (by kernel_rfl) (fun _ _ _ h => h) (Or.inl ⟨by rfl, ?t2h12⟩) (by assumption) ?t2r12
              case t2h12 => (intro y hSu; (try dsimp only at hSu); go_simp; first | done | with_reducible rfl)
              (try simp only [Act.put, List.setIfInBounds_toArray, List.set_cons_zero, List.set_cons_succ])
              refine takeL (i := 13) (v := ?t2v13) (some 53) rfl rfl (by kernel_rfl) (by kernel_rfl) (by kernel_rfl) (by kernel_rfl) (by kernel_rfl) (fun _ _ _ h => h) (Or.inl ⟨by rfl, ?t2h13⟩) (by assumption) ?t2r13
              case t2h13 => (intro y hSu; (try dsimp only at hSu); go_simp; first | done | with_reducible rfl)
              (try simp only [Act.put, List.setIfInBounds_toArray, List.set_cons_zero, List.set_cons_succ])
              refine takeL (i := 14) (v := ?t2v14) (some 54) rfl rfl (by kernel_rfl) (by kernel_rfl) (by kernel_rfl) (by kernel_rfl) (by kernel_rfl) (fun _ _ _ h => h) (Or.inl ⟨by rfl, ?t2h14⟩) (by assumption) ?t2r14
              case t2h14 => (intro y hSu; (try dsimp only at hSu); go_simp; first | done | with_reducible rfl)
              (try simp only [Act.put, List.setIfInBounds_toArray, List.set_cons_zero, List.set_cons_succ])
              refine readyL (i := 7) (by kernel_rfl) rfl (fun K hK => ?_)
              go_simp
              refine (unhide CP _ _ _ (unhide HU).1 (unhide HU).2 (unhide hPd)).mono ?_
              rintro e w4 ⟨rfl, hP4⟩
              (try dsimp only)
              refine hK.out _ _ (fun _ => (unhide HSN w4 (unhide hP4).2)) ?_
              clear hK K
              (try simp only [Act.put, List.setIfInBounds_toArray, List.set_cons_zero, List.set_cons_succ])
              have hH4 := (unhide HSN w4 (unhide hP4).2)
              refine readyL (i := 15) (by kernel_rfl) rfl (fun K hK => ?_)
              go_simp
              refine (unhide CP _ _ _ (unhide HX).1 (unhide HX).2 (unhide hP4)).mono ?_
              rintro e w5 ⟨rfl, hP5⟩
              (try dsimp only)
              refine hK.out _ _ (fun _ => (unhide HSN w5 (unhide hP5).2)) ?_
              clear hK K
              (try simp only [Act.put, List.setIfInBounds_toArray, List.set_cons_zero, List.set_cons_succ])
              have hH6 := (unhide HSN w5 (unhide hP5).2)
              refine readyL (i := 16) (by kernel_rfl) rfl (fun K hK => ?_)
              go_simp
              refine hK.out _ _ (fun _ => (unhide HSN w5 (unhide hP5).2)) ?_
              clear hK K
              (try simp only [Act.put, List.setIfInBounds_toArray, List.set_cons_zero, List.set_cons_succ])
              have hH8 := (unhide HSN w5 (unhide hP5).2)
              refine readyL (i := 17) (by kernel_rfl) rfl (fun K hK => ?_)
              go_simp
              refine hK.out _ _ (fun _ => (unhide HSN w5 (unhide hP5).2)) ?_
              clear hK K
              (try simp only [Act.put, List.setIfInBounds_toArray, List.set_cons_zero, List.set_cons_succ])
              have hH10 := (unhide HSN w5 (unhide hP5).2)
              refine doneL (by kernel_rfl) ?_ _
              refine NoPanic.normal ?_
              obtain ⟨k2, k3, q1, q2⟩ := unhide HQ w5 (unhide hP5)
              clear hHeld d0 d1 d2 d3 d4 d5 CP HSN
              by_cases hbb : bu = true ∧ bx = false
              · obtain ⟨rfl, rfl⟩ := hbb
                obtain ⟨fz, hD⟩ := q1 ⟨rfl, rfl⟩
                have HD := hide hD
                clear q1 q2 hD HQ
                go_wp2_with fail
                (try rw [unhide zw])
                exact ⟨⟨k1, true, by first | rfl | (rw [unhide HI1]; rfl), rfl, (unhide HJ).1, HD⟩, by have := (unhide HJ).2; simp [intOf]; omega⟩
              · have HD := hide (q2 hbb)
                clear q1 q2 HQ
                cases bu with
                | false =>
                  clear hbb
                  go_wp2_with fail
                  (try rw [unhide zw])
                  exact ⟨⟨k1, t, by first | rfl | (rw [unhide HI1]; rfl), rfl, (unhide HJ).1, HD⟩, by have := (unhide HJ).2; simp [intOf]; omega⟩
                | true =>
                  cases bx with
                  | false => exact absurd ⟨rfl, rfl⟩ hbb
                  | true =>
                    clear hbb
                    go_wp2_with fail
                    (try rw [unhide zw])
                    exact ⟨⟨k1, t, by first | rfl | (rw [unhide HI1]; rfl), rfl, (unhide HJ).1, HD⟩, by have := (unhide HJ).2; simp [intOf]; omega⟩
            · have z1 : ¬ (k : Int) < (m : Int) := by omega
              have k0 := (unhide HC wr hP.2).2.1
              obtain ⟨k2, hk2⟩ : ∃ k2, k2 = bs.count false + t.toNat := ⟨_, rfl⟩
              have HD : Hid (∃ bs, RP wb gi n bs wr ∧ Mk (nextOf V (arcsE es)) V s bs ∧ bs.count false + t.toNat = k2 ∧ (t = false → Shut9 V es bs es.length)) := ⟨bs, hP, hM, hk2.symm, fun e => by have := hsh e; rwa [show k = es.length by omega] at this⟩
              have HLE : Hid (k2 ≤ fc) := by show k2 ≤ fc; omega
              clear hP hM hle hsh l1 l2 l3 l4 l5 l6 hlt hk hR hk2
              go_wp2_with fail
              go_roundg k2
              case measure => (have h1 : fc + 1 = _ := unhide HK; have h2 := unhide HLE; omega)
              case rel => exact ⟨t, rfl, HD⟩
end Go.Proofs.Ytdpdghhieokcfaa
