/- The reference's Runs. -/
import Derived.Test.YtdalghfhpekcfaaRefPut
import Derived.Deep.RegionHeld3
import Derived.BigQuiet
namespace Go.Proofs.Ytdalghfhpekcfaa
open Go.RowKit Go.Shelf

theorem cuts_nil (most : Int) : Cuts most [] [] := ⟨rise_nil, fun d hd => by simp at hd, fun d hd => by simp at hd, fun x hx => by simp at hx, fun x hx => by simp at hx⟩
/-- A deed without numbers cuts nothing. -/
theorem Cuts.empty {most : Int} {ds : List Deed} {l : List Int} {d : Deed} (h : Cuts most ds l) (hd : d.2.2 < d.2.1) : Cuts most (ds ++ [d]) l := by
  refine ⟨h.rise, fun e he h1 => ?_, fun e he h1 => ?_, h.le, h.ge⟩
  · rcases List.mem_append.1 he with he | he
    · exact h.low e he h1
    · simp at he; subst he; omega
  · rcases List.mem_append.1 he with he | he
    · exact h.high e he h1
    · simp at he; subst he; omega
theorem Cuts.one {most : Int} {ds : List Deed} {l l1 : List Int} {d : Deed} (h : Cuts most ds l) (h1 : PutIn l d.2.1 l1) (hd : d.2.1 ≤ d.2.2) (hm : d.2.2 ≤ most) (hnot : ¬ d.2.2 < most) (hge : -9223372036854775808 ≤ d.2.1) : Cuts most (ds ++ [d]) l1 := by
  refine ⟨h1.rise, fun e he g => ?_, fun e he g1 g2 => ?_, fun x hx => ?_, fun x hx => ((h1.mem x).1 hx).elim (fun e => by omega) (h.ge x)⟩
  · rcases List.mem_append.1 he with he | he
    · exact (h1.mem _).2 (.inr (h.low e he g))
    · simp at he; subst he; exact (h1.mem _).2 (.inl rfl)
  · rcases List.mem_append.1 he with he | he
    · exact (h1.mem _).2 (.inr (h.high e he g1 g2))
    · simp at he; subst he; omega
  · rcases (h1.mem x).1 hx with rfl | hx
    · omega
    · exact h.le x hx
theorem Cuts.two {most : Int} {ds : List Deed} {l l1 l2 : List Int} {d : Deed} (h : Cuts most ds l) (h1 : PutIn l d.2.1 l1) (h2 : PutIn l1 (d.2.2 + 1) l2) (hd : d.2.1 ≤ d.2.2) (hlt : d.2.2 < most) (hge : -9223372036854775808 ≤ d.2.1) : Cuts most (ds ++ [d]) l2 := by
  have hm : ∀ y, y ∈ l → y ∈ l2 := fun y hy => (h2.mem _).2 (.inr ((h1.mem _).2 (.inr hy)))
  refine ⟨h2.rise, fun e he g => ?_, fun e he g1 g2 => ?_, fun x hx => ?_, fun x hx => ((h2.mem x).1 hx).elim (fun e => by omega) (fun hx => ((h1.mem x).1 hx).elim (fun e => by omega) (h.ge x))⟩
  · rcases List.mem_append.1 he with he | he
    · exact hm _ (h.low e he g)
    · simp at he; subst he; exact (h2.mem _).2 (.inr ((h1.mem _).2 (.inl rfl)))
  · rcases List.mem_append.1 he with he | he
    · exact hm _ (h.high e he g1 g2)
    · simp at he; subst he; exact (h2.mem _).2 (.inl rfl)
  · rcases (h2.mem x).1 hx with rfl | hx
    · omega
    · rcases (h1.mem x).1 hx with rfl | hx
      · omega
      · exact h.le x hx

/-- The last run's end is written anew. -/
theorem NewR.last {B : Nat} {w0 w : World} {a : Option Addr} {n c : Nat} {rs : List (Int × Int)} {r : Int × Int} (h : NewR B w0 w (.slice a n c) (rs ++ [r])) :
    ∃ g, a = some ⟨g, 0, none⟩ ∧ n = rs.length + 1 ∧ w.cell? ⟨g, rs.length * 2 + 1, none⟩ = some (.int .i64 r.2) ∧ w.frozen? ⟨g, rs.length * 2 + 1, none⟩ = false ∧
      ∀ z, NewR B w0 (w.setCell ⟨g, rs.length * 2 + 1, none⟩ (.int .i64 z)) (.slice a n c) (rs ++ [(r.1, z)]) := by
  have hl : (rs ++ [r]).length = rs.length + 1 := by simp
  have hr := h.row
  obtain ⟨a9, c9, e9⟩ := h.shape
  have hn : n = rs.length + 1 := by
    rw [hl] at e9
    cases e9
    rfl
  subst hn
  rw [hl] at hr
  rcases hr.2 with ⟨e, h0⟩ | ⟨g, cap, cur, e, -, hg, -⟩
  · cases e
  · cases e
    have hc := owns_cells hr rs.length (by omega)
    have e1 : hi (rs ++ [r]) rs.length = r.2 := hi_snoc _ _
    rw [e1] at hc
    refine ⟨g, rfl, rfl, hc.2, frozen_of_row _ _ _ _ _ hg, fun z => ?_⟩
    obtain ⟨k1, k2⟩ := World.ownsRow.stored hr (rs.length * 2 + 1) (.int .i64 z)
    have e2 : (enc .i64 (rs ++ [r])).set (rs.length * 2 + 1) (.int .i64 z) = enc .i64 (rs ++ [(r.1, z)]) := by
      rw [enc_append, enc_append, List.set_append_right _ _ (by rw [enc_length]; omega), enc_length, show rs.length * 2 + 1 - rs.length * 2 = 1 by omega]
      simp [enc]
    rw [e2] at k1
    refine ⟨by rw [show (rs ++ [(r.1, z)]).length = rs.length + 1 by simp]; exact k1, h.blk, h.below.setCell (p := ⟨g, rs.length * 2 + 1, none⟩) (h.blk g rfl) _, Nat.le_trans h.size k2.size⟩
theorem NewR.step {B : Nat} {w0 w w' : World} {v : Value} {rs : List (Int × Int)} (h : NewR B w0 w v rs) (hu : Below w.heap.size w w') : NewR B w0 w' v rs :=
  ⟨row_below h.row hu, h.blk, h.below.trans (hu.mono h.size), Nat.le_trans h.size hu.size⟩

/-- The numbers that deeds may name. -/
def Fit (most : Int) (ds : List Deed) : Prop := ∀ d ∈ ds, -9223372036854775808 ≤ d.2.1 ∧ d.2.2 ≤ most
theorem Fit.at {most : Int} {ds : List Deed} (h : Fit most ds) {i : Nat} {d : Deed} (hd : ds[i]? = some d) : -9223372036854775808 ≤ d.2.1 ∧ d.2.2 ≤ most := h d (List.mem_of_getElem? hd)

/-- Not below the least number. -/
def Low (x : Int) : Prop := -9223372036854775808 ≤ x
/-- Not above the greatest one. -/
def High (x : Int) : Prop := x ≤ 9223372036854775807
theorem take_deed {ds : List Deed} {i : Nat} {d : Deed} (hd : ds[i]? = some d) : ds.take (i + 1) = ds.take i ++ [d] := by rw [List.take_add_one, hd]; rfl

set_option maxHeartbeats 4000000 in
set_option maxRecDepth 100000 in
theorem refRuns {v : Value} {ds : List Deed} {ss : List (Int × Int)} (most : Int) (w : World) (h : ActsAt w v ds) (hn : ds.length ≤ 100000) (hm : most ≤ 9223372036854775807) (hF : Fit most ds) (hC : Canon ss) (hs : ∀ x, In ss x ↔ isIn ds x = true) :
    Calls Try.prog 33 #[.agg #[v, .int .i64 most]] w fun e w' => ∃ v', e = .returned v' ∧ Hid (NewR w.heap.size w w' v' ss) := by
  obtain ⟨a, c, rfl⟩ := row_shape3 h
  have HB : Hid (Below w.heap.size w (w.alloc (.cells #[.slice a ds.length c, .int .i64 most] 62))) := (Below.refl _ _).alloc (Nat.le_refl _) _
  have HW1 : Hid ((w.alloc (.cells #[.slice a ds.length c, .int .i64 most] 62)).heap[w.heap.size]? = some (.cells #[.slice a ds.length c, .int .i64 most] 62 (0, 0))) := heap_alloc_new _ _
  have HRow : Hid ((w.alloc (.cells #[.slice a ds.length c, .int .i64 most] 62)).ownsRow 0 97 3 (.slice a ds.length c) ds.length (encD ds)) := row_below h (unhide HB)
  have HN := hide hn
  have HF := hide hF
  have HCC : Hid (Canon ss ∧ ∀ x, In ss x ↔ isIn ds x = true) := ⟨hC, hs⟩
  have HM : Hid (High most) := hm
  have HA : Hid (∀ k, k < ds.length → ∃ d, ds[k]? = some d) := fun k hk => ⟨ds[k], List.getElem?_eq_getElem hk⟩
  have hL6 : (ds.length : Int) ≤ 100000 := by omega
  generalize hL : ds.length = L at *
  have HL := hide hL
  clear h hn hF hC hs hm hL
  go_enter Try.func33, Try.ntmps33
  go_upto_region 1 with fail
  have HZ : Hid (w.heap.size < (w.alloc (.cells #[.slice a L c, .int .i64 most] 62)).heap.size) := by show _ < _; simp
  generalize (w.alloc (.cells #[.slice a L c, .int .i64 most] 62)) = W at *
  have HCell : Hid (∀ u, Below W.heap.size W u → u.cell? ⟨w.heap.size, 0, none⟩ = some (.slice a L c) ∧ u.cell? ⟨w.heap.size, 1, none⟩ = some (.int .i64 most)) := fun u hu => by
    have e := (hu.block w.heap.size (unhide HZ)).trans (unhide HW1)
    exact ⟨(cell_of_row u w.heap.size 0 _ 62 (0, 0) e).trans rfl, (cell_of_row u w.heap.size 1 _ 62 (0, 0) e).trans rfl⟩
  go_wp2_with fail
  go_loopw [3, 4] (fun s3 s4 wr => ∃ (k n3 c3 : Nat) (a3 : Option Addr) (l : List Int), k ≤ L ∧ s4 = .int .i64 k ∧ s3 = .slice a3 n3 c3 ∧ Hid (NewZ W.heap.size W wr (.slice a3 n3 c3) l ∧ Cuts most (ds.take k) l ∧ l.length ≤ 2 * k)) (fun _ s4 _ => L - (intOf s4).toNat)
  case atStart => exact ⟨0, 0, 0, none, [], Nat.zero_le _, rfl, rfl, NewZ.nil W, by rw [List.take_zero]; exact cuts_nil _, by simp⟩
  case round =>
    obtain ⟨k, n3, c3, a3, l, hk, rfl, rfl, HI⟩ := hrel
    obtain ⟨b0, b1⟩ := unhide HCell wr (unhide HI).1.below
    by_cases hlt : k < L
    · have hltz : (k : Int) < (L : Int) := by omega
      obtain ⟨d, hd⟩ := unhide HA k hlt
      obtain ⟨g, rfl, hgl, d0, d1, d2⟩ := acts_cells (row_below (unhide HRow) (unhide HI).1.below) k d hd
      have HT := hide (take_deed hd)
      have HFd := hide ((unhide HF).at hd)
      clear hd hgl
      obtain ⟨dn, dl, dh⟩ := d
      dsimp only at d0 d1 d2 HFd
      have HI2 : Hid (NewZ W.heap.size W (wr.alloc (.cells #[.bool dn, .int .i64 dl, .int .i64 dh] 97)) (.slice a3 n3 c3) l) := (unhide HI).1.step ((Below.refl _ _).alloc (Nat.le_refl _) _)
      by_cases h1 : dh < dl
      · have HE : Hid (NewZ W.heap.size W (wr.alloc (.cells #[.bool dn, .int .i64 dl, .int .i64 dh] 97)) (.slice a3 n3 c3) l ∧ Cuts most (ds.take (k + 1)) l ∧ l.length ≤ 2 * (k + 1)) := ⟨unhide HI2, by rw [unhide HT]; exact (unhide HI).2.1.empty h1, by have := (unhide HI).2.2; omega⟩
        clear HI HI2 HT HFd
        go_wp2_with fail
        go_roundw
        case rel => exact ⟨k + 1, _, _, _, l, by omega, by go_num, rfl, HE⟩
        case measure => first | (simp [intOf]; done) | (simp [intOf]; omega)
      · have HBx : Hid (∀ u, Below (wr.alloc (.cells #[.bool dn, .int .i64 dl, .int .i64 dh] 97)).heap.size (wr.alloc (.cells #[.bool dn, .int .i64 dl, .int .i64 dh] 97)) u → u.cell? ⟨wr.heap.size, 2, none⟩ = some (.int .i64 dh)) := fun u hu => by
          have e := (hu.block wr.heap.size (by simp)).trans (heap_alloc_new wr _)
          exact (cell_of_row u wr.heap.size 2 _ 97 (0, 0) e).trans rfl
        have C1 := hide (refPut dl _ (unhide HI2) (unhide HI).2.1.rise (by have := (unhide HI).2.2; omega))
        have HBW : Hid (Below W.heap.size W (wr.alloc (.cells #[.bool dn, .int .i64 dl, .int .i64 dh] 97))) := (unhide HI2).below
        have HCu := hide (unhide HI).2
        have hdd : dl ≤ dh := by omega
        clear HI HI2
        go_wp2_with fail
        refine (unhide C1).mono ?_
        rintro e w1 ⟨v4, l1, rfl, H1⟩
        have e2 := unhide HBx w1 (unhide H1).2.2
        have b1' := (unhide HCell w1 (unhide H1).1.below).2
        obtain ⟨a4, c4, hv4⟩ := (unhide H1).1.shape
        by_cases h2 : dh < most
        · have hw2 : IntKind.i64.wrap (dh + 1) = dh + 1 := by rw [IntKind.wrap_i64]; have h9 : most ≤ 9223372036854775807 := unhide HM; have := unhide HFd; omega
          have C2 := hide (refPut (dh + 1) w1 (unhide H1).1 (unhide H1).2.1.rise (by have := (unhide H1).2.1.len; have := (unhide HCu).2; omega))
          subst hv4
          generalize l1.length = N4 at *
          clear C1 HBx
          go_wp2_with fail
          refine (unhide C2).mono ?_
          rintro e w2 ⟨v5, l2, rfl, H2⟩
          obtain ⟨a5, c5, hv5⟩ := (unhide H2).1.shape
          subst hv5
          have HE : Hid (NewZ W.heap.size W w2 (.slice a5 l2.length c5) l2 ∧ Cuts most (ds.take (k + 1)) l2 ∧ l2.length ≤ 2 * (k + 1)) := ⟨(unhide H2).1, by rw [unhide HT]; exact (unhide HCu).1.two (unhide H1).2.1 (unhide H2).2.1 hdd h2 (unhide HFd).1, by have := (unhide H1).2.1.len; have := (unhide H2).2.1.len; have := (unhide HCu).2; omega⟩
          clear C2 H1 H2 HCu
          go_wp2_with fail
          go_roundw
          case rel => exact ⟨k + 1, _, _, _, l2, by omega, by go_num, rfl, HE⟩
          case measure => first | (simp [intOf]; done) | (simp [intOf]; omega)
        · have HE : Hid (NewZ W.heap.size W w1 (.slice a4 l1.length c4) l1 ∧ Cuts most (ds.take (k + 1)) l1 ∧ l1.length ≤ 2 * (k + 1)) := ⟨hv4 ▸ (unhide H1).1, by rw [unhide HT]; exact (unhide HCu).1.one (unhide H1).2.1 hdd (unhide HFd).2 h2 (unhide HFd).1, by have := (unhide H1).2.1.len; have := (unhide HCu).2; omega⟩
          subst hv4
          clear C1 HBx H1 HCu
          go_wp2_with fail
          go_roundw
          case rel => exact ⟨k + 1, _, _, _, l1, by omega, by go_num, rfl, HE⟩
          case measure => first | (simp [intOf]; done) | (simp [intOf]; omega)
    · obtain rfl : k = L := by omega
      have HFit : Hid (∀ d ∈ ds, d.2.2 ≤ most) := fun d hd => ((unhide HF) d hd).2
      have HCuts : Hid (Cuts most ds l) := by
        have := (unhide HI).2.1
        rw [← unhide HL, List.take_length] at this
        exact this
      have HLL : Hid (l.length ≤ 200000) := by have := (unhide HI).2.2; have := unhide HN; show _ ≤ _; omega
      have HNI := hide (unhide HI).1
      have HN3 : Hid (l.length = n3) := by
        have := (unhide HI).1.row.1
        rw [ints_length] at this
        obtain ⟨a9, c9, h9⟩ := (unhide HI).1.shape
        cases h9
        rfl
      have hN6 : (n3 : Int) ≤ 200000 := by have := unhide HLL; have := unhide HN3; omega
      have HRow2 := hide (row_below (unhide HRow) (unhide HI).1.below)
      have HBx2 : Hid (∀ u, Below wr.heap.size wr u → u.cell? ⟨w.heap.size, 0, none⟩ = some (.slice a k c) ∧ u.cell? ⟨w.heap.size, 1, none⟩ = some (.int .i64 most)) := fun u hu => unhide HCell u ((unhide HI).1.below.trans (hu.mono (unhide HI).1.size))
      have HBB : Hid (Below w.heap.size w wr) := (unhide HB).trans ((unhide HI).1.below.mono (unhide HB).size)
      have HIc : Hid (∀ u, Below wr.heap.size wr u → ∀ i, i < n3 → ∃ g, a3 = some ⟨g, 0, none⟩ ∧ u.cell? ⟨g, i, none⟩ = some (.int .i64 (l.getD i 0))) := fun u hu i hi1 => by
        have hr := row_below (unhide HNI).row hu
        rw [unhide HN3] at hr
        obtain ⟨g, e, -, hc⟩ := ints_cells hr i hi1
        exact ⟨g, e, hc⟩
      have HHas : Hid (∀ u x, Below wr.heap.size wr u → Calls Try.prog 36 #[.agg #[.slice a k c, .int .i64 most], .int .i64 x] u fun e w' => e = .returned (.bool (isIn ds x)) ∧ Below u.heap.size u w') := fun u x hu => by
        have hr := row_below (unhide HRow2) hu
        have := refHas most x u (v := .slice a k c) (ds := ds) (by rw [show ActsAt u (.slice a k c) ds ↔ u.ownsRow 0 97 3 (.slice a k c) ds.length (encD ds) from Iff.rfl, unhide HL]; exact hr) (by have := unhide HN; have := unhide HL; omega)
        exact this
      clear HI HCell HRow HRow2 HA HF HB HW1 HZ
      obtain ⟨W2, rfl⟩ : ∃ W2, W2 = wr := ⟨_, rfl⟩
      go_wp2_with fail
      clear b0 b1
      go_loopw [6, 7] (fun s6 s7 wr => ∃ (i n6 c6 : Nat) (a6 : Option Addr) (rs : List (Int × Int)), i ≤ n3 ∧ s7 = .int .i64 i ∧ s6 = .slice a6 n6 c6 ∧ Hid (NewR W2.heap.size W2 wr (.slice a6 n6 c6) rs ∧ RunsTo most ds l i rs)) (fun _ s7 _ => n3 - (intOf s7).toNat)
      case atStart => exact ⟨0, 0, 0, none, [], Nat.zero_le _, rfl, rfl, NewR.nil W2, RunsTo.start (unhide HCuts)⟩
      case round =>
        obtain ⟨i, n6, c6, a6, rs, hi1, rfl, rfl, HI⟩ := hrel
        by_cases hlt : i < n3
        · have hltz : (i : Int) < (n3 : Int) := by omega
          have hi6 : (i : Int) < 200000 := by omega
          obtain ⟨g, rfl, q0⟩ := unhide HIc wr (unhide HI).1.below i hlt
          obtain ⟨b0, b1⟩ := unhide HBx2 wr (unhide HI).1.below
          have C1 : Hid (∀ q, Calls Try.prog 36 #[.agg #[.slice a k c, .int .i64 most], .int .i64 (l.getD i 0)] (wr.drewN q) fun e w' => e = .returned (.bool (isIn ds (l.getD i 0))) ∧ (w'.cell? ⟨w.heap.size, 0, none⟩ = some (.slice a k c) ∧ w'.cell? ⟨w.heap.size, 1, none⟩ = some (.int .i64 most) ∧ w'.cell? ⟨g, i, none⟩ = some (.int .i64 (l.getD i 0))) ∧ Hid (Below wr.heap.size wr w')) := fun q => by
            have hb0 := below_drewN (unhide HI).1.below q
            refine (unhide HHas _ _ hb0).mono ?_
            rintro e w' ⟨he, hb⟩
            have hb1 : Below wr.heap.size wr w' := ⟨hb.os, hb.tape, hb.output, hb.size, hb.block⟩
            have hb2 := (unhide HI).1.below.trans (hb1.mono (unhide HI).1.size)
            obtain ⟨g2, e2, q2⟩ := unhide HIc w' hb2 i hlt
            cases e2
            obtain ⟨b2, b3⟩ := unhide HBx2 w' hb2
            exact ⟨he, ⟨b2, b3, q2⟩, hb1⟩
          have HZ1 : Hid (l.getD i 0 = l.getD i 0) := rfl
          cases hin : isIn ds (l.getD i 0) with
          | false =>
            rw [hin] at C1
            have HE : Hid (∀ u, Below wr.heap.size wr u → NewR W2.heap.size W2 u (.slice a6 n6 c6) rs ∧ RunsTo most ds l (i + 1) rs) := fun u hu => ⟨⟨row_below (unhide HI).1.row hu, (unhide HI).1.blk, (unhide HI).1.below.trans (hu.mono (unhide HI).1.size), Nat.le_trans (unhide HI).1.size hu.size⟩, (unhide HI).2.skip (unhide HCuts) (by have := unhide HN3; omega) hin⟩
            generalize l.getD i 0 = x at *
            clear HI hin HZ1
            go_upto_region 14 with fail
            go_region_held3 (fun u => u.cell? ⟨w.heap.size, 0, none⟩ = some (.slice a k c) ∧ u.cell? ⟨w.heap.size, 1, none⟩ = some (.int .i64 most) ∧ u.cell? ⟨g, i, none⟩ = some (.int .i64 x)) (first | exact ⟨b0, b1, q0⟩ | exact ⟨dd0, dd1, dd2⟩ | (go_keep; done)) ((go_at_call 36; refine (unhide C1 _).mono ?_; rintro e w' ⟨rfl, ⟨dd0, dd1, dd2⟩, hT⟩))
            have HE2 := hide (unhide HE w' (unhide hT))
            clear HE hT C1
            go_wp2_with fail
            go_roundw
            case rel => exact ⟨i + 1, _, _, _, rs, by omega, by go_num, rfl, HE2⟩
            case measure => first | (simp [intOf]; done) | (simp [intOf]; omega)
          | true =>
            rw [hin] at C1
            have HR1 : Hid (i + 1 < n3 → bound most l (i + 1) = l.getD (i + 1) 0) := fun h => bound_at (by have := unhide HN3; omega)
            have HR2 : Hid (¬ i + 1 < n3 → bound most l (i + 1) = most + 1) := fun h => by unfold bound; rw [if_neg (by have := unhide HN3; omega)]
            have HGE : Hid (l.getD i 0 < bound most l (i + 1) ∧ Low (l.getD i 0) ∧ bound most l (i + 1) ≤ most + 1) := by
              have h9 : i < l.length := by have := unhide HN3; omega
              refine ⟨(unhide HCuts).rises h9, (unhide HCuts).ge _ (getD_mem h9), ?_⟩
              unfold bound
              split
              · rename_i h8
                have := (unhide HCuts).le _ (getD_mem h8)
                omega
              · exact Int.le_refl _
            have HMore : Hid ((0 < i → isIn ds (l.getD (i - 1) 0) = false) → RunsTo most ds l (i + 1) (rs ++ [(l.getD i 0, bound most l (i + 1) - 1)])) := fun h => (unhide HI).2.more (unhide HCuts) (by have := unhide HN3; omega) hin h
            have HLong : Hid (0 < i → isIn ds (l.getD (i - 1) 0) = true → ∃ rs0 r, rs = rs0 ++ [r] ∧ RunsTo most ds l (i + 1) (rs0 ++ [(r.1, bound most l (i + 1) - 1)])) := fun h0 h => by
              obtain ⟨r, hr, -⟩ := (unhide HI).2.open' h0 h
              obtain ⟨rs0, rfl⟩ := List.getLast?_eq_some_iff.1 hr
              exact ⟨rs0, r, rfl, (unhide HI).2.longer (unhide HCuts) (by have := unhide HN3; omega) hin h0 h⟩
            have HNr := hide (unhide HI).1
            have HLen : Hid (rs.length ≤ 200000) := by have := (unhide HI).2.len; show _ ≤ _; omega
            generalize hE : bound most l (i + 1) = bE at *
            clear hE hin HZ1
            obtain ⟨x, hx⟩ : ∃ x, l.getD i 0 = x := ⟨_, rfl⟩
            rw [hx] at C1 HGE HMore q0
            have HX := hide hx
            clear hx
            go_upto_region 14 with fail
            go_region_held3 (fun u => u.cell? ⟨w.heap.size, 0, none⟩ = some (.slice a k c) ∧ u.cell? ⟨w.heap.size, 1, none⟩ = some (.int .i64 most) ∧ u.cell? ⟨g, i, none⟩ = some (.int .i64 x)) (first | exact ⟨b0, b1, q0⟩ | exact ⟨dd0, dd1, dd2⟩ | (go_keep; done)) ((go_at_call 36; refine (unhide C1 _).mono ?_; rintro e w' ⟨rfl, ⟨dd0, dd1, dd2⟩, hT⟩))
            have HNr2 := hide ((unhide HNr).step (unhide hT))
            clear C1 HNr HI b0 b1 q0 hT
            obtain ⟨eV, heV⟩ : ∃ eV, eV = bE - 1 := ⟨_, rfl⟩
            have CP : Hid (0 < i → w'.cell? ⟨g, i - 1, none⟩ = some (.int .i64 (l.getD (i - 1) 0)) ∧ ∀ q, Calls Try.prog 36 #[.agg #[.slice a k c, .int .i64 most], .int .i64 (l.getD (i - 1) 0)] (w'.drewN q) fun e w2 => e = .returned (.bool (decide (0 < i) && isIn ds (l.getD (i - 1) 0))) ∧ (w2.cell? ⟨w.heap.size, 0, none⟩ = some (.slice a k c) ∧ w2.cell? ⟨w.heap.size, 1, none⟩ = some (.int .i64 most) ∧ w2.cell? ⟨g, i - 1, none⟩ = some (.int .i64 (l.getD (i - 1) 0))) ∧ Hid (Below w'.heap.size w' w2)) := fun h0 => by
              obtain ⟨g2, e2, q2⟩ := unhide HIc w' ((unhide HNr2).below) (i - 1) (by omega)
              cases e2
              refine ⟨q2, fun q => ?_⟩
              refine (unhide HHas _ _ (below_drewN (unhide HNr2).below q)).mono ?_
              rintro e w2 ⟨he, hb⟩
              have hb1 : Below w'.heap.size w' w2 := ⟨hb.os, hb.tape, hb.output, hb.size, hb.block⟩
              have hb2 := (unhide HNr2).below.trans (hb1.mono (unhide HNr2).size)
              obtain ⟨g3, e3, q3⟩ := unhide HIc w2 hb2 (i - 1) (by omega)
              cases e3
              obtain ⟨b2, b3⟩ := unhide HBx2 w2 hb2
              exact ⟨by rw [he]; simp [h0], ⟨b2, b3, q3⟩, hb1⟩
            by_cases h3 : i + 1 < n3
            · have h3z : (i : Int) + 1 < (n3 : Int) := by omega
              obtain ⟨g2, e2, q2⟩ := unhide HIc w' ((unhide HNr2).below) (i + 1) h3
              cases e2
              rw [← unhide HR1 h3] at q2
              have hwE : IntKind.i64.wrap (bE - 1) = eV := by
                obtain ⟨k1, k2, k3⟩ := unhide HGE
                have h9 : most ≤ 9223372036854775807 := unhide HM
                unfold Low at k2
                rw [IntKind.wrap_i64]
                omega
              have HEV := hide heV
              clear HR1 HR2 HGE heV
              go_upto_region 18 with fail
              clear hwE h3 h3z q2
              generalize hPd : (decide (0 < i) && isIn ds (l.getD (i - 1) 0)) = P at *
              go_cut [76] from 53 to 76 (fun s76 wq => s76 = .bool P ∧ Hid (Below w'.heap.size w' wq))
              case first =>
                by_cases h0 : i = 0
                · have hP : P = false := by rw [← hPd, h0]; rfl
                  subst hP
                  subst h0
                  clear HMore HLong HNr2 hPd CP
                  go_quiet (fail)
                  go_wp2_with fail
                  go_meet
                  case rel => exact ⟨rfl, below_drewN (Below.refl _ _) _⟩
                · have hip : (0 : Int) < (i : Int) := by omega
                  have hip0 : 0 < i := by omega
                  have hipd : decide (0 < i) = true := by simpa using hip0
                  obtain ⟨q3, CQ⟩ := unhide CP (by omega)
                  have hjw : IntKind.i64.wrap ((i : Int) - 1) = ((i - 1 : Nat) : Int) := by rw [IntKind.wrap_i64]; omega
                  have hjn : ((i - 1 : Nat) : Int) < (n3 : Int) := by omega
                  have HCQ := hide CQ
                  clear HMore HLong HNr2 hPd CP CQ h0
                  generalize l.getD (i - 1) 0 = y at *
                  generalize i - 1 = j at *
                  go_region_held3 (fun u => u.cell? ⟨w.heap.size, 0, none⟩ = some (.slice a k c) ∧ u.cell? ⟨w.heap.size, 1, none⟩ = some (.int .i64 most) ∧ u.cell? ⟨g, j, none⟩ = some (.int .i64 y)) (first | exact ⟨dd0, dd1, q3⟩ | exact ⟨ee0, ee1, ee2⟩ | (go_keep; done)) ((go_at_call 36; refine (unhide HCQ _).mono ?_; rintro e w2 ⟨rfl, ⟨ee0, ee1, ee2⟩, hT2⟩))
                  go_wp2_with fail
                  go_meet
                  case rel => exact ⟨rfl, hT2⟩
              case rest =>
                obtain ⟨rfl, HB2⟩ := hcut
                have HNr3 := hide ((unhide HNr2).step (unhide HB2))
                clear dd0 dd1 dd2 CP
                cases P with
                | true =>
                  have hP : 0 < i ∧ isIn ds (l.getD (i - 1) 0) = true := by simpa using hPd
                  obtain ⟨rs0, r, hrs, hL2⟩ := unhide HLong hP.1 hP.2
                  have HN4 := unhide HNr3
                  rw [hrs] at HN4
                  obtain ⟨g6, e6, rfl, q6, z6, hst⟩ := HN4.last
                  subst e6
                  have HST : Hid (NewR W2.heap.size W2 (wc.setCell ⟨g6, rs0.length * 2 + 1, none⟩ (.int .i64 eV)) (.slice (some ⟨g6, 0, none⟩) (rs0.length + 1) c6) (rs0 ++ [(r.1, eV)]) ∧ RunsTo most ds l (i + 1) (rs0 ++ [(r.1, eV)])) := ⟨hst eV, by rw [← unhide HEV] at hL2; exact hL2⟩
                  have hm6 : ((rs0.length : Nat) : Int) ≤ 200000 := by have := unhide HLen; rw [hrs] at this; simp at this; omega
                  have hmw : IntKind.i64.wrap (((rs0.length + 1 : Nat) : Int) - 1) = ((rs0.length : Nat) : Int) := by rw [IntKind.wrap_i64]; omega
                  have hmw2 : IntKind.i64.wrap ((rs0.length : Int) + 1 - 1) = ((rs0.length : Nat) : Int) := by rw [IntKind.wrap_i64]; omega
                  generalize rs0.length = m6 at *
                  clear HMore HLong HNr2 HNr3 hPd hP HN4 hst hL2 hrs HB2
                  go_wp2_with fail
                  go_roundw
                  case rel => exact ⟨i + 1, _, _, _, _, by omega, by go_num, rfl, HST⟩
                  case measure => first | (simp [intOf]; done) | (simp [intOf]; omega)
                | false =>
                  have hP : 0 < i → isIn ds (l.getD (i - 1) 0) = false := fun h => by simpa [h] using hPd
                  have hM2 := unhide HMore hP
                  rw [← unhide HEV] at hM2
                  obtain ⟨a9, c9, e9⟩ := (unhide HNr3).shape
                  obtain ⟨g', cap', w4, hr, hN⟩ := (unhide HNr3).append x eV (by have := unhide HLen; omega)
                  have hn6 : rs.length = n6 := by cases e9; rfl
                  rw [hn6] at hr hN
                  have HRn := hide hr
                  have HE : Hid (NewR W2.heap.size W2 w4 (.slice (some ⟨g', 0, none⟩) (n6 + 1) cap') (rs ++ [(x, eV)]) ∧ RunsTo most ds l (i + 1) (rs ++ [(x, eV)])) := ⟨unhide hN, hM2⟩
                  obtain ⟨g2, e2, q2⟩ := unhide HIc wc ((unhide HNr3).below) i hlt
                  cases e2
                  rw [unhide HX] at q2
                  clear HMore HLong HNr2 HNr3 hPd hP hM2 hr hN HB2 e9 hn6
                  go_wp2_with (at_builtin; refine Lib.wpList_append_run _ rfl _ _ 44 44 rfl (.slice a6 n6 c6) (.slice (some ⟨wc.heap.size, 0, none⟩) 1 1) rfl rfl _ _ HRn.out ?_)
                  go_roundw
                  case rel => exact ⟨i + 1, _, _, _, _, by omega, by go_num, rfl, HE⟩
                  case measure => first | (simp [intOf]; done) | (simp [intOf]; omega)
            · have h3z : ¬ (i : Int) + 1 < (n3 : Int) := by omega
              have hme : eV = most := by have := unhide HR2 h3; omega
              subst hme
              have HEV := hide heV
              clear HR1 HR2 HGE heV
              go_upto_region 18 with fail
              clear h3 h3z
              generalize hPd : (decide (0 < i) && isIn ds (l.getD (i - 1) 0)) = P at *
              go_cut [76] from 53 to 76 (fun s76 wq => s76 = .bool P ∧ Hid (Below w'.heap.size w' wq))
              case first =>
                by_cases h0 : i = 0
                · have hP : P = false := by rw [← hPd, h0]; rfl
                  subst hP
                  subst h0
                  clear HMore HLong HNr2 hPd CP
                  go_quiet (fail)
                  go_wp2_with fail
                  go_meet
                  case rel => exact ⟨rfl, below_drewN (Below.refl _ _) _⟩
                · have hip : (0 : Int) < (i : Int) := by omega
                  have hip0 : 0 < i := by omega
                  have hipd : decide (0 < i) = true := by simpa using hip0
                  obtain ⟨q3, CQ⟩ := unhide CP (by omega)
                  have hjw : IntKind.i64.wrap ((i : Int) - 1) = ((i - 1 : Nat) : Int) := by rw [IntKind.wrap_i64]; omega
                  have hjn : ((i - 1 : Nat) : Int) < (n3 : Int) := by omega
                  have HCQ := hide CQ
                  clear HMore HLong HNr2 hPd CP CQ h0
                  generalize l.getD (i - 1) 0 = y at *
                  generalize i - 1 = j at *
                  go_region_held3 (fun u => u.cell? ⟨w.heap.size, 0, none⟩ = some (.slice a k c) ∧ u.cell? ⟨w.heap.size, 1, none⟩ = some (.int .i64 eV) ∧ u.cell? ⟨g, j, none⟩ = some (.int .i64 y)) (first | exact ⟨dd0, dd1, q3⟩ | exact ⟨ee0, ee1, ee2⟩ | (go_keep; done)) ((go_at_call 36; refine (unhide HCQ _).mono ?_; rintro e w2 ⟨rfl, ⟨ee0, ee1, ee2⟩, hT2⟩))
                  go_wp2_with fail
                  go_meet
                  case rel => exact ⟨rfl, hT2⟩
              case rest =>
                obtain ⟨rfl, HB2⟩ := hcut
                have HNr3 := hide ((unhide HNr2).step (unhide HB2))
                clear dd0 dd1 dd2 CP
                cases P with
                | true =>
                  have hP : 0 < i ∧ isIn ds (l.getD (i - 1) 0) = true := by simpa using hPd
                  obtain ⟨rs0, r, hrs, hL2⟩ := unhide HLong hP.1 hP.2
                  have HN4 := unhide HNr3
                  rw [hrs] at HN4
                  obtain ⟨g6, e6, rfl, q6, z6, hst⟩ := HN4.last
                  subst e6
                  have HST : Hid (NewR W2.heap.size W2 (wc.setCell ⟨g6, rs0.length * 2 + 1, none⟩ (.int .i64 eV)) (.slice (some ⟨g6, 0, none⟩) (rs0.length + 1) c6) (rs0 ++ [(r.1, eV)]) ∧ RunsTo eV ds l (i + 1) (rs0 ++ [(r.1, eV)])) := ⟨hst eV, by rw [← unhide HEV] at hL2; exact hL2⟩
                  have hm6 : ((rs0.length : Nat) : Int) ≤ 200000 := by have := unhide HLen; rw [hrs] at this; simp at this; omega
                  have hmw : IntKind.i64.wrap (((rs0.length + 1 : Nat) : Int) - 1) = ((rs0.length : Nat) : Int) := by rw [IntKind.wrap_i64]; omega
                  have hmw2 : IntKind.i64.wrap ((rs0.length : Int) + 1 - 1) = ((rs0.length : Nat) : Int) := by rw [IntKind.wrap_i64]; omega
                  generalize rs0.length = m6 at *
                  clear HMore HLong HNr2 HNr3 hPd hP HN4 hst hL2 hrs HB2
                  go_wp2_with fail
                  go_roundw
                  case rel => exact ⟨i + 1, _, _, _, _, by omega, by go_num, rfl, HST⟩
                  case measure => first | (simp [intOf]; done) | (simp [intOf]; omega)
                | false =>
                  have hP : 0 < i → isIn ds (l.getD (i - 1) 0) = false := fun h => by simpa [h] using hPd
                  have hM2 := unhide HMore hP
                  rw [← unhide HEV] at hM2
                  obtain ⟨a9, c9, e9⟩ := (unhide HNr3).shape
                  obtain ⟨g', cap', w4, hr, hN⟩ := (unhide HNr3).append x eV (by have := unhide HLen; omega)
                  have hn6 : rs.length = n6 := by cases e9; rfl
                  rw [hn6] at hr hN
                  have HRn := hide hr
                  have HE : Hid (NewR W2.heap.size W2 w4 (.slice (some ⟨g', 0, none⟩) (n6 + 1) cap') (rs ++ [(x, eV)]) ∧ RunsTo eV ds l (i + 1) (rs ++ [(x, eV)])) := ⟨unhide hN, hM2⟩
                  obtain ⟨g2, e2, q2⟩ := unhide HIc wc ((unhide HNr3).below) i hlt
                  cases e2
                  rw [unhide HX] at q2
                  clear HMore HLong HNr2 HNr3 hPd hP hM2 hr hN HB2 e9 hn6
                  go_wp2_with (at_builtin; refine Lib.wpList_append_run _ rfl _ _ 44 44 rfl (.slice a6 n6 c6) (.slice (some ⟨wc.heap.size, 0, none⟩) 1 1) rfl rfl _ _ HRn.out ?_)
                  go_roundw
                  case rel => exact ⟨i + 1, _, _, _, _, by omega, by go_num, rfl, HE⟩
                  case measure => first | (simp [intOf]; done) | (simp [intOf]; omega)
        · obtain rfl : i = n3 := by omega
          have HE : Hid (NewR w.heap.size w wr (.slice a6 n6 c6) ss) := by
            have hR := (unhide HI).2
            rw [← unhide HN3] at hR
            have e := hR.end' (unhide HFit) (unhide HCC).1 (unhide HCC).2
            rw [← e]
            have h := (unhide HI).1
            have hs := (unhide HBB).size
            exact ⟨h.row, fun j hj => Nat.le_trans hs (h.blk j hj), (unhide HBB).trans (h.below.mono hs), Nat.le_trans hs h.size⟩
          clear HI HHas HIc HBx2 HCuts
          go_wp2_with fail
          go_ret
          exact ⟨_, rfl, HE⟩
end Go.Proofs.Ytdalghfhpekcfaa
