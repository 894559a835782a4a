/- Build, and the calls that only read. -/
import Derived.Test.YtijgeoegeeejcaaGrowW13
namespace Go.Proofs.Ytijgeoegeeejcaa
open Go.RowKit Go.Maps
theorem mem_wyF {ys : List Int} {es : List EdV} {p : Nat} {y : WyV} : y ∈ wyF ys es p ↔ p < ys.length ∧ ∃ x ∈ es, plc ys x.2.1 = p ∧ wayOf ys x = y := by
  unfold wyF
  rw [List.getD_eq_getElem?_getD]
  rcases Nat.lt_or_ge p ys.length with q | q
  · rw [waysL_at q]
    simp only [Option.getD_some, List.mem_map, List.mem_filter, decide_eq_true_eq]
    exact ⟨fun ⟨x, ⟨h1, h2⟩, h3⟩ => ⟨q, x, h1, h2, h3⟩, fun ⟨_, x, h1, h2, h3⟩ => ⟨x, ⟨h1, h2⟩, h3⟩⟩
  · rw [List.getElem?_eq_none (by rw [waysL_len]; exact q)]
    simp only [Option.getD_none, List.not_mem_nil, false_iff]
    exact fun ⟨z, _⟩ => by omega
theorem wyF_len (ys : List Int) (es : List EdV) (p : Nat) : (wyF ys es p).length ≤ es.length := by
  unfold wyF
  rw [List.getD_eq_getElem?_getD]
  rcases Nat.lt_or_ge p ys.length with q | q
  · rw [waysL_at q, Option.getD_some, List.length_map]; exact List.length_filter_le _ _
  · rw [List.getElem?_eq_none (by rw [waysL_len]; exact q)]; exact Nat.zero_le _
theorem kept_le {n b : Int} (h : kept n = some b) : b < 2139095040 := by
  unfold kept at h
  split at h
  · have : (0 : Int) = b := by injection h
    omega
  · split at h
    · cases h
    · have : n = b := by injection h
      omega
theorem wtN_le (x : EdV) : wtN x < 2139095040 := by
  unfold wtN
  cases h : kept x.2.2.2 with
  | none => show (0 : Int).toNat < _; decide
  | some b => have := kept_le h; show b.toNat < _; omega
/-- What is so of lists without fault. -/
structure Good (ys : List Int) (es : List EdV) (s : Int) : Prop where
  nd : ys.Nodup
  en : (es.map (·.1)).Nodup
  lo : ∀ x ∈ es, 1 ≤ x.1
  src : s ∈ ys
  ends : ∀ x ∈ es, x.2.1 ∈ ys ∧ x.2.2.1 ∈ ys
  wt : ∀ x ∈ es, (kept x.2.2.2).isSome = true
theorem fault_zero {ys : List Int} {es : List EdV} {s : Int} : faultC ys es s = 0 ↔ Good ys es s := by
  unfold faultC
  constructor
  · intro h
    split at h
    · cases h
    · rename_i h1
      split at h
      · cases h
      · rename_i h2
        split at h
        · cases h
        · rename_i h3
          split at h
          · cases h
          · rename_i h4
            simp only [Bool.or_eq_true, Bool.not_eq_true', decide_eq_false_iff_not, not_or, Classical.not_not] at h1 h3
            have h2' : ∀ x ∈ es, lowB x = false := fun x hx => by
              cases q : lowB x with
              | false => rfl
              | true => exact absurd (List.any_eq_true.2 ⟨x, hx, q⟩) h2
            have h3' : ∀ x ∈ es, awayB ys x = false := fun x hx => by
              cases q : awayB ys x with
              | false => rfl
              | true => exact absurd (List.any_eq_true.2 ⟨x, hx, q⟩) h3.2
            have h4' : ∀ x ∈ es, badB x = false := fun x hx => by
              cases q : badB x with
              | false => rfl
              | true => exact absurd (List.any_eq_true.2 ⟨x, hx, q⟩) h4
            refine ⟨h1.1, h1.2, fun x hx => ?_, h3.1, fun x hx => ?_, fun x hx => ?_⟩
            · have := h2' x hx
              unfold lowB at this
              have := of_decide_eq_false this
              omega
            · have := h3' x hx
              unfold awayB at this
              simpa using this
            · have := h4' x hx
              unfold badB at this
              cases q : kept x.2.2.2 with
              | none => rw [q] at this; cases this
              | some b => rfl
  · intro h
    rw [if_neg, if_neg, if_neg, if_neg]
    · intro q
      obtain ⟨x, hx, h2⟩ := List.any_eq_true.1 q
      unfold badB at h2
      have := h.wt x hx
      cases e : kept x.2.2.2 with
      | none => rw [e] at this; cases this
      | some b => rw [e] at h2; cases h2
    · intro q
      rcases (Bool.or_eq_true _ _).mp q with q | q
      · rw [decide_eq_true h.src] at q; cases q
      · obtain ⟨x, hx, h2⟩ := List.any_eq_true.1 q
        unfold awayB at h2
        rw [decide_eq_true (h.ends x hx).1, decide_eq_true (h.ends x hx).2] at h2; cases h2
    · intro q
      obtain ⟨x, hx, h2⟩ := List.any_eq_true.1 q
      unfold lowB at h2
      have := h.lo x hx
      have := of_decide_eq_true h2
      omega
    · intro q
      rw [decide_eq_true h.nd, decide_eq_true h.en] at q; cases q
theorem strict_of_nodup {ys : List Int} (hs : ys.Pairwise (· ≤ ·)) (hn : ys.Nodup) : ys.Pairwise (· < ·) := by
  have := hs.and hn
  exact this.imp (fun ⟨a, b⟩ => by omega)
theorem Good.gk {ys : List Int} {es : List EdV} {s : Int} (h : Good ys es s) (hs : ys.Pairwise (· ≤ ·)) (h1 : ys.length ≤ 1000) (h2 : es.length ≤ 1000) : GK ys (wyF ys es) :=
  ⟨h1, strict_of_nodup hs h.nd, fun p => Nat.le_trans (wyF_len ys es p) h2, fun p y hy => by
    obtain ⟨-, x, hx, -, rfl⟩ := mem_wyF.1 hy
    have := wtN_le x
    exact ⟨plc_lt (h.ends x hx).2, by show wtN x ≤ _; omega⟩⟩
/-- A tree in memory, and what it says. -/
structure TreeAt (B : Nat) (W : World) (p : Nat) (s : Int) (ys : List Int) (es : List EdV) (ds : List DiV) (fs : List Int) : Prop where
  tr : ∃ dv fv, TrAt B W p s dv fv ds fs
  dj : ∃ ord, Dj ys.length (wyF ys es) (plc ys s) ys ds fs ord [] ys.length 0
  gk : GK ys (wyF ys es)
  good : Good ys es s
theorem TreeAt.below {B : Nat} {W W' : World} {p : Nat} {s : Int} {ys : List Int} {es : List EdV} {ds : List DiV} {fs : List Int} (h : TreeAt B W p s ys es ds fs) (hb : Below W.heap.size W W') : TreeAt B W' p s ys es ds fs := by
  obtain ⟨dv, fv, h1⟩ := h.tr
  exact ⟨⟨dv, fv, h1.below hb⟩, h.dj, h.gk, h.good⟩
def BuildAns (w : World) (ks : List Int) (es : List EdV) (s : Int) (po : Option Addr) (er : Int) (W : World) : Prop :=
  ∃ ys, ys.Perm ks ∧ ys.Pairwise (· ≤ ·) ∧ Below w.heap.size w W ∧ er = faultC ys es s ∧ ((er ≠ 0 ∧ po = none) ∨ (er = 0 ∧ ∃ p ds fs, po = some ⟨p, 0, none⟩ ∧ TreeAt w.heap.size W p s ys es ds fs))
set_option maxHeartbeats 2000000 in
set_option maxRecDepth 100000 in
theorem buildS [Inhabited EntF] {w : World} {vv ev : Value} {ks : List Int} {es : List EdV} {s : Int} (hv : NRow w vv ks) (he : ERow 0 w ev es) (hl1 : ks.length ≤ 1000) (hl2 : es.length ≤ 1000) :
    Calls Try.prog 10 #[vv, ev, .int .i64 s] w fun e w' => ∃ po er, e = .returned (.tuple #[.pointer po, .int .i64 er]) ∧ Hid (BuildAns w ks es s po er w') := by
  have C1 := hide (risenS hv (by omega))
  obtain ⟨a0, c0, e0, -⟩ := brow_shape hv
  obtain ⟨n0, hn0⟩ : ∃ n0, vv = .slice a0 n0 c0 := ⟨_, e0⟩
  obtain ⟨a2, c2, e2⟩ := rrow_shape he
  obtain ⟨n2, hn2⟩ : ∃ n2, ev = .slice a2 n2 c2 := ⟨_, e2⟩
  have HE := hide he
  have HL : Hid (ks.length ≤ 1000 ∧ es.length ≤ 1000) := ⟨hl1, hl2⟩
  clear e0 e2 hv he hl1 hl2
  subst hn0 hn2
  go_enter Try.func10, Try.ntmps10
  go_wp2_with fail
  refine (unhide C1).mono ?_
  rintro e w1 ⟨a1, n1, c1, rfl, H1⟩
  obtain ⟨ys, y1, y2, y3, y4⟩ := unhide H1
  have hyl : ys.length ≤ 1000 := by rw [y1.length_eq]; exact (unhide HL).1
  have C2 := hide (faultS (s := s) (brow_at0 y3) y2 (rrow_below (unhide HE) y4) hyl (unhide HL).2)
  obtain ⟨r, hr⟩ : ∃ r, r = faultC ys es s := ⟨_, rfl⟩
  rw [← hr] at C2
  have HY : Hid (ys.Perm ks ∧ ys.Pairwise (· ≤ ·) ∧ NRow w1 (.slice a1 n1 c1) ys ∧ Below w.heap.size w w1 ∧ ys.length ≤ 1000 ∧ r = faultC ys es s) := ⟨y1, y2, brow_at0 y3, y4, hyl, hr⟩
  clear C1 H1 y1 y2 y3 y4 hyl hr
  go_wp2_with fail
  refine (unhide C2).mono ?_
  rintro e w2 ⟨rfl, hb2⟩
  clear C2
  by_cases hr0 : r = 0
  · subst hr0
    have hgood := fault_zero.1 (unhide HY).2.2.2.2.2.symm
    have hB2 : Below w.heap.size w w2 := (unhide HY).2.2.2.1.trans ((unhide hb2).mono (unhide HY).2.2.2.1.size)
    have hrow := nrow_below (unhide HY).2.2.1 (unhide hb2)
    have C3 := hide (bareS (s := s) hrow (unhide HY).2.2.2.2.1)
    have HG : Hid (Good ys es s ∧ GK ys (wyF ys es)) := ⟨hgood, hgood.gk (unhide HY).2.1 (unhide HY).2.2.2.2.1 (unhide HL).2⟩
    have HB2 := hide hB2
    have HR := hide hrow
    clear hgood hB2 hrow hb2
    go_wp2_with fail
    refine (unhide C3).mono ?_
    rintro e w3 ⟨p, rfl, H3⟩
    obtain ⟨a, m, c, fv, hT, hb3⟩ := unhide H3
    have hB3 : Below w.heap.size w w3 := (unhide HB2).trans (hb3.mono (unhide HB2).size)
    have C4 := hide (waysOfS (nrow_below (unhide HR) hb3) (unhide HY).2.1 (rrow_below (unhide HE) hB3) (unhide HY).2.2.2.2.1 (unhide HL).2 (fun x hx => ⟨((unhide HG).1.ends x hx).1, ((unhide HG).1.ends x hx).2, (unhide HG).1.wt x hx⟩))
    have HT : Hid (TrAt w2.heap.size w3 p s (.slice a m c) fv (bareD s ys) (List.replicate ys.length 0)) := hT
    have HB3 : Hid (Below w.heap.size w w3 ∧ Below w2.heap.size w2 w3) := ⟨hB3, hb3⟩
    clear C3 H3 hT hb3 hB3
    go_wp2_with fail
    refine (unhide C4).mono ?_
    rintro e w4 ⟨a4, n4, c4, rfl, H4⟩
    obtain ⟨xs, hW, hb4⟩ := unhide H4
    have hT4 := (unhide HT).below hb4
    have hT0 : TrAt 0 w4 p s (.slice a m c) fv (bareD s ys) (List.replicate ys.length 0) := ⟨hT4.box, rrow_low hT4.ds_ (Nat.zero_le _), brow_low hT4.fs_ (Nat.zero_le _), Nat.zero_le _, hT4.ne1, hT4.ne2, hT4.ne3⟩
    have C5 := hide (growS hT0 (fun b e => ((unhide HT).lt (.inr e)).2) hW (unhide HG).2 (unhide HG).1.src)
    have HB4 : Hid (Below w.heap.size w w4 ∧ ∀ b, b = p ∨ (Value.slice a m c).ownBlock = some b ∨ fv.ownBlock = some b → w.heap.size ≤ b) := ⟨(unhide HB3).1.trans (hb4.mono (unhide HB3).1.size), fun b e => Nat.le_trans (unhide HB2).size (hT4.lt e).1⟩
    clear C4 H4 hW hb4 hT4 hT0
    go_wp2_with fail
    refine (unhide C5).mono ?_
    rintro e w5 ⟨rfl, H5⟩
    have HA : Hid (BuildAns w ks es s (some ⟨p, 0, none⟩) 0 w5) := by
      obtain ⟨ds, fs, ord, hD, hT5, ht⟩ := unhide H5
      obtain ⟨hB4, hlo⟩ := unhide HB4
      refine ⟨ys, (unhide HY).1, (unhide HY).2.1, hB4.trans (ht.below hB4.size (fun j hj => hlo j (.inr hj))), (unhide HY).2.2.2.2.2, .inr ⟨rfl, p, ds, fs, rfl, ⟨_, _, hT5.box, ?_, ?_, hlo p (.inl rfl), hT5.ne1, hT5.ne2, hT5.ne3⟩, ⟨ord, hD⟩, (unhide HG).2, (unhide HG).1⟩⟩
      · obtain ⟨q1, q2⟩ := hT5.ds_
        exact ⟨q1, q2.imp id (fun ⟨g, cap, cur, e, q, r⟩ => ⟨g, cap, cur, e, hlo g (.inr (.inl (by rw [e]; rfl))), r⟩)⟩
      · obtain ⟨q1, q2⟩ := hT5.fs_
        exact ⟨q1, q2.imp id (fun ⟨g, cap, cur, e, q, r⟩ => ⟨g, cap, cur, e, hlo g (.inr (.inr (by rw [e]; rfl))), r⟩)⟩
    clear C5 H5 HB4 HG HT HB3 HB2 HR HY HE HL
    go_wp2_with fail
    go_ret2
    exact ⟨_, _, rfl, HA⟩
  · have HA : Hid (BuildAns w ks es s none r w2) := ⟨ys, (unhide HY).1, (unhide HY).2.1, (unhide HY).2.2.2.1.trans ((unhide hb2).mono (unhide HY).2.2.2.1.size), (unhide HY).2.2.2.2.2, .inl ⟨hr0, rfl⟩⟩
    have z0 : (r != 0) = true := by simpa using hr0
    clear HY HE HL hb2 hr0
    go_wp2_with fail
    go_ret2
    exact ⟨_, _, rfl, HA⟩
end Go.Proofs.Ytijgeoegeeejcaa
