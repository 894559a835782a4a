/- awake: the fixed fact. -/
import Derived.Test.YtijgeoegeeejcaaPath13
import Derived.Test.YtijgeoegeeejcaaCut13
namespace Go.Proofs.Ytijgeoegeeejcaa

section
open Go.RowKit Go.Maps
theorem srt_eq : ∀ {a b : List Int}, a.Perm b → a.Pairwise (· ≤ ·) → b.Pairwise (· ≤ ·) → a = b
  | [], b, hp, _, _ => by rw [hp.symm.eq_nil]
  | x :: a, [], hp, _, _ => by have := hp.length_eq; simp at this
  | x :: a, y :: b, hp, ha, hb => by
    obtain ⟨a1, a2⟩ := List.pairwise_cons.1 ha
    obtain ⟨b1, b2⟩ := List.pairwise_cons.1 hb
    have hx : x ∈ y :: b := hp.mem_iff.1 (by simp)
    have hy : y ∈ x :: a := hp.mem_iff.2 (by simp)
    have e : x = y := by
      rcases List.mem_cons.1 hx with q | q
      · exact q
      · rcases List.mem_cons.1 hy with q2 | q2
        · exact q2.symm
        · have := a1 y q2; have := b1 x q; omega
    subst e
    rw [srt_eq (hp.cons_inv) a2 b2]
theorem Dj.all {n : Nat} {W : Nat → List WyV} {st : Nat} {ys : List Int} {ds : List DiV} {fs : List Int} {ord : List Nat} (h : Dj n W st ys ds fs ord [] n 0) {q : Nat} (hq : farAt ds q = false) : q ∈ ord := by
  rcases h.cov q (by rw [← h.dl]; exact far_lt hq) hq with z | ⟨x, hx, -⟩
  · exact z
  · cases hx
/-- A search whose last edges are there in the other finds nothing nearer than it. -/
theorem Dj.dom {n : Nat} {W1 W2 : Nat → List WyV} {st : Nat} {ys : List Int} {ds1 ds2 : List DiV} {fs1 fs2 : List Int} {ord1 ord2 : List Nat} (h1 : Dj n W1 st ys ds1 fs1 ord1 [] n 0) (h2 : Dj n W2 st ys ds2 fs2 ord2 [] n 0)
    (hs : ∀ p, ∀ y ∈ W1 p, farAt ds1 y.2.1 = false → y.1 = edgeAt ds1 y.2.1 → y ∈ W2 p) (hw : ∀ p, ∀ y ∈ W1 p, y.2.2 ≤ 2139095040) :
    ∀ q, farAt ds1 q = false → farAt ds2 q = false ∧ bitsAt ds2 q ≤ bitsAt ds1 q := by
  have key : ∀ (k q : Nat), ord1.idxOf q = k → farAt ds1 q = false → farAt ds2 q = false ∧ bitsAt ds2 q ≤ bitsAt ds1 q := by
    intro k
    induction k using Nat.strongRecOn with
    | _ k ih =>
      intro q hk hf
      by_cases e : q = st
      · subst e
        exact ⟨h2.src.2.1, by rw [h2.src.2.2.1]; exact Nat.zero_le _⟩
      · have hq := h1.all hf
        obtain ⟨p, hp, y, hy, y1, y2, y3, -, y5⟩ := h1.hang q (h1.oin q hq).1 hf e
        have hpf := (h1.oin p hp).2.1
        obtain ⟨i1, i2⟩ := ih (ord1.idxOf p) (by have := y5 hq; omega) p rfl hpf
        have hy2 := hs p y hy (by rw [y1]; exact hf) (by rw [y1]; exact y2)
        obtain ⟨j, hj⟩ := List.mem_iff_getElem?.1 hy2
        have hpn := (h1.oin p hp).1
        obtain ⟨g1, g2⟩ := h2.han p (h2.all i1) j y hj (fun e => by omega)
        rw [y1] at g1 g2
        refine ⟨g1, Nat.le_trans g2 ?_⟩
        rw [y3]
        exact M.addC_mono (h2.le_ p) (h1.le_ p) (hw p y hy) i2
  exact fun q => key _ q rfl
theorem Dj.same {n : Nat} {W1 W2 : Nat → List WyV} {st : Nat} {ys : List Int} {ds1 ds2 : List DiV} {fs1 fs2 : List Int} {ord1 ord2 : List Nat} (h1 : Dj n W1 st ys ds1 fs1 ord1 [] n 0) (h2 : Dj n W2 st ys ds2 fs2 ord2 [] n 0)
    (a : ∀ q, farAt ds1 q = false → farAt ds2 q = false ∧ bitsAt ds2 q ≤ bitsAt ds1 q) (b : ∀ q, farAt ds2 q = false → farAt ds1 q = false ∧ bitsAt ds1 q ≤ bitsAt ds2 q) (q : Nat) : farAt ds1 q = farAt ds2 q ∧ bitsAt ds1 q = bitsAt ds2 q := by
  cases e1 : farAt ds1 q with
  | false =>
    obtain ⟨g1, g2⟩ := a q e1
    obtain ⟨-, g3⟩ := b q g1
    exact ⟨g1.symm, by omega⟩
  | true =>
    cases e2 : farAt ds2 q with
    | false => have := (b q e2).1; rw [e1] at this; cases this
    | true => exact ⟨rfl, by rw [(h1.farz q e1).1, (h2.farz q e2).1]⟩
theorem inj_of_nodup : ∀ {es : List EdV}, (es.map (·.1)).Nodup → ∀ {x y : EdV}, x ∈ es → y ∈ es → x.1 = y.1 → x = y
  | [], _, _, _, hx, _, _ => by cases hx
  | z :: es, hn, x, y, hx, hy, e => by
    rw [List.map_cons, List.nodup_cons] at hn
    rcases List.mem_cons.1 hx with q | q <;> rcases List.mem_cons.1 hy with r | r
    · rw [q, r]
    · exact absurd (List.mem_map.2 ⟨y, r, by rw [← e, q]⟩) hn.1
    · exact absurd (List.mem_map.2 ⟨x, q, by rw [e, r]⟩) hn.1
    · exact inj_of_nodup hn.2 q r e
theorem nodup_of_map {es : List EdV} (h : (es.map (·.1)).Nodup) : es.Nodup := by
  refine (List.pairwise_map.1 h).imp (fun hne e => hne (by rw [e]))
/-- What is told of both ends of an edge. -/
theorem TreeAt.edge {B : Nat} {W : World} {p : Nat} {s : Int} {ys : List Int} {es : List EdV} {ds : List DiV} {fs : List Int} (h : TreeAt B W p s ys es ds fs) {x : EdV} (hx : x ∈ es) :
    (askC ys ds x.2.1 = 130 ∨ askC ys ds x.2.1 = 0) ∧ (askC ys ds x.2.1 = 0 → askC ys ds x.2.2.1 = 0 ∧ askB ys ds x.2.2.1 ≤ M.addC (askB ys ds x.2.1) (wtN x) ∧ (askE ys ds x.2.2.1 = x.1 → askB ys ds x.2.2.1 = M.addC (askB ys ds x.2.1) (wtN x) ∧ x.2.2.1 ≠ s)) := by
  obtain ⟨ord, hd⟩ := h.dj
  obtain ⟨hu, hv⟩ := h.good.ends x hx
  have hpu := plc_lt hu
  refine ⟨?_, fun h0 => ?_⟩
  · unfold askC
    rw [if_pos hu]
    cases farAt ds (plc ys x.2.1)
    · exact .inr rfl
    · exact .inl rfl
  · have hfu := (ask_ok.1 h0).2
    have hy : wayOf ys x ∈ wyF ys es (plc ys x.2.1) := mem_wyF.2 ⟨hpu, x, hx, rfl, rfl⟩
    obtain ⟨j, hj⟩ := List.mem_iff_getElem?.1 hy
    obtain ⟨g1, g2⟩ := hd.han _ (hd.all hfu) j _ hj (fun e => by omega)
    have hc : askC ys ds x.2.2.1 = 0 := ask_ok.2 ⟨hv, g1⟩
    have eb : askB ys ds x.2.2.1 = bitsAt ds (plc ys x.2.2.1) := if_pos hc
    have ea : askB ys ds x.2.1 = bitsAt ds (plc ys x.2.1) := if_pos h0
    have ee : askE ys ds x.2.2.1 = edgeAt ds (plc ys x.2.2.1) := if_pos hc
    rw [eb, ea, ee]
    refine ⟨hc, g2, fun e => ?_⟩
    have hlo := h.good.lo x hx
    have hne : plc ys x.2.2.1 ≠ plc ys s := fun z => by
      have := hd.src.2.2.2
      rw [← z, e] at this; omega
    obtain ⟨p2, k1, y, k2, k3, k4, k5, -, -⟩ := hd.hang _ (plc_lt hv) g1 hne
    obtain ⟨-, x2, m1, m2, m3⟩ := mem_wyF.1 k2
    have e2 : x2.1 = x.1 := by rw [← e, ← k4, ← m3]; rfl
    have ex : x2 = x := inj_of_nodup h.good.en m1 hx e2
    subst ex
    rw [← m2, ← m3] at k5
    exact ⟨k5, fun z => hne (by rw [z])⟩
/-- The edges with which paths end, among the first ones. -/
def usedB (ys : List Int) (ds : List DiV) (x : EdV) : Bool := decide (askC ys ds x.2.1 = 0) && decide (askE ys ds x.2.2.1 = x.1)
def usedN (ys : List Int) (ds : List DiV) (es : List EdV) : Nat := es.countP (usedB ys ds)
theorem near_len (ds : List DiV) : (nearV ds).length = ((List.range ds.length).filter (fun q => !farAt ds q)).length := by
  unfold nearV
  rw [List.length_map, ← List.countP_eq_length_filter, ← List.countP_eq_length_filter]
  have : ds = (List.range ds.length).map (fun q => ds.getD q d0) := by
    apply List.ext_getElem
    · simp
    · intro i h1 h2
      simp [List.getD_eq_getElem?_getD, h1]
  conv => lhs; rw [this]
  rw [List.countP_map]; rfl
theorem TreeAt.count {B : Nat} {W : World} {p : Nat} {s : Int} {ys : List Int} {es : List EdV} {ds : List DiV} {fs : List Int} (h : TreeAt B W p s ys es ds fs) : usedN ys ds es + 1 = (nearV ds).length := by
  obtain ⟨ord, hd⟩ := h.dj
  have hlt : ∀ {q}, farAt ds q = false → q < ds.length := far_lt
  have h1 : ((es.filter (usedB ys ds)).map (fun x => plc ys x.2.2.1)).Perm (((List.range ds.length).filter (fun q => !farAt ds q)).erase (plc ys s)) := by
    have hnr : ((List.range ds.length).filter (fun q => !farAt ds q)).Nodup := List.nodup_range.filter _
    refine (List.perm_ext_iff_of_nodup ?_ (hnr.erase _)).2 (fun q => ?_)
    · have he : (es.filter (usedB ys ds)).Nodup := (nodup_of_map h.good.en).filter _
      refine (List.pairwise_map.2 (he.imp_of_mem ?_) : _)
      intro x y hx hy hne e
      obtain ⟨x1, x2⟩ := List.mem_filter.1 hx
      obtain ⟨y1, y2⟩ := List.mem_filter.1 hy
      unfold usedB at x2 y2
      rw [Bool.and_eq_true, decide_eq_true_eq, decide_eq_true_eq] at x2 y2
      have ex := (((h.edge x1).2 x2.1).1)
      have ey := (((h.edge y1).2 y2.1).1)
      have fx : askE ys ds x.2.2.1 = edgeAt ds (plc ys x.2.2.1) := if_pos ex
      have fy : askE ys ds y.2.2.1 = edgeAt ds (plc ys y.2.2.1) := if_pos ey
      exact hne (inj_of_nodup h.good.en x1 y1 (by rw [← x2.2, ← y2.2, fx, fy, e]))
    · rw [hnr.mem_erase_iff, List.mem_filter, List.mem_range]
      constructor
      · intro hq
        obtain ⟨x, hx, rfl⟩ := List.mem_map.1 hq
        obtain ⟨x1, x2⟩ := List.mem_filter.1 hx
        unfold usedB at x2
        rw [Bool.and_eq_true, decide_eq_true_eq, decide_eq_true_eq] at x2
        obtain ⟨e1, -, e3⟩ := (h.edge x1).2 x2.1
        have hf := (ask_ok.1 e1).2
        refine ⟨fun z => (e3 x2.2).2 ?_, hlt hf, by rw [hf]; rfl⟩
        have a1 := at_plc h.gk.rise (h.good.ends x x1).2
        have a2 := at_plc h.gk.rise h.good.src
        rw [z, a2] at a1
        exact (Option.some.inj a1).symm
      · rintro ⟨hne, hql, hf⟩
        have hf' : farAt ds q = false := by simpa using hf
        obtain ⟨p2, k1, y, k2, k3, k4, k5, -, -⟩ := hd.hang q (by rw [← hd.dl]; exact hql) hf' hne
        obtain ⟨-, x, m1, m2, m3⟩ := mem_wyF.1 k2
        have hp2 := (hd.oin p2 k1).2.1
        have hU : askC ys ds x.2.1 = 0 := ask_ok.2 ⟨(h.good.ends x m1).1, by rw [m2]; exact hp2⟩
        have hpv : plc ys x.2.2.1 = q := by rw [← k3, ← m3]; rfl
        have hV : askE ys ds x.2.2.1 = edgeAt ds (plc ys x.2.2.1) := if_pos ((h.edge m1).2 hU).1
        refine List.mem_map.2 ⟨x, List.mem_filter.2 ⟨m1, ?_⟩, hpv⟩
        unfold usedB
        rw [Bool.and_eq_true, decide_eq_true_eq, decide_eq_true_eq]
        refine ⟨hU, ?_⟩
        rw [hV, hpv, ← k4, ← m3]; rfl
  have h2 := h1.length_eq
  have hs := hd.src
  have hmem : plc ys s ∈ (List.range ds.length).filter (fun q => !farAt ds q) := List.mem_filter.2 ⟨List.mem_range.2 (hlt hs.2.1), by rw [hs.2.1]; rfl⟩
  rw [List.length_map, List.length_erase_of_mem hmem] at h2
  have h3 := List.length_pos_of_mem hmem
  unfold usedN
  rw [List.countP_eq_length_filter, near_len, h2]
  omega
theorem used_snoc (ys : List Int) (ds : List DiV) {es : List EdV} {i : Nat} {x : EdV} (h : es[i]? = some x) : usedN ys ds (es.take (i + 1)) = usedN ys ds (es.take i) + if usedB ys ds x = true then 1 else 0 := by
  unfold usedN
  rw [List.take_add_one, h, List.countP_append]
  simp [List.countP_cons]
end

section
open Go.RowKit Go.Maps
def eA : List EdV := [(3, 1, 2, 1065353216)]
theorem faultA : faultC [1, 2] eA 1 = 0 := by decide
theorem wA0 : wyF [1, 2] eA 0 = [(3, 1, 1065353216)] := by decide
theorem wA1 : wyF [1, 2] eA 1 = [] := by decide
theorem awake_tree {B : Nat} {W : World} {p : Nat} {ds : List DiV} {fs : List Int} (h : TreeAt B W p 1 [1, 2] eA ds fs) :
    askC [1, 2] ds 2 = 0 ∧ askB [1, 2] ds 2 = 1065353216 ∧ askE [1, 2] ds 2 = 3 ∧ ∀ l, Back ds fs (plc [1, 2] 2) l → l = [3] := by
  obtain ⟨ord, hd⟩ := h.dj
  have hst : plc [1, 2] 1 = 0 := by decide
  have hp2 : plc [1, 2] 2 = 1 := by decide
  have hs := hd.src
  rw [hst] at hs
  have h0 : (0 : Nat) ∈ ord := by
    rcases hd.cov 0 (by decide) hs.2.1 with q | ⟨x, hx, -⟩
    · exact q
    · cases hx
  have h1 := (hd.han 0 h0 0 (3, 1, 1065353216) (by rw [wA0]; rfl) (fun e => by cases e)).1
  obtain ⟨pp, k1, y, k2, k3, k4, k5, k6, -⟩ := hd.hang 1 (by decide) h1 (by rw [hst]; decide)
  have hpp : pp < 2 := (hd.oin pp k1).1
  have hpp0 : pp = 0 := by
    by_cases e : pp = 1
    · subst e; rw [wA1] at k2; cases k2
    · omega
  subst hpp0
  rw [wA0] at k2
  have hy : y = (3, 1, 1065353216) := by simpa using k2
  subst hy
  rw [hs.2.2.1, M.addC_comm (by omega) (by decide), M.addC_zero (by decide)] at k5
  have ha : askC [1, 2] ds 2 = 0 := ask_ok.2 ⟨by decide, by rw [hp2]; exact h1⟩
  refine ⟨ha, by unfold askB; rw [if_pos ha, hp2]; exact k5, by unfold askE; rw [if_pos ha, hp2]; exact k4.symm, fun l hl => ?_⟩
  rw [hp2] at hl
  cases l with
  | nil => have : edgeAt ds 1 = 0 := hl; rw [← k4] at this; cases this
  | cons e l =>
    obtain ⟨e1, -, q, e3, e4⟩ := hl
    rw [k6] at e3
    have hq : q = 0 := by have := Option.some.inj e3; exact_mod_cast this.symm
    subst hq
    have he : e = 3 := by rw [e1, ← k4]
    subst he
    cases l with
    | nil => rfl
    | cons e' l' =>
      obtain ⟨f1, f2, -⟩ := e4
      rw [hs.2.2.2] at f1
      exact absurd f1 f2
set_option maxHeartbeats 4000000 in
set_option maxRecDepth 100000 in
theorem awakeS [Inhabited EntF] (w : World) : Calls Try.prog 8 #[] w fun e w' => e = .returned (.bool true) ∧ Hid (Below w.heap.size w w') := by
  have hb1 := below_new w (.cells #[.int .i64 1, .int .i64 2] 3)
  have r1 := row_new w #[.int .i64 1, .int .i64 2] [1, 2] rfl (by decide)
  have hb2 := below_new (w.alloc (.cells #[.int .i64 1, .int .i64 2] 3)) (.cells #[.int .i64 3, .int .i64 1, .int .i64 2, .int .u32 1065353216] 42)
  have r2 := erow_new (w.alloc (.cells #[.int .i64 1, .int .i64 2] 3)) #[.int .i64 3, .int .i64 1, .int .i64 2, .int .u32 1065353216] eA rfl (by decide)
  have hs1 : (w.alloc (.cells #[.int .i64 1, .int .i64 2] 3)).heap.size = w.heap.size + 1 := by simp
  have hB := hb1.trans (hb2.mono hb1.size)
  have C1 := hide (buildS (s := 1) (brow_at0 (brow_kept r1 (fun b e => hb2.block b (r1.lt b e).2))) (rrow_low r2 (Nat.zero_le _)) (by decide) (by decide))
  rw [hs1] at C1
  have HB := hide hB
  clear hb1 hb2 r1 r2 hs1 hB
  obtain ⟨W0, hW0⟩ : ∃ W0, W0 = (w.alloc (.cells #[.int .i64 1, .int .i64 2] 3)).alloc (.cells #[.int .i64 3, .int .i64 1, .int .i64 2, .int .u32 1065353216] 42) := ⟨_, rfl⟩
  rw [← hW0] at C1 HB
  have C1' : Hid (Calls Try.prog 10 #[.slice (some ⟨w.heap.size, 0, none⟩) 2 2, .slice (some ⟨w.heap.size + 1, 0, none⟩) 1 1, .int .i64 1] W0 fun e w' => ∃ po er, e = .returned (.tuple #[.pointer po, .int .i64 er]) ∧ Hid (BuildAns W0 [1, 2] eA 1 po er w')) := unhide C1
  clear C1
  have HW0 := hide hW0
  clear hW0
  go_enter Try.func8, Try.ntmps8
  go_wp2_with fail
  rw [← unhide HW0]
  refine (unhide C1').mono ?_
  rintro e w3 ⟨po, er, rfl, H3⟩
  obtain ⟨p, ds, fs, rfl, rfl, HT⟩ : ∃ p ds fs, po = some ⟨p, 0, none⟩ ∧ er = 0 ∧ Hid (TreeAt W0.heap.size w3 p 1 [1, 2] eA ds fs ∧ Below w.heap.size w w3) := by
    obtain ⟨ys, q1, q2, q3, q4, q5⟩ := unhide H3
    have hys : ys = [1, 2] := srt_eq q1 q2 (by decide)
    subst hys
    rw [faultA] at q4
    rcases q5 with ⟨z, -⟩ | ⟨-, p, ds, fs, e, hT⟩
    · exact absurd q4 z
    · exact ⟨p, ds, fs, e, q4, hT, (unhide HB).trans (q3.mono (unhide HB).size)⟩
  have C2 := hide (distT (unhide HT).1 2)
  rw [(awake_tree (unhide HT).1).1, (awake_tree (unhide HT).1).2.1] at C2
  clear C1' H3 HW0 HB
  go_wp2_with fail
  refine (unhide C2).mono ?_
  rintro e w4 ⟨rfl, hb4⟩
  have hT4 := (unhide HT).1.below (unhide hb4)
  have C3 := hide (pathT hT4 2)
  rw [(awake_tree hT4).1] at C3
  have HT4 : Hid (TreeAt W0.heap.size w4 p 1 [1, 2] eA ds fs ∧ Below w.heap.size w w4) := ⟨hT4, (unhide HT).2.trans ((unhide hb4).mono (unhide HT).2.size)⟩
  clear C2 hb4 hT4 HT
  go_wp2_with fail
  refine (unhide C3).mono ?_
  rintro e w5 ⟨a, n, c, rfl, H5⟩
  obtain ⟨g, rfl, rfl, k1⟩ : ∃ g, a = some ⟨g, 0, none⟩ ∧ n = 1 ∧ w5.cell? ⟨g, 0, none⟩ = some (.int .i64 3) := by
    obtain ⟨-, -, h5⟩ := unhide H5
    obtain ⟨l, l1, l2, -⟩ := h5 (awake_tree (unhide HT4).1).1
    have hl := (awake_tree (unhide HT4).1).2.2.2 l l1
    subst hl
    obtain ⟨g, rfl⟩ := brow_some l2 (by decide)
    obtain ⟨_, _, e, -⟩ := brow_shape l2
    injection e with _ e2 _
    subst e2
    exact ⟨g, rfl, rfl, brow_at l2 (j := 0) rfl⟩
  have hT5 := (unhide HT4).1.below (unhide H5).1
  have C4 := hide (lastT hT5 2)
  rw [(awake_tree hT5).2.2.1] at C4
  have C5 : Hid (∀ w6, Below w5.heap.size w5 w6 → Calls Try.prog 22 #[.pointer (some ⟨p, 0, none⟩)] w6 fun e w' => e = .returned (.int .i64 1) ∧ w' = w6) := fun w6 hb => sourceT (hT5.below hb)
  have HB5 : Hid (Below w.heap.size w w5) := (unhide HT4).2.trans ((unhide H5).1.mono (unhide HT4).2.size)
  clear C3 H5 hT5 HT4
  go_wp2_with fail
  refine (unhide C4).mono ?_
  rintro e w6 ⟨rfl, hb6⟩
  have C6 := hide (unhide C5 w6 (unhide hb6))
  have HB6 : Hid (Below w.heap.size w w6) := (unhide HB5).trans ((unhide hb6).mono (unhide HB5).size)
  clear C4 C5 hb6 HB5
  go_wp2_with fail
  refine (unhide C6).mono ?_
  rintro e w7 ⟨rfl, hw7⟩
  rw [hw7]
  clear C6 hw7 w7
  go_wp2_with fail
  go_ret
  exact ⟨rfl, HB6⟩
end

end Go.Proofs.Ytijgeoegeeejcaa
