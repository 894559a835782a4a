/- SccAnswers walked. -/
import Derived.Test.YtdpdghhieokcfaaTurnM9
import Derived.Test.YtdpdghhieokcfaaRefW9
import Derived.Test.YtdpdghhieokcfaaRefA9
namespace Go.Proofs.Ytdpdghhieokcfaa
open Go.RowKit Go.Maps T9
/-- The code and the truth value that Acyclic answers. -/
def AcA (ks : List Int) (l : List (Int × Int)) (c : Int) (b : Bool) : Prop :=
  (¬ ks.Nodup ∧ c = 2 ∧ b = false) ∨ (ks.Nodup ∧ ¬ okArcs ks l ∧ c = 5 ∧ b = false) ∨ (ks.Nodup ∧ okArcs ks l ∧ c = 0 ∧ ∃ V h, V.Perm ks ∧ V.Pairwise (· < ·) ∧ Heads (nextOf V l) V.length h ∧ (b = true ↔ ∀ p, p < V.length → h p = p ∧ p ∉ nextOf V l p))
theorem acyT {w : World} {v av : Value} {ks : List Int} {l : List (Int × Int)} (hv : NRow w v ks) (ha : ARow w av l) (hn : ks.length ≤ 1000) (hm : l.length ≤ 1000) :
    Calls Try.prog 12 #[v, av] w fun e w' => Hid (∃ b c, e = .returned (.tuple #[.bool b, .int .i64 c]) ∧ AcA ks l c b ∧ Below w.heap.size w w') := by
  refine (acyclicOfS hv ha hn hm).mono ?_
  intro e w' hh
  obtain ⟨hb, hcase⟩ := unhide hh
  rcases hcase with ⟨q, rfl⟩ | ⟨q1, q2, rfl⟩ | ⟨q1, q2, y, V, rfl, hp, hs, b, h, rfl, hH, -, hiff⟩
  · exact ⟨_, _, rfl, .inl ⟨q, rfl, rfl⟩, hb⟩
  · exact ⟨_, _, rfl, .inr (.inl ⟨q1, q2, rfl, rfl⟩), hb⟩
  · exact ⟨_, _, rfl, .inr (.inr ⟨q1, q2, rfl, V, h, hp, hs, hH, hiff⟩), hb⟩
theorem of_ac {ks : List Int} {l : List (Int × Int)} {c c' : Int} {xs : List (List Int)} {b : Bool} (h : OfA ks l c xs) (h' : AcA ks l c' b) : c = c' := by
  rcases h with ⟨q1, rfl, -⟩ | ⟨q1, q2, rfl, -⟩ | ⟨q1, q2, rfl, -⟩ <;> rcases h' with ⟨q1', rfl, -⟩ | ⟨q1', q2', rfl, -⟩ | ⟨q1', q2', rfl, -⟩
  · rfl
  · exact absurd q1' q1
  · exact absurd q1' q1
  · exact absurd q1 q1'
  · rfl
  · exact absurd q2' q2
  · exact absurd q1 q1'
  · exact absurd q2 q2'
  · rfl
theorem of_err {ks : List Int} {l : List (Int × Int)} {c c' : Int} {xs : List (List Int)} (h : OfA ks l c xs) (h' : ErrA ks l c') : c = c' := by
  rcases h with ⟨q1, rfl, -⟩ | ⟨q1, q2, rfl, -⟩ | ⟨q1, q2, rfl, -⟩ <;> rcases h' with ⟨q1', rfl⟩ | ⟨q1', q2', rfl⟩ | ⟨q1', q2', rfl⟩
  · rfl
  · exact absurd q1' q1
  · exact absurd q1' q1
  · exact absurd q1 q1'
  · rfl
  · exact absurd q2' q2
  · exact absurd q1 q1'
  · exact absurd q2 q2'
  · rfl
theorem of_bad {ks : List Int} {l : List (Int × Int)} {c : Int} {xs : List (List Int)} {ys : List Int} {b : Bool} (h1 : OfA ks l c xs) (h2 : OrA ks l c ys) (h3 : AcA ks l c b) (hc : c ≠ 0) : xs = [] ∧ ys = [] ∧ b = false := by
  refine ⟨?_, ?_, ?_⟩
  · rcases h1 with ⟨-, -, e⟩ | ⟨-, -, -, e⟩ | ⟨-, -, e, -⟩
    · exact e
    · exact e
    · exact absurd e hc
  · rcases h2 with ⟨-, -, e⟩ | ⟨-, -, -, e⟩ | ⟨-, -, e, -⟩
    · exact e
    · exact e
    · exact absurd e hc
  · rcases h3 with ⟨-, -, e⟩ | ⟨-, -, -, e⟩ | ⟨-, -, e, -⟩
    · exact e
    · exact e
    · exact absurd e hc
/-- What is so of the good lists: the graph, its heads, and the three answers. -/
structure GoodA (ks : List Int) (l : List (Int × Int)) (A : List (List Int)) (X : List Int) (b : Bool) (V : List Int) (h : Nat → Nat) : Prop where
  perm : V.Perm ks
  sorted : V.Pairwise (· < ·)
  ok : okArcs V l
  heads : Heads (nextOf V l) V.length h
  of_ : A = compsV V h V.length
  order : ∀ T, T9.Told (headsTo h V.length) (arcsOf h (nextOf V l) V.length) T → (∀ m, m ∈ headsTo h V.length → m ∈ T) → X = cv V T
  acyc : b = true ↔ ∀ p, p < V.length → h p = p ∧ p ∉ nextOf V l p
theorem goodA {ks : List Int} {l : List (Int × Int)} {A : List (List Int)} {X : List Int} {b : Bool} (h1 : OfA ks l 0 A) (h2 : OrA ks l 0 X) (h3 : AcA ks l 0 b) : ∃ V h, GoodA ks l A X b V h := by
  rcases h1 with ⟨-, q, -⟩ | ⟨-, -, q, -⟩ | ⟨q1, q2, -, V, h, hp, hs, hH, hA⟩
  · cases q
  · cases q
  rcases h2 with ⟨-, q, -⟩ | ⟨-, -, q, -⟩ | ⟨-, -, -, V', h', T', hp', hs', hH', hT', ha', hX⟩
  · cases q
  · cases q
  rcases h3 with ⟨-, q, -⟩ | ⟨-, -, q, -⟩ | ⟨-, -, -, V3, h3, hp3, hs3, hH3, hb⟩
  · cases q
  · cases q
  obtain rfl : V' = V := perm_sorted hp' hp hs' hs
  obtain rfl : V3 = V' := perm_sorted hp3 hp hs3 hs
  refine ⟨V3, h, hp, hs, fun a ha => ⟨hp.mem_iff.2 (q2 a ha).1, hp.mem_iff.2 (q2 a ha).2⟩, hH, hA, fun T hT ha => ?_, ?_⟩
  · rw [hX, or_one hp q2 (fun _ => Iff.rfl) hH' hH hT' hT ha' ha]
  · rw [hb]
    have e := hH3.same_arcs hH (fun _ _ => Iff.rfl)
    constructor
    · intro hq p hp'; rw [← e p hp']; exact hq p hp'
    · intro hq p hp'; rw [e p hp']; exact hq p hp'
set_option maxHeartbeats 16000000 in
set_option maxRecDepth 100000 in
theorem ansS [Inhabited EntI] {w : World} {a0 a1 : Option Addr} {len0 cap0 len1 cap1 : Nat} {z : Nat → Int} {o : Nat → Int × Int} (h0 : IsIntsC w a0 len0 cap0 z) (h1 : IsArcsC w a1 len1 cap1 o) (hb0 : len0 < 1000000000000000000) (hb1 : len1 < 1000000000000000000) :
    Calls Try.prog 3 #[.slice a0 len0 cap0, .slice a1 len1 cap1] w fun e w' => e = .returned (.bool true) ∧ Below w.heap.size w w' := by
  have CA := hide (awakeS w)
  have HI := hide (And.intro h0 (And.intro h1 (And.intro hb0 hb1)))
  clear h0 h1 hb0 hb1
  go_enter Try.func3, Try.ntmps3
  go_wp2_with fail
  refine (unhide CA).mono ?_
  rintro e w1 ⟨rfl, hB1⟩
  clear CA
  have CC : Hid (Calls Try.prog 9 #[.slice a0 len0 cap0, .slice a1 len1 cap1] w1 fun e w' => Hid (∃ v1 v2, e = .returned (.tuple #[v1, v2]) ∧ CutAns w1 ((List.range (min len0 60)).map z) ((List.range (min len1 240)).map o) v1 v2 w')) := by
    obtain ⟨h0, h1, hb0, hb1⟩ := unhide HI
    exact cutS ⟨isInts_below h0.1 (unhide hB1), h0.2⟩ (isArcs_below h1 (unhide hB1)) hb0 hb1
  go_wp2_with fail
  refine (unhide CC).mono ?_
  intro r w2 hh
  obtain ⟨v1, v2, rfl, hCut⟩ := unhide hh
  clear CC hh HI
  obtain ⟨ks, hks, hkl⟩ : ∃ ks, ks = (List.range (min len0 60)).map z ∧ ks.length ≤ 60 := ⟨_, rfl, by simp; omega⟩
  obtain ⟨l, hl, hll⟩ : ∃ l, l = (List.range (min len1 240)).map o ∧ l.length ≤ 240 := ⟨_, rfl, by simp; omega⟩
  rw [← hks, ← hl] at hCut
  have hRG : RG w1 ks l v1 v2 w2 := hCut
  obtain ⟨x1, c1, e1, -⟩ := brow_shape hRG.2.1
  obtain ⟨x2, c2, e2, -⟩ := abrow_shape hRG.2.2.1
  obtain ⟨n1, hn1⟩ : ∃ n1, n1 = ks.length := ⟨_, rfl⟩
  obtain ⟨n2, hn2⟩ : ∃ n2, n2 = l.length := ⟨_, rfl⟩
  rw [← hn1] at e1
  rw [← hn2] at e2
  subst e1 e2
  have CO1 := hide (ofT (brow_at0 hRG.2.1) (arow_zero hRG.2.2.1) (by omega) (by omega))
  have HN := hide (And.intro hn1 (And.intro hn2 (And.intro hkl hll)))
  have HRG := hide hRG
  have HBW : Hid (Below w.heap.size w w1) := unhide hB1
  clear hRG hCut hks hl hkl hll hn1 hn2 hB1
  go_wp2_with fail
  refine (unhide CO1).mono ?_
  intro r w3 hh
  obtain ⟨va, ca, A, rfl, hA, lA, b3⟩ := unhide hh
  clear CO1 hh
  have HRG3 := hide ((unhide HRG).below b3)
  have HA : Hid (OfA ks l ca A ∧ LLr w3 va A) := ⟨hA, lA⟩
  have CO2 := hide (orderT (brow_at0 (unhide HRG3).2.1) (arow_zero (unhide HRG3).2.2.1) (by have := unhide HN; omega) (by have := unhide HN; omega))
  clear hA lA b3 HRG
  go_wp2_with fail
  refine (unhide CO2).mono ?_
  intro r w4 hh
  obtain ⟨vx, cx, X, rfl, hX, lX, b4⟩ := unhide hh
  clear CO2 hh
  have ecx := of_or (unhide HA).1 hX
  subst ecx
  have HRG4 := hide ((unhide HRG3).below b4)
  have HX : Hid (OfA ks l ca A ∧ LLr w4 va A ∧ OrA ks l ca X ∧ NRow w4 vx X) := ⟨(unhide HA).1, llr_below (unhide HA).2 b4, hX, lX⟩
  have CO3 := hide (acyT (brow_at0 (unhide HRG4).2.1) (arow_zero (unhide HRG4).2.2.1) (by have := unhide HN; omega) (by have := unhide HN; omega))
  clear hX lX b4 HRG3 HA
  go_wp2_with fail
  refine (unhide CO3).mono ?_
  intro r w5 hh
  obtain ⟨yb, cy, rfl, hY, b5⟩ := unhide hh
  clear CO3 hh
  have ecy := of_ac (unhide HX).1 hY
  subst ecy
  have HRG5 := hide ((unhide HRG4).below b5)
  have HY : Hid (OfA ks l ca A ∧ LLr w5 va A ∧ OrA ks l ca X ∧ NRow w5 vx X ∧ AcA ks l ca yb) := ⟨(unhide HX).1, llr_below (unhide HX).2.1 b5, (unhide HX).2.2.1, nrow_below (unhide HX).2.2.2 b5, hY⟩
  have CE := hide (errorS (brow_at0 (unhide HRG5).2.1) (arow_zero (unhide HRG5).2.2.1) (by have := unhide HN; omega) (by have := unhide HN; omega))
  clear hY b5 HRG4 HX
  go_wp2_with fail
  refine (unhide CE).mono ?_
  intro r w6 hh
  obtain ⟨ce, rfl, hE, b6⟩ := unhide hh
  clear CE hh
  have ece := of_err (unhide HY).1 hE
  subst ece
  obtain ⟨al, ac, ae, -⟩ := id (unhide HY).2.1
  obtain ⟨xl, xc, xe, -⟩ := brow_shape (unhide HY).2.2.2.1
  obtain ⟨nl, hnl⟩ : ∃ nl, nl = A.length := ⟨_, rfl⟩
  obtain ⟨nx, hnx⟩ : ∃ nx, nx = X.length := ⟨_, rfl⟩
  rw [← hnl] at ae
  rw [← hnx] at xe
  subst ae xe
  have HRG6 := hide ((unhide HRG5).below b6)
  have HZ : Hid (OfA ks l ca A ∧ LLr w6 (.slice al nl ac) A ∧ OrA ks l ca X ∧ NRow w6 (.slice xl nx xc) X ∧ AcA ks l ca yb ∧ nl = A.length ∧ nx = X.length) := by
    obtain ⟨q1, q2, q3, q4, q5⟩ := unhide HY
    exact ⟨q1, llr_below q2 b6, q3, nrow_below q4 b6, q5, hnl, hnx⟩
  have HB6 : Hid (Below w.heap.size w w6) := (unhide HBW).trans ((unhide HRG6).1.mono (unhide HBW).size)
  clear hE b6 HRG5 HY hnl hnx
  by_cases hz : ca = 0
  · subst hz
    obtain ⟨q1, q2, q3, q4, q5, q6, q7⟩ := unhide HZ
    obtain ⟨V, h, hG⟩ := goodA q1 q3 q5
    have CG := hide (graphS (brow_at0 (unhide HRG6).2.1) (arow_zero (unhide HRG6).2.2.1) (by have := unhide HN; omega) (by have := unhide HN; omega))
    have HG := hide hG
    have HS : Hid (A.length ≤ 1000000 ∧ (∀ y ∈ A, y.length ≤ 1000000) ∧ X.length ≤ 1000000) := ⟨(ofA_len q1 (by have := unhide HN; omega)).1, (ofA_len q1 (by have := unhide HN; omega)).2, orA_len q3 (by have := unhide HN; omega)⟩
    clear q1 q2 q3 q4 q5 q6 q7 hG
    go_wp2_with fail
    refine (unhide CG).mono ?_
    intro r w7 hh
    obtain ⟨va, vn, vc, ea, en, ec, V', rfl, hp', hs', hV', hE', b7⟩ := unhide hh
    clear CG hh
    have hG := unhide HG
    have hnd : V'.Nodup := hp'.nodup_iff.2 (hG.perm.nodup_iff.1 (List.Pairwise.imp (fun h => by omega) hG.sorted))
    obtain rfl : V' = V := perm_sorted hp' hG.perm (sorted_lt hs' hnd) hG.sorted
    obtain ⟨w8, hw8⟩ : ∃ w8, w8 = w7.alloc (oGr (.slice va vn vc) (.slice ea en ec) 0 0) := ⟨_, rfl⟩
    obtain ⟨gb, hgb⟩ : ∃ gb, gb = w7.heap.size := ⟨_, rfl⟩
    have b78 : Below w7.heap.size w7 w8 := by rw [hw8]; exact below_new _ _
    have b68 : Below w6.heap.size w6 w8 := b7.trans (b78.mono b7.size)
    have HM : Hid (NRow w8 (.slice va vn vc) V' ∧ ERow 0 w8 (.slice ea en ec) (edgesOf l) ∧ w8.heap[gb]? = some (oGr (.slice va vn vc) (.slice ea en ec) 0 0) ∧ LLr w8 (.slice al nl ac) A ∧ NRow w8 (.slice xl nx xc) X ∧ Below w.heap.size w w8 ∧ V'.length ≤ 100000 ∧ (edgesOf l).length ≤ 100000 ∧ okArcs V' (arcsE (edgesOf l)) ∧ Heads (nextOf V' (arcsE (edgesOf l))) V'.length h) := by
      obtain ⟨q1, q2, q3, q4, q5, q6, q7⟩ := unhide HZ
      refine ⟨nrow_below hV' b78, erow_below hE' b78, by rw [hw8, hgb]; exact heap_alloc_new _ _, llr_below q2 b68, nrow_below q4 b68, (unhide HB6).trans (b68.mono (unhide HB6).size), ?_, ?_, ?_, ?_⟩
      · have := hG.perm.length_eq; have := unhide HN; omega
      · rw [edgesOf_len]; have := unhide HN; omega
      · rw [arcsE_of]; exact hG.ok
      · rw [arcsE_of]; exact hG.heads
    obtain ⟨m1, m2, m3, m4, m5, m6, m7, m8, m9, m10⟩ := unhide HM
    have COf := hide (ofrS (rd := 0) (wr_ := 0) m1 m2 hG.sorted m9 m7 m8 m10)
    obtain ⟨d0, d1, d2, d3, -⟩ := cellsGr m3
    clear hp' hs' hV' hE' b7 hG hnd b78 b68 m1 m2 m3 m4 m5 m6 m7 m8 m9 m10 HRG6 HB6
    go_upto_region 13 with fail
    rw [show w7.alloc (Obj.cells #[Value.slice va vn vc, Value.slice ea en ec, Value.int IntKind.i64 0, Value.int IntKind.i64 0] 38) = w8 from hw8.symm]
    (try rw [← hgb])
    clear hw8 hgb
    go_wp2_with fail
    refine (unhide COf).mono ?_
    intro r w9 hh
    obtain ⟨fx, fn, fc, rfl, hF, b9⟩ := unhide hh
    clear COf hh d0 d1 d2 d3
    rw [← (unhide HG).of_] at hF
    obtain ⟨m1, m2, m3, m4, m5, m6, m7, m8, m9, m10⟩ := unhide HM
    have CS := hide (sameLists9 (llr_below m4 b9) hF (unhide HS).1 (unhide HS).2.1)
    rw [decide_eq_true rfl] at CS
    have HB9 := hide b9
    clear m1 m2 m3 m4 m5 m6 m7 m8 m9 m10 hF b9
    go_wp2_with fail
    refine (unhide CS).mono ?_
    rintro e w10 ⟨rfl, qs, hw10⟩
    clear CS
    have b10 : Below w8.heap.size w8 w10 := by rw [hw10]; exact (unhide HB9).trans ⟨rfl, rfl, rfl, Nat.le_refl _, fun _ _ => rfl⟩
    obtain ⟨m1, m2, m3, m4, m5, m6, m7, m8, m9, m10⟩ := unhide HM
    have COr := hide (orrS (rd := 0) (wr_ := 0) (nrow_below m1 b10) (erow_below m2 b10) (unhide HG).sorted m9 m7 m8 m10)
    obtain ⟨d0, d1, d2, d3, -⟩ := cellsGr ((b10.block gb (heap_lt m3)).trans m3)
    have HB10 := hide b10
    clear m1 m2 m3 m4 m5 m6 m7 m8 m9 m10 b10 hw10 HB9
    go_wp2_with fail
    refine (unhide COr).mono ?_
    intro r w11 hh
    obtain ⟨ox, on, oc, T, rfl, hT, hall, hO, b11⟩ := unhide hh
    clear COr hh d0 d1 d2 d3
    rw [arcsE_of] at hT
    rw [← (unhide HG).order T hT hall] at hO
    obtain ⟨m1, m2, m3, m4, m5, m6, m7, m8, m9, m10⟩ := unhide HM
    have b811 := (unhide HB10).trans (b11.mono (unhide HB10).size)
    have CI := hide (sameInts9 (nrow_below m5 b811) hO (unhide HS).2.2)
    rw [decide_eq_true rfl] at CI
    have HB11 := hide b811
    clear m1 m2 m3 m4 m5 m6 m7 m8 m9 m10 hO hT hall b11 b811 HB10
    go_wp2_with fail
    refine (unhide CI).mono ?_
    rintro e w12 ⟨rfl, qs2, hw12⟩
    clear CI
    have b12 : Below w8.heap.size w8 w12 := by rw [hw12]; exact (unhide HB11).trans ⟨rfl, rfl, rfl, Nat.le_refl _, fun _ _ => rfl⟩
    obtain ⟨m1, m2, m3, m4, m5, m6, m7, m8, m9, m10⟩ := unhide HM
    have CAc := hide (acrS (rd := 0) (wr_ := 0) (nrow_below m1 b12) (erow_below m2 b12) (unhide HG).sorted m9 m7 m8 m10)
    obtain ⟨d0, d1, d2, d3, -⟩ := cellsGr ((b12.block gb (heap_lt m3)).trans m3)
    have HB12 : Hid (Below w.heap.size w w12) := m6.trans (b12.mono m6.size)
    clear m1 m2 m3 m4 m5 m6 m7 m8 m9 m10 b12 hw12 HB11
    go_wp2_with fail
    refine (unhide CAc).mono ?_
    intro r w13 hh
    obtain ⟨b, rfl, hb, b13⟩ := unhide hh
    clear CAc hh d0 d1 d2 d3
    have ebb : yb = b := by
      rw [arcsE_of, ← (unhide HG).acyc] at hb
      cases b with
      | true => exact hb.1 rfl
      | false => cases yb with
        | true => exact (hb.2 rfl).symm
        | false => rfl
    subst ebb
    have HEND : Hid (Below w.heap.size w w13) := (unhide HB12).trans (b13.mono (unhide HB12).size)
    clear hb b13
    have hyy : (yb == yb) = true := by simp
    go_wp2_with fail
    go_ret
    exact ⟨rfl, unhide HEND⟩
  · obtain ⟨q1, q2, q3, q4, q5, q6, q7⟩ := unhide HZ
    obtain ⟨e1, e2, e3⟩ := of_bad q1 q3 q5 hz
    have hn1 : nl = 0 := by rw [q6, e1]; rfl
    have hn2 : nx = 0 := by rw [q7, e2]; rfl
    subst hn1 hn2 e3
    have hz2 : (ca == 0) = false := by simpa using hz
    have hz3 : (ca != 0) = true := by simpa using hz
    clear q1 q2 q3 q4 q5 q6 q7 e1 e2 hz
    go_wp2_with fail
    go_ret
    exact ⟨rfl, unhide HB6⟩
end Go.Proofs.Ytdpdghhieokcfaa
