/- SccAnswers walked. -/
import Derived.Test.YtdpdghhieokcfaaRefO9
import Derived.BigQuiet
import Derived.Test.YtdpdghhieokcfaaTurnM9
namespace Go.Proofs.Ytdpdghhieokcfaa

section
open Go.RowKit Go.Maps T9
section
variable {nx : Nat → List Nat} {V : List Int} {h : Nat → Nat}
theorem comp_at9 {i : Nat} {c : List Int} : (compsV V h V.length)[i]? = some c ↔ ∃ m, (headsTo h V.length)[i]? = some m ∧ c = cv V (partTo h V.length m) := by
  unfold compsV compsTo
  rw [List.getElem?_map, List.getElem?_map]
  cases (headsTo h V.length)[i]? with
  | none => simp
  | some m => simp [eq_comm]
theorem part_first9 (H : Heads nx V.length h) {m : Nat} (hm : m ∈ headsTo h V.length) : ∃ t, partTo h V.length m = m :: t := by
  obtain ⟨h1, h2⟩ := mem_headsTo.1 hm
  have hs : (partTo h V.length m).Pairwise (· < ·) := List.Pairwise.sublist List.filter_sublist List.pairwise_lt_range
  have hin : m ∈ partTo h V.length m := mem_partTo.2 ⟨h1, h2⟩
  cases e : partTo h V.length m with
  | nil => rw [e] at hin; cases hin
  | cons a t =>
    rw [e] at hs hin
    have ha : a ∈ partTo h V.length m := by rw [e]; exact List.mem_cons_self
    obtain ⟨a1, a2⟩ := mem_partTo.1 ha
    have hle := H.le a1
    rcases List.mem_cons.1 hin with q | q
    · exact ⟨t, by rw [q]⟩
    · have := List.rel_of_pairwise_cons hs q
      omega
theorem mem_part9 (hs : V.Pairwise (· < ·)) {p m : Nat} {x : Int} (hx : V[p]? = some x) : x ∈ cv V (partTo h V.length m) ↔ h p = m := by
  unfold cv
  rw [List.mem_map]
  constructor
  · rintro ⟨q, hq, e⟩
    obtain ⟨q1, q2⟩ := mem_partTo.1 hq
    have : V[q]? = some x := by rw [← e, List.getD_eq_getElem?_getD, List.getElem?_eq_getElem q1]; rfl
    rw [← idx_at9 hs hx, idx_at9 hs this]; exact q2
  · intro e
    refine ⟨p, mem_partTo.2 ⟨(List.getElem?_eq_some_iff.1 hx).1, e⟩, ?_⟩
    rw [List.getD_eq_getElem?_getD, hx]; rfl
theorem heads_one {i j m : Nat} (h1 : (headsTo h V.length)[i]? = some m) (h2 : (headsTo h V.length)[j]? = some m) : i = j := by
  obtain ⟨l1, e1⟩ := List.getElem?_eq_some_iff.1 h1
  obtain ⟨l2, e2⟩ := List.getElem?_eq_some_iff.1 h2
  have hw := List.pairwise_iff_getElem.1 (headsTo_nodup h V.length)
  rcases Nat.lt_trichotomy i j with z | z | z
  · exact absurd (e1.trans e2.symm) (hw i j l1 l2 z)
  · exact z
  · exact absurd (e2.trans e1.symm) (hw j i l2 l1 z)
theorem heads_lt9 {i j m m' : Nat} (h1 : (headsTo h V.length)[i]? = some m) (h2 : (headsTo h V.length)[j]? = some m') (hij : i ≤ j) : m ≤ m' := by
  obtain ⟨l1, e1⟩ := List.getElem?_eq_some_iff.1 h1
  obtain ⟨l2, e2⟩ := List.getElem?_eq_some_iff.1 h2
  have hs : (headsTo h V.length).Pairwise (· < ·) := List.Pairwise.sublist List.filter_sublist List.pairwise_lt_range
  rcases Nat.lt_or_ge i j with z | z
  · have := List.pairwise_iff_getElem.1 hs i j l1 l2 z; omega
  · have : i = j := by omega
    subst this
    rw [h1] at h2; injection h2 with h2; omega
theorem comp_of9 (hs : V.Pairwise (· < ·)) (H : Heads nx V.length h) {p : Nat} {x : Int} (hx : V[p]? = some x) : ∃ i : Nat, compAt (compsV V h V.length) x = (i : Int) ∧ (headsTo h V.length)[i]? = some (h p) := by
  have hp := (List.getElem?_eq_some_iff.1 hx).1
  obtain ⟨i, hi⟩ := List.mem_iff_getElem?.1 (mem_headsTo.2 ⟨H.lt hp, H.idem hp⟩)
  refine ⟨i, compAt_some (comp_at9.2 ⟨_, hi, rfl⟩) ((mem_part9 hs hx).2 rfl) (fun j l hj hl hxl => ?_), hi⟩
  obtain ⟨m, hm, rfl⟩ := comp_at9.1 hl
  have e := (mem_part9 hs hx).1 hxl
  rw [← e] at hm
  have := heads_one (V := V) hi hm
  omega
end
/-- A record does not hold the component at c back: bs tells at each place whether the component there is told. -/
def EdOk (A : List (List Int)) (bs : List Bool) (c : Nat) (e : EdV) : Prop := compAt A e.2.2.1 ≠ (c : Int) ∨ compAt A e.2.1 = (c : Int) ∨ ∃ i : Nat, compAt A e.2.1 = (i : Int) ∧ bs[i]? = some true
/-- What is told, place by place. -/
def ToldB (h : Nat → Nat) (n : Nat) (T : List Nat) (bs : List Bool) : Prop := bs.length = (headsTo h n).length ∧ ∀ (i m : Nat), (headsTo h n)[i]? = some m → (bs[i]? = some true ↔ m ∈ T)
section
variable {V : List Int} {es : List EdV} {h : Nat → Nat} {T : List Nat} {bs : List Bool}
theorem free_iff (hs : V.Pairwise (· < ·)) (H : Heads (nextOf V (arcsE es)) V.length h) (hok : okArcs V (arcsE es)) (hB : ToldB h V.length T bs) {c m : Nat} (hc : (headsTo h V.length)[c]? = some m) :
    Free (headsTo h V.length) (arcsOf h (nextOf V (arcsE es)) V.length) T m ↔ m ∉ T ∧ ∀ e ∈ es, EdOk (compsV V h V.length) bs c e := by
  have hin : ∀ e ∈ es, e.2.1 ∈ V ∧ e.2.2.1 ∈ V := fun e he => hok (e.2.1, e.2.2.1) (List.mem_map.2 ⟨e, he, rfl⟩)
  constructor
  · rintro ⟨h1, h2, h3⟩
    refine ⟨h2, fun e he => ?_⟩
    obtain ⟨hu, hv⟩ := hin e he
    obtain ⟨i, i1, i2⟩ := comp_of9 hs H (idx_some hu)
    obtain ⟨j, j1, j2⟩ := comp_of9 hs H (idx_some hv)
    by_cases q : j = c
    · subst q
      by_cases q2 : i = j
      · exact .inr (.inl (by rw [i1, q2]))
      · refine .inr (.inr ⟨i, i1, (hB.2 i _ i2).2 (h3 _ (mem_arcsOf.2 ⟨fun z => ?_, V.idxOf e.2.1, List.idxOf_lt_length_of_mem hu, V.idxOf e.2.2.1, ?_, rfl, ?_⟩))⟩)
        · rw [z] at i2; exact q2 (heads_one (V := V) i2 hc)
        · exact mem_nextOf.2 ⟨(e.2.1, e.2.2.1), List.mem_map.2 ⟨e, he, rfl⟩, idx_some hu, rfl⟩
        · rw [hc] at j2; injection j2 with j2; exact j2.symm
    · exact .inl (by rw [j1]; omega)
  · rintro ⟨h1, h2⟩
    refine ⟨List.mem_of_getElem? hc, h1, fun u hu => ?_⟩
    obtain ⟨hne, p, hp, q, hq, e1, e2⟩ := mem_arcsOf.1 hu
    obtain ⟨a, ha, a1, a2⟩ := mem_nextOf.1 hq
    obtain ⟨e, he, rfl⟩ := List.mem_map.1 ha
    obtain ⟨hu', hv⟩ := hin e he
    obtain ⟨i, i1, i2⟩ := comp_of9 hs H a1
    obtain ⟨j, j1, j2⟩ := comp_of9 hs H (idx_some hv)
    have a2 : V.idxOf e.2.2.1 = q := a2
    rw [a2, e2] at j2
    have hj := heads_one (V := V) j2 hc
    subst hj
    rcases h2 e he with z | z | ⟨i', z1, z2⟩
    · exact absurd j1 z
    · have : i = j := by rw [i1] at z; omega
      subst this
      rw [i2] at j2; injection j2 with j2
      exact absurd (e1.symm.trans j2) hne
    · have : i = i' := by rw [i1] at z1; omega
      subst this
      rw [e1] at i2
      exact (hB.2 i _ i2).1 z2
theorem toldB_start (h : Nat → Nat) (n : Nat) : ToldB h n [] (List.replicate (headsTo h n).length false) := ⟨by simp, fun i m hm => by
  have hl := (List.getElem?_eq_some_iff.1 hm).1
  rw [List.getElem?_replicate, if_pos hl]; simp⟩
theorem ToldB.tell (hB : ToldB h V.length T bs) {c m : Nat} (hc : (headsTo h V.length)[c]? = some m) : ToldB h V.length (T ++ [m]) (bs.set c true) := by
  have hl := (List.getElem?_eq_some_iff.1 hc).1
  refine ⟨by rw [List.length_set]; exact hB.1, fun i m' hm => ?_⟩
  by_cases e : c = i
  · subst e
    rw [hc] at hm; injection hm with hm; subst hm
    rw [List.getElem?_set_self (by rw [hB.1]; exact hl)]; simp
  · rw [List.getElem?_set_ne e, hB.2 i m' hm, List.mem_append, List.mem_singleton]
    refine ⟨.inl, fun q => q.resolve_right (fun z => e ?_)⟩
    subst z
    exact heads_one (V := V) hc hm
/-- There is one that can be told, as long as not all are. -/
theorem free_ex (H : Heads (nextOf V (arcsE es)) V.length h) (hok : okArcs V (arcsE es)) (hT : T9.Told (headsTo h V.length) (arcsOf h (nextOf V (arcsE es)) V.length) T) (hl : T.length < (headsTo h V.length).length) : ∃ c m : Nat, (headsTo h V.length)[c]? = some m ∧ Free (headsTo h V.length) (arcsOf h (nextOf V (arcsE es)) V.length) T m := by
  have hO := H.onward (fun p _ q hq => nextOf_lt (fun a ha => (hok a ha).2) q hq)
  have hx : ∃ m ∈ headsTo h V.length, m ∉ T := by
    apply Classical.byContradiction
    intro hn
    have hall : ∀ m ∈ headsTo h V.length, m ∈ T := fun m hm => Classical.byContradiction (fun q => hn ⟨m, hm, q⟩)
    have := hT.length_all (headsTo_nodup h V.length) hall
    omega
  obtain ⟨m, hm⟩ := hO.free hx
  obtain ⟨c, hc⟩ := List.mem_iff_getElem?.1 hm.1
  exact ⟨c, m, hc, hm⟩
end
/-- The best so far: the least place from k on that can be told, or none. -/
def Best (h : Nat → Nat) (n : Nat) (F : Nat → Prop) (k : Nat) (b : Int) : Prop := (b = -1 ∧ ∀ c m : Nat, k ≤ c → (headsTo h n)[c]? = some m → ¬ F m) ∨ ∃ c m : Nat, b = (c : Int) ∧ (headsTo h n)[c]? = some m ∧ F m ∧ ∀ c' m' : Nat, k ≤ c' → (headsTo h n)[c']? = some m' → F m' → c ≤ c'
section
variable {h : Nat → Nat} {n k : Nat} {F : Nat → Prop} {b : Int}
theorem Best.hit {m : Nat} (hm : (headsTo h n)[k]? = some m) (hf : F m) : Best h n F k (k : Int) := .inr ⟨k, m, rfl, hm, hf, fun _ _ hc _ _ => hc⟩
theorem Best.miss {m : Nat} (hB : Best h n F (k + 1) b) (hm : (headsTo h n)[k]? = some m) (hf : ¬ F m) : Best h n F k b := by
  rcases hB with ⟨e, q⟩ | ⟨c, m', e, h1, h2, h3⟩
  · refine .inl ⟨e, fun c m' hc hm' => ?_⟩
    by_cases z : c = k
    · subst z; rw [hm] at hm'; injection hm' with hm'; rw [← hm']; exact hf
    · exact q c m' (by omega) hm'
  · refine .inr ⟨c, m', e, h1, h2, fun c' m'' hc hm' hf' => ?_⟩
    by_cases z : c' = k
    · subst z; rw [hm] at hm'; injection hm' with hm'; rw [← hm'] at hf'; exact absurd hf' hf
    · exact h3 c' m'' (by omega) hm' hf'
end
end

section
open Go.RowKit Go.Maps T9
/-- The row of what is told and the list that grows. -/
def OT (w1 : World) (gt K : Nat) (bs : List Bool) (ov : Value) (xs : List Int) (W : World) : Prop := Below w1.heap.size w1 W ∧ TRow w1.heap.size W (.slice (some ⟨gt, 0, none⟩) K K) bs ∧ BRow w1.heap.size W ov xs ∧ ov.ownBlock ≠ some gt
section
variable {w1 W W' : World} {gt K : Nat} {bs : List Bool} {ov : Value} {xs : List Int}
theorem OT.below (h : OT w1 gt K bs ov xs W) (hb : Below W.heap.size W W') : OT w1 gt K bs ov xs W' :=
  ⟨h.1.trans (hb.mono h.1.size), trow_kept h.2.1 (fun b e => hb.block b (h.2.1.lt b e).2), brow_kept h.2.2.1 (fun b e => hb.block b (h.2.2.1.lt b e).2), h.2.2.2⟩
theorem OT.set (h : OT w1 gt K bs ov xs W) (k : Nat) : (∀ o, W.frozen? ⟨gt, o, none⟩ = false) ∧ OT w1 gt K (bs.set k true) ov xs (W.setCell ⟨gt, k, none⟩ (.bool true)) := by
  obtain ⟨f, r⟩ := trow_set (k := k) h.2.1 true
  have ht : Turned (fun b => b = gt) W (W.setCell ⟨gt, k, none⟩ (.bool true)) := setCells_turned (S := fun b => b = gt) gt rfl [.bool true] k W
  exact ⟨f, h.1.trans (ht.below h.1.size (fun b e => by rw [e]; exact (h.2.1.lt gt rfl).1)), r, brow_kept h.2.2.1 (fun b e => ht.block b (h.2.2.1.lt b e).2 (fun q => h.2.2.2 (by rw [← q]; exact e))), h.2.2.2⟩
theorem OT.app (h : OT w1 gt K bs ov xs W) (x : Int) (hl : xs.length ≤ 1000000) :
    ∃ a' n' c' w', (∀ ty, (Builtin.append_ #[22, 22] ty #[ov, .slice (some ⟨W.heap.size, 0, none⟩) 1 1]).run Try.prog (W.alloc (.cells #[.int .i64 x] 3)) = .ok (.slice a' n' c') w') ∧ OT w1 gt K bs (.slice a' n' c') (xs ++ [x]) w' := by
  obtain ⟨a', n', c', w', r, g1, g2, g3⟩ := run_app8 x h.2.2.1 h.1.size (by omega)
  refine ⟨a', n', c', w', r, h.1.trans (g2.below h.1.size (fun b e => (h.2.2.1.lt b e).1)), trow_kept h.2.1 (fun b e => g2.block b (h.2.1.lt b e).2 (fun q => h.2.2.2 (by rw [own_eq e]; exact q))), g1, fun e => ?_⟩
  rcases g3 gt e with q | q
  · exact h.2.2.2 q
  · have := (h.2.1.lt gt rfl).2; omega
end
def OrrAns (w : World) (V : List Int) (es : List EdV) (h : Nat → Nat) (e : Ending) (w' : World) : Prop := ∃ x n c T, e = .returned (.slice x n c) ∧ T9.Told (headsTo h V.length) (arcsOf h (nextOf V (arcsE es)) V.length) T ∧ (∀ m, m ∈ headsTo h V.length → m ∈ T) ∧ NRow w' (.slice x n c) (cv V T) ∧ Below w.heap.size w w'
theorem nodup_le : ∀ {l hs : List Nat}, l.Nodup → (∀ x ∈ l, x ∈ hs) → l.length ≤ hs.length
  | [], _, _, _ => Nat.zero_le _
  | a :: l, hs, hn, hm => by
    obtain ⟨h1, h2⟩ := List.nodup_cons.1 hn
    have ha := hm a List.mem_cons_self
    have := nodup_le (l := l) (hs := hs.erase a) h2 (fun x hx => (List.mem_erase_of_ne (fun e => h1 (by rw [← e]; exact hx))).2 (hm x (List.mem_cons_of_mem _ hx)))
    rw [List.length_erase_of_mem ha] at this
    have h3 : 0 < hs.length := List.length_pos_of_mem ha
    simp; omega
theorem nodup_full {l hs : List Nat} (h1 : l.Nodup) (h2 : ∀ x ∈ l, x ∈ hs) (hl : hs.length ≤ l.length) : ∀ x ∈ hs, x ∈ l := fun x hx => Classical.byContradiction (fun hq => by
  have := nodup_le (l := x :: l) (hs := hs) (List.nodup_cons.2 ⟨hq, h1⟩) (fun y hy => by
    rcases List.mem_cons.1 hy with e | e
    · rw [e]; exact hx
    · exact h2 y e)
  simp at this; omega)
theorem drewEx {w w' : World} {q : Nat} (h : w' = w.drewN q) (n : Nat) : ∃ q, w'.drewN n = w.drewN q := ⟨_, by rw [h]; exact World.drewN_drewN _ _ _⟩
set_option maxHeartbeats 8000000 in
set_option maxRecDepth 100000 in
theorem orrS {w : World} {vv ev : Value} {rd wr_ : Int} {V : List Int} {es : List EdV} {h : Nat → Nat} (hr0 : NRow w vv V) (he : ERow 0 w ev es) (hs : V.Pairwise (· < ·)) (hok : okArcs V (arcsE es)) (hl : V.length ≤ 100000) (hl2 : es.length ≤ 100000) (hH : Heads (nextOf V (arcsE es)) V.length h) :
    Calls Try.prog 18 #[.agg #[vv, ev, .int .i64 rd, .int .i64 wr_]] w fun e w' => Hid (OrrAns w V es h e w') := by
  have hb := below_new w (oGr vv ev rd wr_)
  have hbx := heap_alloc_new w (oGr vv ev rd wr_)
  have h1 := nrow_below hr0 hb
  have h2 := erow_below he hb
  have CC := hide (ofrS (rd := rd) (wr_ := wr_) h1 h2 hs hok hl hl2 hH)
  obtain ⟨ea, ec, hev, -⟩ := erow_shape h2
  obtain ⟨m, hm⟩ : ∃ m, m = es.length := ⟨_, rfl⟩
  rw [← hm] at hev
  subst hev
  have HB : Hid (Below w.heap.size w (w.alloc (oGr vv (.slice ea m ec) rd wr_)) ∧ (w.alloc (oGr vv (.slice ea m ec) rd wr_)).heap[w.heap.size]? = some (oGr vv (.slice ea m ec) rd wr_) ∧ ERow 0 (w.alloc (oGr vv (.slice ea m ec) rd wr_)) (.slice ea m ec) es) := ⟨hb, hbx, h2⟩
  have HN : Hid (V.length ≤ 100000 ∧ m = es.length ∧ m ≤ 100000 ∧ V.Pairwise (· < ·) ∧ okArcs V (arcsE es) ∧ Heads (nextOf V (arcsE es)) V.length h) := ⟨hl, hm, by omega, hs, hok, hH⟩
  clear hr0 h1 h2 hb hbx he hl hl2 hm hs hok hH
  go_enter Try.func18, Try.ntmps18
  go_upto_region 1 with fail
  change Code.wp _ _ _ _ (w.alloc (oGr vv (.slice ea m ec) rd wr_))
  generalize w.alloc (oGr vv (.slice ea m ec) rd wr_) = wb at *
  obtain ⟨gb, hgb⟩ : ∃ gb, gb = w.heap.size := ⟨_, rfl⟩
  have HGB := hide hgb
  rw [← hgb] at HB ⊢
  clear hgb
  obtain ⟨d0, d1, d2, d3, -⟩ := cellsGr (unhide HB).2.1
  go_wp2_with fail
  refine (unhide CC).mono ?_
  intro r w1 hh
  obtain ⟨x, xn, xc, rfl, hrd, hB1⟩ := unhide hh
  clear CC hh d0 d1 d2 d3
  obtain ⟨A, hAe⟩ : ∃ A, A = compsV V h V.length := ⟨_, rfl⟩
  rw [← hAe] at hrd
  obtain ⟨K, hK⟩ : ∃ K, K = A.length := ⟨_, rfl⟩
  obtain rfl : xn = K := by
    obtain ⟨x', c', e, -⟩ := hrd
    rw [hK]; injection e
  have HC : Hid (∀ W, Below w1.heap.size w1 W → W.cell? ⟨gb, 1, none⟩ = some (.slice ea m ec) ∧ ERow 0 W (.slice ea m ec) es ∧ LLr W (.slice x xn xc) A) := fun W hW => by
    have hW2 := hB1.trans (hW.mono hB1.size)
    have q := (hW2.block gb (heap_lt (unhide HB).2.1)).trans (unhide HB).2.1
    exact ⟨(cellsGr q).2.1, erow_below (unhide HB).2.2 hW2, llr_below hrd hW⟩
  have HA : Hid (A = compsV V h V.length ∧ xn = A.length ∧ xn = (headsTo h V.length).length ∧ xn ≤ 100000 ∧ ∀ l ∈ A, l.length ≤ 1000000) := by
    have e1 : xn = (headsTo h V.length).length := by rw [hK, hAe, compsV_len]
    refine ⟨hAe, hK, e1, ?_, fun l hl => ?_⟩
    · have := headsTo_le h V.length; have := (unhide HN).1; omega
    · rw [hAe] at hl
      obtain ⟨i, hi⟩ := List.mem_iff_getElem?.1 hl
      obtain ⟨m', -, rfl⟩ := comp_at9.1 hi
      have := partTo_le h V.length m'; have := (unhide HN).1
      simp only [cv, List.length_map]; omega
  have HB1 : Hid (Below w.heap.size w w1) := by
    have hb := (unhide HB).1
    rw [unhide HGB] at hb
    exact hb.trans (hB1.mono hb.size)
  clear hrd hB1 HB HGB hAe hK
  have MK := mkB (n := xn) (by have := unhide HA; omega) w1
  obtain ⟨gt, hgt⟩ : ∃ gt, gt = w1.heap.size := ⟨_, rfl⟩
  obtain ⟨w2, hw2⟩ : ∃ w2, w2 = w1.alloc (.cells (madeCells #[.bool false] xn) 4) := ⟨_, rfl⟩
  have HP : Hid (OT w1 gt xn (List.replicate xn false) (.slice none 0 0) [] w2) := by
    rw [hgt, hw2]; exact ⟨below_new _ _, trow_made xn (by have := unhide HA; omega) w1, ⟨rfl, .inl ⟨rfl, rfl⟩⟩, fun e => by cases e⟩
  rw [← hgt, ← hw2] at MK
  clear hgt hw2
  go_upto_region 4 with fail
  clear MK
  go_loopg [4, 6, 7, 8, 9, 10, 11] xn (fun kk s4 s6 s7 s8 s9 s10 s11 W => ∃ (oa : Option Addr) (on oc : Nat), s4 = .slice oa on oc ∧ Hid (∃ T bs, kk = xn - on ∧ on = T.length ∧ OT w1 gt xn bs (.slice oa on oc) (cv V T) W ∧ ToldB h V.length T bs ∧ T9.Told (headsTo h V.length) (arcsOf h (nextOf V (arcsE es)) V.length) T))
  case atStart => exact ⟨none, 0, 0, rfl, [], _, rfl, rfl, unhide HP, by have := toldB_start h V.length; rwa [← (unhide HA).2.2.1] at this, Told.nil⟩
  case round =>
    obtain ⟨oa, on, oc, rfl, hR⟩ := hrel
    clear HP
    obtain ⟨T, bs, hkk, hon, hOT, hTB, hTo⟩ := unhide hR
    obtain ⟨a1, a2, a3, a4, a5⟩ := unhide HA
    obtain ⟨l1, l2, l3, l4, l5, l6⟩ := unhide HN
    by_cases hlt : on < xn
    · obtain ⟨F, hF⟩ : ∃ F : Nat → Prop, F = Free (headsTo h V.length) (arcsOf h (nextOf V (arcsE es)) V.length) T := ⟨_, rfl⟩
      have HKK := hide hkk
      have HO : Hid (on = T.length ∧ OT w1 gt xn bs (.slice oa on oc) (cv V T) wr ∧ ToldB h V.length T bs ∧ T9.Told (headsTo h V.length) (arcsOf h (nextOf V (arcsE es)) V.length) T ∧ on < xn) := ⟨hon, hOT, hTB, hTo, hlt⟩
      have HF : Hid (∀ c m : Nat, (headsTo h V.length)[c]? = some m → (F m ↔ m ∉ T ∧ ∀ e ∈ es, EdOk A bs c e)) := fun c m hc => by rw [hF, a1]; exact free_iff l4 l6 l5 hTB hc
      have HX : Hid (∃ c m : Nat, (headsTo h V.length)[c]? = some m ∧ F m) := by rw [hF]; exact free_ex l6 l5 hTo (by omega)
      have HFE := hide hF
      have z1 : (on : Int) < (xn : Int) := by omega
      have zi : Hid (wrap64 ((xn : Int) - 1) = (xn : Int) - 1) := by show wrap64 ((xn : Int) - 1) = (xn : Int) - 1; unfold wrap64; omega
      clear hkk hon hOT hTB hTo a1 a2 a3 a4 a5 l1 l2 l3 l4 l5 l6 hlt hR hF
      go_upto_region 7 with fail
      go_loopw [7, 6, 8, 9, 10, 11] (fun s7 s6 s8 s9 s10 s11 W => ∃ (k : Nat) (i b : Int), s7 = .int .i64 i ∧ s6 = .int .i64 b ∧ Hid (i = (k : Int) - 1 ∧ k ≤ xn ∧ Best h V.length F k b ∧ ∃ q, W = wr.drewN q)) (fun s7 _ _ _ _ _ _ => (intOf s7 + 1).toNat)
      case atStart => exact ⟨xn, wrap64 ((xn : Int) - 1), -1, rfl, rfl, unhide zi, Nat.le_refl _, .inl ⟨rfl, fun c m hc hm => by have := (List.getElem?_eq_some_iff.1 hm).1; have := unhide HA; omega⟩, 0, rfl⟩
      case round =>
        obtain ⟨k, i, b, rfl, rfl, hR⟩ := hrel
        obtain ⟨hi, hkx, hBest, q, hW⟩ := unhide hR
        clear zi
        obtain ⟨a1, a2, a3, a4, a5⟩ := unhide HA
        rcases k with _ | c
        · obtain rfl : i = -1 := by omega
          have z2 : ¬ (0 : Int) ≤ -1 := by omega
          obtain ⟨l1, l2, l3, l4, l5, l6⟩ := unhide HN
          obtain ⟨hon, hOT, hTB, hTo, hlt⟩ := unhide HO
          rcases hBest with ⟨-, hno⟩ | ⟨c, m', rfl, hc, hf, hle⟩
          · obtain ⟨c, m', hc, hf⟩ := unhide HX
            exact absurd hf (hno c m' (Nat.zero_le _) hc)
          · have hOTd : OT w1 gt xn bs (.slice oa on oc) (cv V T) wr := by rw [hW]; exact hOT.below ⟨rfl, rfl, rfl, Nat.le_refl _, fun _ _ => rfl⟩
            have hcl := (List.getElem?_eq_some_iff.1 hc).1
            obtain ⟨b0, hb0⟩ : ∃ b0, bs[c]? = some b0 := ⟨_, List.getElem?_eq_getElem (by rw [hTB.1]; exact hcl)⟩
            have k1 := trow_at hOTd.2.1 hb0
            obtain ⟨fz, hOT2⟩ := hOTd.set c
            obtain ⟨w5, hw5⟩ : ∃ w5, w5 = wr.setCell ⟨gt, c, none⟩ (.bool true) := ⟨_, rfl⟩
            rw [← hw5] at hOT2
            obtain ⟨-, -, k2⟩ := unhide HC w5 hOT2.1
            obtain ⟨x', c', ex, hLL⟩ := k2
            have ex1 : x = x' := by injection ex
            obtain ⟨t, ht⟩ := part_first9 l6 (List.mem_of_getElem? hc)
            obtain ⟨g, y, hx', k3, r3⟩ := hLL c (cv V (partTo h V.length m')) (by rw [a1]; exact comp_at9.2 ⟨m', hc, rfl⟩)
            have ex2 := ex1.trans hx'
            subst ex2
            rw [ht] at r3
            obtain ⟨yx, yc, ye, -⟩ := brow_shape r3
            obtain ⟨yn, hyn⟩ : ∃ yn, yn = (cv V (m' :: t)).length := ⟨_, rfl⟩
            rw [← hyn] at ye
            subst ye
            obtain ⟨gy, hgy⟩ := brow_some r3 (by simp [cv])
            subst hgy
            obtain ⟨v0, hv0⟩ : ∃ v0, v0 = V.getD m' 0 := ⟨_, rfl⟩
            have k4 := brow_at r3 (j := 0) (e := v0) (by rw [hv0]; rfl)
            obtain ⟨a5', n5, c5, w6, r5, hO6⟩ := hOT2.app v0 (by have := (unhide HA).2.2.2.1; simp only [cv, List.length_map]; omega)
            have HR5 := hide r5
            have hn5 : n5 = on + 1 := by
              obtain ⟨p1, p2, p3, -⟩ := brow_shape hO6.2.2.1
              have : n5 = (cv V T ++ [v0]).length := by injection p3
              rw [this]; simp [cv]; omega
            have HD : Hid (∃ T bs, n5 = T.length ∧ OT w1 gt xn bs (.slice a5' n5 c5) (cv V T) w6 ∧ ToldB h V.length T bs ∧ T9.Told (headsTo h V.length) (arcsOf h (nextOf V (arcsE es)) V.length) T) := by
              refine ⟨T ++ [m'], bs.set c true, by rw [hn5]; simp; omega, ?_, hTB.tell hc, ?_⟩
              · have e : cv V (T ++ [m']) = cv V T ++ [v0] := by rw [hv0]; simp [cv]
                rw [e]; exact hO6
              · refine hTo.next (by rw [← unhide HFE]; exact hf) (fun y hy => ?_)
                rw [← unhide HFE] at hy
                have hyh : y ∈ headsTo h V.length := by rw [unhide HFE] at hy; exact hy.1
                obtain ⟨cy, hcy⟩ := List.mem_iff_getElem?.1 hyh
                exact heads_lt9 (V := V) hc hcy (hle cy y (Nat.zero_le _) hcy hy)
            have HM : Hid (xn - n5 < xn - on) := by show xn - n5 < xn - on; omega
            have z3 : (c : Int) < (xn : Int) := by omega
            have z4 : (0 : Int) < (yn : Int) := by rw [hyn]; simp [cv]
            clear hi hkx hR hW a1 a2 a3 a4 a5 l1 l2 l3 l4 l5 l6 hon hOT hTB hTo hlt hc hf hle hOTd hcl hb0 hOT2 hLL ht hx' r3 hyn hv0 r5 hO6 hn5 ex1 ex
            go_upto_region 18 with fail
            rw [← hw5]
            clear hw5 fz k1
            go_wp2_with (at_builtin; refine Lib.wpList_append_run _ rfl _ _ 22 22 rfl _ _ rfl rfl _ _ (unhide HR5 _) ?_)
            go_roundg (xn - n5)
            case measure => (have h1 := unhide HKK; have h2 := unhide HM; omega)
            case rel => (obtain ⟨T', bs', p⟩ := unhide HD; exact ⟨a5', n5, c5, rfl, T', bs', rfl, p⟩)
        · obtain rfl : i = (c : Int) := by omega
          obtain ⟨mc, hc⟩ : ∃ mc, (headsTo h V.length)[c]? = some mc := ⟨_, List.getElem?_eq_getElem (by omega)⟩
          obtain ⟨hon, hOT, hTB, hTo, hlt⟩ := unhide HO
          obtain ⟨l1, l2, l3, l4, l5, l6⟩ := unhide HN
          have hOTd : OT w1 gt xn bs (.slice oa on oc) (cv V T) wr := by rw [hW]; exact hOT.below ⟨rfl, rfl, rfl, Nat.le_refl _, fun _ _ => rfl⟩
          obtain ⟨b0, hb0⟩ : ∃ b0, bs[c]? = some b0 := ⟨_, List.getElem?_eq_getElem (by rw [hTB.1]; omega)⟩
          have k1 := trow_at hOTd.2.1 hb0
          have z2 : (0 : Int) ≤ (c : Int) := by omega
          have z3 : (c : Int) < (xn : Int) := by omega
          have HQ1 : Hid (b0 = true ↔ mc ∈ T) := by have := hTB.2 c mc hc; rw [hb0] at this; exact ⟨fun q => this.1 (by rw [q]), fun q => by have := this.2 q; injection this⟩
          have HFc := hide (unhide HF c mc hc)
          have HBm : Hid (¬ F mc → Best h V.length F c b) := fun hf => hBest.miss hc hf
          have HBh : Hid (F mc → Best h V.length F c (c : Int)) := fun hf => Best.hit hc hf
          have HWR := hide hW
          have HOTd := hide hOTd
          obtain ⟨i1, hi1⟩ : ∃ i1, i1 = (c : Int) - 1 := ⟨_, rfl⟩
          have zw : Hid (wrap64 ((c : Int) - 1) = i1) := by show wrap64 ((c : Int) - 1) = i1; unfold wrap64; omega
          have HI1 := hide hi1
          have HCX : Hid (c ≤ xn) := by show c ≤ xn; omega
          have HS : Hid ((!b0) = true → mc ∉ T ∧ ∀ j, j < 0 → ∀ e, es[j]? = some e → EdOk A bs c e) := fun e => ⟨fun hm => (by have := (unhide HQ1).2 hm; rw [this] at e; cases e), fun j hj => absurd hj (Nat.not_lt_zero _)⟩
          have HS2 : Hid ((!b0) = false → ¬ F mc) := fun e hf => ((unhide HFc).1 hf).1 ((unhide HQ1).1 (by cases b0 with | true => rfl | false => cases e))
          have k2 := (unhide HC wr hOTd.1).1
          clear hi hkx hBest hR hW a1 a2 a3 a4 a5 l1 l2 l3 l4 l5 l6 hon hOT hTB hTo hlt hc hOTd hb0 hi1
          go_upto_region 11 with fail
          clear k1 k2
          go_loopw [9, 8, 10, 11] (fun s9 s8 s10 s11 W => ∃ (j : Nat) (t : Bool), s9 = .int .i64 (j : Nat) ∧ s8 = .bool t ∧ j ≤ m ∧ Hid ((t = true → mc ∉ T ∧ ∀ j', j' < j → ∀ e, es[j']? = some e → EdOk A bs c e) ∧ (t = false → ¬ F mc) ∧ ∃ q, W = wr.drewN q)) (fun s9 s8 _ _ _ => m - (intOf s9).toNat)
          case atStart => exact ⟨0, !b0, rfl, by first | rfl | (cases b0 <;> rfl), Nat.zero_le _, unhide HS, unhide HS2, 0, rfl⟩
          case round =>
            obtain ⟨j, t, rfl, rfl, hj, hR⟩ := hrel
            obtain ⟨hT1, hT2, q2, hW2⟩ := unhide hR
            have HW2 := hide hW2
            obtain ⟨l1, l2, l3, l4, l5, l6⟩ := unhide HN
            have hOTd : OT w1 gt xn bs (.slice oa on oc) (cv V T) wr := by rw [hW2]; exact (unhide HOTd).below ⟨rfl, rfl, rfl, Nat.le_refl _, fun _ _ => rfl⟩
            obtain ⟨k1, k2, k3⟩ := unhide HC wr hOTd.1
            by_cases hgo : j < m ∧ t = true
            · obtain ⟨hjm, rfl⟩ := hgo
              obtain ⟨⟨en, u, v, ew⟩, hux⟩ : ∃ e, es[j]? = some e := ⟨_, List.getElem?_eq_getElem (by omega)⟩
              obtain ⟨hu, hv⟩ : u ∈ V ∧ v ∈ V := l5 (u, v) (List.mem_map.2 ⟨_, List.mem_of_getElem? hux, rfl⟩)
              obtain ⟨iu, eu, fu⟩ := comp_of9 l4 l6 (idx_some hu)
              obtain ⟨iv, ev', fv⟩ := comp_of9 l4 l6 (idx_some hv)
              rw [← (unhide HA).1] at eu ev'
              obtain ⟨g2, hg2⟩ := erow_some k2 (by omega)
              subst hg2
              obtain ⟨-, f1, f2, -⟩ := erow_at k2 hux
              dsimp only at f1 f2
              obtain ⟨bu, hbu⟩ : ∃ b, bs[iu]? = some b := ⟨_, List.getElem?_eq_getElem (by rw [(unhide HO).2.2.1.1]; exact (List.getElem?_eq_some_iff.1 fu).1)⟩
              have k4 := trow_at hOTd.2.1 hbu
              have CQ : Hid (∀ (y : Int) (q : Nat), Calls Try.prog 20 #[.slice x xn xc, .int .i64 y] (wr.drewN q) fun e w' => e = .returned (.int .i64 (compAt A y)) ∧ ∃ m, w' = wr.drewN m) := fun y q =>
                (compS (llr_drew k3 q) (by have := unhide HA; omega) (unhide HA).2.2.2.2).mono (fun e w' hh => ⟨hh.1, q, hh.2⟩)
              have z4 : (j : Int) < (m : Int) := by omega
              have z5 : (iu : Int) < (xn : Int) := by have := (List.getElem?_eq_some_iff.1 fu).1; have := unhide HA; omega
              obtain ⟨j1, hj1⟩ : ∃ j1, j1 = j + 1 := ⟨_, rfl⟩
              have zj : Hid (wrap64 ((j : Int) + 1) = (j1 : Int)) := by show wrap64 ((j : Int) + 1) = (j1 : Int); unfold wrap64; omega
              have HJ1 := hide hj1
              have HJ : Hid (j1 ≤ m ∧ m - j1 < m - j) := ⟨by omega, by omega⟩
              have HE : Hid (compAt A u = (iu : Int) ∧ compAt A v = (iv : Int)) := ⟨eu, ev'⟩
              have HOK : Hid (∀ t : Bool, (t = true ↔ (iv ≠ c ∨ iu = c ∨ bu = true)) → (t = true → mc ∉ T ∧ ∀ j', j' < j1 → ∀ e, es[j']? = some e → EdOk A bs c e) ∧ (t = false → ¬ F mc)) := fun t ht => by
                have hed : EdOk A bs c (en, u, v, ew) ↔ (iv ≠ c ∨ iu = c ∨ bu = true) := by
                  show (compAt A v ≠ (c : Int) ∨ compAt A u = (c : Int) ∨ ∃ i : Nat, compAt A u = (i : Int) ∧ bs[i]? = some true) ↔ _
                  rw [eu, ev']
                  constructor
                  · rintro (z | z | ⟨i', z1, z2⟩)
                    · exact .inl (by omega)
                    · exact .inr (.inl (by omega))
                    · obtain rfl : i' = iu := by omega
                      rw [hbu] at z2; injection z2 with z2; exact .inr (.inr z2)
                  · rintro (z | z | z)
                    · exact .inl (by omega)
                    · exact .inr (.inl (by omega))
                    · exact .inr (.inr ⟨iu, rfl, by rw [hbu, z]⟩)
                refine ⟨fun q => ⟨(hT1 rfl).1, fun j' hj' e he => ?_⟩, fun q hf => ?_⟩
                · by_cases z : j' = j
                  · subst z; rw [hux] at he; injection he with he; subst he; exact hed.2 (ht.1 q)
                  · exact (hT1 rfl).2 j' (by omega) e he
                · have := hed.1 (((unhide HFc).1 hf).2 _ (List.mem_of_getElem? hux))
                  rw [ht.2 this] at q; cases q
              have HCC : Hid (∀ Q, (wr.drewN Q).cell? ⟨gt, iu, none⟩ = some (.bool bu)) := fun Q => k4
              clear hT1 hT2 hR hW2 l1 l2 l3 l4 l5 l6 hOTd k2 k3 hjm hux hu hv eu fu ev' fv hbu hj1 hj
              go_wp2_with fail
              go_quiet ((go_at_call 20; exact unhide CQ _ _))
              rw [(unhide HE).1, (unhide HE).2]
              have k5 := unhide HCC nq
              clear k4 k1 f1 f2 CQ HCC
              have HW3 := hide (drewEx (unhide HW2) nq)
              generalize wr.drewN nq = w6 at *
              by_cases hv1 : iv = c
              · have y1 : ((iv : Int) != (c : Int)) = false := by simp [hv1]
                have y1' : ((iv : Int) == (c : Int)) = true := by simp [hv1]
                by_cases hu1 : iu = c
                · have y2 : ((iu : Int) == (c : Int)) = true := by simp [hu1]
                  have HD := hide (unhide HOK true ⟨fun _ => .inr (.inl hu1), fun _ => rfl⟩)
                  clear hv1 hu1 HOK
                  go_wp2_with fail
                  (try rw [unhide zj])
                  exact ⟨⟨j1, true, by first | rfl | (rw [unhide HJ1]; rfl), rfl, (unhide HJ).1, (unhide HD).1, (unhide HD).2, unhide HW3⟩, by have := (unhide HJ).2; simp [intOf]; omega⟩
                · have y2 : ((iu : Int) == (c : Int)) = false := by simp; omega
                  have HD := hide (unhide HOK bu ⟨fun z => .inr (.inr z), fun z => (z.resolve_left (fun q => q hv1)).resolve_left hu1⟩)
                  clear hv1 hu1 HOK
                  go_wp2_with fail
                  (try rw [unhide zj])
                  exact ⟨⟨j1, bu, by first | rfl | (rw [unhide HJ1]; rfl), rfl, (unhide HJ).1, (unhide HD).1, (unhide HD).2, unhide HW3⟩, by have := (unhide HJ).2; simp [intOf]; omega⟩
              · have y1 : ((iv : Int) != (c : Int)) = true := by simp; omega
                have y1' : ((iv : Int) == (c : Int)) = false := by simp; omega
                have HD := hide (unhide HOK true ⟨fun _ => .inl hv1, fun _ => rfl⟩)
                clear hv1 HOK
                go_wp2_with fail
                (try rw [unhide zj])
                exact ⟨⟨j1, true, by first | rfl | (rw [unhide HJ1]; rfl), rfl, (unhide HJ).1, (unhide HD).1, (unhide HD).2, unhide HW3⟩, by have := (unhide HJ).2; simp [intOf]; omega⟩
            · have HW4 : Hid (∃ q, wr = _) := ⟨_, hW2⟩
              cases t with
              | true =>
                have z4 : ¬ (j : Int) < (m : Int) := by have : ¬ j < m := fun z => hgo ⟨z, rfl⟩; omega
                have hf : F mc := (unhide HFc).2 ⟨(hT1 rfl).1, fun e he => by
                  obtain ⟨j', hj'⟩ := List.mem_iff_getElem?.1 he
                  exact (hT1 rfl).2 j' (by have := (List.getElem?_eq_some_iff.1 hj').1; have : ¬ j < m := fun z => hgo ⟨z, rfl⟩; omega) e hj'⟩
                have HD := hide (unhide HBh hf)
                clear hT1 hT2 hR hW2 l1 l2 l3 l4 l5 l6 hOTd k2 k3 hgo hf hj
                go_wp2_with fail
                (try rw [unhide zw])
                exact ⟨⟨c, i1, (c : Int), rfl, rfl, unhide HI1, unhide HCX, unhide HD, by obtain ⟨q', hq'⟩ := unhide HW4; exact ⟨_, by rw [hq', unhide HWR]; exact World.drewN_drewN _ _ _⟩⟩, by have := unhide HI1; simp [intOf]; omega⟩
              | false =>
                have HD := hide (unhide HBm (hT2 rfl))
                clear hT1 hT2 hR hW2 l1 l2 l3 l4 l5 l6 hOTd k2 k3 hgo
                by_cases hjm : j < m
                · have z4 : (j : Int) < (m : Int) := by omega
                  clear hjm hj
                  go_wp2_with fail
                  (try rw [unhide zw])
                  exact ⟨⟨c, i1, b, rfl, rfl, unhide HI1, unhide HCX, unhide HD, by obtain ⟨q', hq'⟩ := unhide HW4; exact ⟨_, by rw [hq', unhide HWR]; exact World.drewN_drewN _ _ _⟩⟩, by have := unhide HI1; simp [intOf]; omega⟩
                · have z4 : ¬ (j : Int) < (m : Int) := by omega
                  clear hjm hj
                  go_wp2_with fail
                  (try rw [unhide zw])
                  exact ⟨⟨c, i1, b, rfl, rfl, unhide HI1, unhide HCX, unhide HD, by obtain ⟨q', hq'⟩ := unhide HW4; exact ⟨_, by rw [hq', unhide HWR]; exact World.drewN_drewN _ _ _⟩⟩, by have := unhide HI1; simp [intOf]; omega⟩
    · have z1 : ¬ (on : Int) < (xn : Int) := by omega
      have HE : Hid (T9.Told (headsTo h V.length) (arcsOf h (nextOf V (arcsE es)) V.length) T ∧ (∀ m, m ∈ headsTo h V.length → m ∈ T) ∧ NRow wr (.slice oa on oc) (cv V T) ∧ Below w.heap.size w wr) :=
        ⟨hTo, nodup_full hTo.nodup.1 hTo.nodup.2 (by omega), brow_at0 hOT.2.2.1, (unhide HB1).trans (hOT.1.mono (unhide HB1).size)⟩
      clear hkk hon hOT hTB hTo a1 a2 a3 a4 a5 l1 l2 l3 l4 l5 l6 hlt hR
      go_wp2_with fail
      go_ret
      exact ⟨oa, on, oc, T, rfl, unhide HE⟩
end

section
open Go.RowKit Go.Maps T9
def AcrAns (w : World) (V : List Int) (es : List EdV) (h : Nat → Nat) (e : Ending) (w' : World) : Prop := ∃ b : Bool, e = .returned (.bool b) ∧ (b = true ↔ ∀ p, p < V.length → h p = p ∧ p ∉ nextOf V (arcsE es) p) ∧ Below w.heap.size w w'
theorem heads_all {h : Nat → Nat} {n : Nat} : (headsTo h n).length = n ↔ ∀ p, p < n → h p = p := by
  constructor
  · intro e p hp
    have h1 : (headsTo h n) = List.range n := List.Sublist.eq_of_length List.filter_sublist (by rw [e, List.length_range])
    have : p ∈ headsTo h n := by rw [h1]; exact List.mem_range.2 hp
    exact (mem_headsTo.1 this).2
  · intro q
    unfold headsTo
    rw [List.filter_eq_self.2 (fun p hp => by simpa using q p (List.mem_range.1 hp)), List.length_range]
theorem self_arc {V : List Int} {es : List EdV} (hs : V.Pairwise (· < ·)) (hok : okArcs V (arcsE es)) {p : Nat} : p ∈ nextOf V (arcsE es) p ↔ ∃ e ∈ es, e.2.1 = e.2.2.1 ∧ V[p]? = some e.2.1 := by
  rw [mem_nextOf]
  constructor
  · rintro ⟨a, ha, h1, h2⟩
    obtain ⟨e, he, rfl⟩ := List.mem_map.1 ha
    have hv := (hok (e.2.1, e.2.2.1) ha).2
    have h3 := idx_some hv
    have h2 : V.idxOf e.2.2.1 = p := h2
    have h1 : V[p]? = some e.2.1 := h1
    rw [h2, h1] at h3
    injection h3 with h3
    exact ⟨e, he, h3, h1⟩
  · rintro ⟨e, he, h1, h2⟩
    refine ⟨(e.2.1, e.2.2.1), List.mem_map.2 ⟨e, he, rfl⟩, h2, ?_⟩
    show V.idxOf e.2.2.1 = p
    rw [← h1]; exact idx_at9 hs h2
set_option maxHeartbeats 8000000 in
set_option maxRecDepth 100000 in
theorem acrS {w : World} {vv ev : Value} {rd wr_ : Int} {V : List Int} {es : List EdV} {h : Nat → Nat} (hr0 : NRow w vv V) (he : ERow 0 w ev es) (hs : V.Pairwise (· < ·)) (hok : okArcs V (arcsE es)) (hl : V.length ≤ 100000) (hl2 : es.length ≤ 100000) (hH : Heads (nextOf V (arcsE es)) V.length h) :
    Calls Try.prog 19 #[.agg #[vv, ev, .int .i64 rd, .int .i64 wr_]] w fun e w' => Hid (AcrAns w V es h e w') := by
  have hb := below_new w (oGr vv ev rd wr_)
  have hbx := heap_alloc_new w (oGr vv ev rd wr_)
  have h1 := nrow_below hr0 hb
  have h2 := erow_below he hb
  obtain ⟨a, c, hvv, -⟩ := brow_shape h1
  obtain ⟨ea, ec, hev, -⟩ := erow_shape h2
  obtain ⟨n, hn⟩ : ∃ n, n = V.length := ⟨_, rfl⟩
  obtain ⟨m, hm⟩ : ∃ m, m = es.length := ⟨_, rfl⟩
  rw [← hn] at hvv
  rw [← hm] at hev
  subst hvv hev
  have HB : Hid (Below w.heap.size w (w.alloc (oGr (.slice a n c) (.slice ea m ec) rd wr_)) ∧ (w.alloc (oGr (.slice a n c) (.slice ea m ec) rd wr_)).heap[w.heap.size]? = some (oGr (.slice a n c) (.slice ea m ec) rd wr_) ∧ NRow (w.alloc (oGr (.slice a n c) (.slice ea m ec) rd wr_)) (.slice a n c) V ∧ ERow 0 (w.alloc (oGr (.slice a n c) (.slice ea m ec) rd wr_)) (.slice ea m ec) es) := ⟨hb, hbx, h1, h2⟩
  have HN : Hid (n = V.length ∧ n ≤ 100000 ∧ m = es.length ∧ m ≤ 100000 ∧ V.Pairwise (· < ·) ∧ okArcs V (arcsE es) ∧ Heads (nextOf V (arcsE es)) V.length h) := ⟨hn, by omega, hm, by omega, hs, hok, hH⟩
  clear hr0 h1 h2 hb hbx he hl hl2 hn hm hs hok hH
  go_enter Try.func19, Try.ntmps19
  go_upto_region 1 with fail
  change Code.wp _ _ _ _ (w.alloc (oGr (.slice a n c) (.slice ea m ec) rd wr_))
  generalize w.alloc (oGr (.slice a n c) (.slice ea m ec) rd wr_) = wb at *
  obtain ⟨gb, hgb⟩ : ∃ gb, gb = w.heap.size := ⟨_, rfl⟩
  have HGB := hide hgb
  rw [← hgb] at HB ⊢
  clear hgb
  go_upto_region 2 with fail
  go_loopw [3] (fun s3 W => ∃ i q : Nat, s3 = .int .i64 (i : Nat) ∧ W = wb.drewN q ∧ i ≤ m ∧ Hid (∀ (j : Nat) (e : EdV), j < i → es[j]? = some e → e.2.1 ≠ e.2.2.1)) (fun s3 _ => m - (intOf s3).toNat)
  case atStart => exact ⟨0, 0, rfl, rfl, Nat.zero_le _, fun j _ hj => absurd hj (Nat.not_lt_zero _)⟩
  case round =>
    obtain ⟨i, q, rfl, hW, hi, hS⟩ := hrel
    have HWR := hide hW
    obtain ⟨b1, b2, b3, b4⟩ := unhide HB
    obtain ⟨l1, l2, l3, l4, l5, l6, l7⟩ := unhide HN
    have hbq : Below wb.heap.size wb wr := by rw [hW]; exact ⟨rfl, rfl, rfl, Nat.le_refl _, fun _ _ => rfl⟩
    have hbw : Below w.heap.size w wr := by have h5 := b1; rw [unhide HGB] at h5; exact h5.trans (hbq.mono h5.size)
    obtain ⟨d0, d1, d2, d3, -⟩ := cellsGr ((hbq.block gb (heap_lt b2)).trans b2)
    by_cases hlt : i < m
    · obtain ⟨⟨en, u, x, ew⟩, hux⟩ : ∃ e, es[i]? = some e := ⟨_, List.getElem?_eq_getElem (by omega)⟩
      obtain ⟨g2, hg2⟩ := erow_some b4 (by omega)
      subst hg2
      obtain ⟨-, f1, f2, -⟩ := erow_at (erow_below b4 hbq) hux
      dsimp only at f1 f2
      have z1 : (i : Int) < (m : Int) := by omega
      obtain ⟨i1, hi1⟩ : ∃ i1, i1 = i + 1 := ⟨_, rfl⟩
      have zw : Hid (wrap64 ((i : Int) + 1) = (i1 : Int)) := by show wrap64 ((i : Int) + 1) = (i1 : Int); unfold wrap64; omega
      have HI1 := hide hi1
      have HJ : Hid (i1 ≤ m ∧ m - i1 < m - i) := ⟨by omega, by omega⟩
      by_cases hxu : u = x
      · subst hxu
        have HG : Hid ((false = true ↔ ∀ p, p < V.length → h p = p ∧ p ∉ nextOf V (arcsE es) p) ∧ Below w.heap.size w wr) := by
          refine ⟨⟨fun e => (by cases e), fun hq => ?_⟩, hbw⟩
          have hu : u ∈ V := (l6 (u, u) (List.mem_map.2 ⟨_, List.mem_of_getElem? hux, rfl⟩)).1
          exact absurd ((self_arc l5 l6).2 ⟨_, List.mem_of_getElem? hux, rfl, idx_some hu⟩) (hq _ (List.idxOf_lt_length_of_mem hu)).2
        clear b1 b2 b3 b4 l1 l2 l3 l4 l5 l6 l7 hbq hbw hux hi1 hlt hi hS hW
        go_wp2_with fail
        go_quiet (fail)
        go_wp2_with fail
        go_ret
        exact ⟨false, rfl, (unhide HG).1, (unhide HG).2.trans ⟨rfl, rfl, rfl, Nat.le_refl _, fun _ _ => rfl⟩⟩
      · have z2 : (u == x) = false := by simpa using hxu
        have HD : Hid (∀ (j : Nat) (e : EdV), j < i1 → es[j]? = some e → e.2.1 ≠ e.2.2.1) := fun j e hj he => by
          by_cases z : j = i
          · subst z; rw [hux] at he; injection he with he; subst he; exact hxu
          · exact unhide hS j e (by omega) he
        clear b1 b2 b3 b4 l1 l2 l3 l4 l5 l6 l7 hbq hbw hux hi1 hlt hi hS hW hxu
        go_wp2_with fail
        go_quiet (fail)
        go_wp2_with fail
        (try rw [unhide zw])
        exact ⟨⟨i1, _, by first | rfl | (rw [unhide HI1]; rfl), by rw [unhide HWR]; exact World.drewN_drewN _ _ _, (unhide HJ).1, HD⟩, by have := (unhide HJ).2; simp [intOf]; omega⟩
    · have z1 : ¬ (i : Int) < (m : Int) := by omega
      have bd : Below wr.heap.size wr wr.drew := ⟨rfl, rfl, rfl, Nat.le_refl _, fun _ _ => rfl⟩
      have CO := hide (ofrS (rd := rd) (wr_ := wr_) (nrow_below (nrow_below b3 hbq) bd) (erow_below (erow_below b4 hbq) bd) l5 l6 (by omega) (by omega) l7)
      have HSN : Hid (∀ W, Below wr.drew.heap.size wr.drew W → W.cell? ⟨gb, 0, none⟩ = some (.slice a n c) ∧ W.cell? ⟨gb, 1, none⟩ = some (.slice ea m ec) ∧ W.cell? ⟨gb, 2, none⟩ = some (.int .i64 rd) ∧ W.cell? ⟨gb, 3, none⟩ = some (.int .i64 wr_)) := fun W hW => by
        have b5 := (hbq.block gb (heap_lt b2)).trans b2
        obtain ⟨e0, e1, e2, e3, -⟩ := cellsGr ((hW.block gb (heap_lt b5)).trans b5)
        exact ⟨e0, e1, e2, e3⟩
      have HG : Hid (∀ W, Below wr.drew.heap.size wr.drew W → Below w.heap.size w W) := fun W hW => (hbw.trans (bd.mono hbw.size)).trans (hW.mono (Nat.le_trans hbw.size bd.size))
      have HT : Hid (∀ k : Nat, k = (headsTo h V.length).length → (((k : Int) == (n : Int)) = true ↔ ∀ p, p < V.length → h p = p ∧ p ∉ nextOf V (arcsE es) p)) := fun k hk => by
        have e1 : (((k : Int) == (n : Int)) = true) ↔ k = V.length := by simp; omega
        rw [e1, hk, heads_all]
        refine ⟨fun hq p hp => ⟨hq p hp, fun hin => ?_⟩, fun hq p hp => (hq p hp).1⟩
        obtain ⟨e, he, e1, -⟩ := (self_arc l5 l6).1 hin
        obtain ⟨j, hj⟩ := List.mem_iff_getElem?.1 he
        exact unhide hS j e (by have := (List.getElem?_eq_some_iff.1 hj).1; omega) hj e1
      clear b1 b2 b3 b4 l1 l2 l3 l4 l5 l6 l7 hbq hbw hlt hi hS hW bd
      go_upto_region 6 with fail
      refine wp_region_noPanic ?_
      refine regionL [] (fun y => y.cell? ⟨gb, 0, none⟩ = some (.slice a n c) ∧ y.cell? ⟨gb, 1, none⟩ = some (.slice ea m ec) ∧ y.cell? ⟨gb, 2, none⟩ = some (.int .i64 rd) ∧ y.cell? ⟨gb, 3, none⟩ = some (.int .i64 wr_)) (by kernel_rfl) ⟨d0, d1, d2, d3⟩ (fun hHeld => ?_)
      refine takeL (i := 0) (v := ?t2v0) (some 24) rfl rfl (by kernel_rfl) (by kernel_rfl) (by kernel_rfl) (by kernel_rfl) (by kernel_rfl) (fun _ _ _ h => h) (Or.inl ⟨by rfl, ?t2h0⟩) (by assumption) ?t2r0
      case t2h0 => (intro y hSu; (try dsimp only at hSu); go_simp; first | done | with_reducible rfl)
      (try simp only [Act.put, List.setIfInBounds_toArray, List.set_cons_zero, List.set_cons_succ])
      refine takeL (i := 3) (v := ?t2v3) (some 27) rfl rfl (by kernel_rfl) (by kernel_rfl) (by kernel_rfl) (by kernel_rfl) (by kernel_rfl) (fun _ _ _ h => h) (Or.inl ⟨by rfl, ?t2h3⟩) (by assumption) ?t2r3
      case t2h3 => (intro y hSu; (try dsimp only at hSu); go_simp; first | done | with_reducible rfl)
      (try simp only [Act.put, List.setIfInBounds_toArray, List.set_cons_zero, List.set_cons_succ])
      refine takeL (i := 4) (v := ?t2v4) (some 28) rfl rfl (by kernel_rfl) (by kernel_rfl) (by kernel_rfl) (by kernel_rfl) (by kernel_rfl) (fun _ _ _ h => h) (Or.inl ⟨by rfl, ?t2h4⟩) (by assumption) ?t2r4
      case t2h4 => (intro y hSu; (try dsimp only at hSu); go_simp; first | done | with_reducible rfl)
      (try simp only [Act.put, List.setIfInBounds_toArray, List.set_cons_zero, List.set_cons_succ])
      refine takeL (i := 5) (v := ?t2v5) (some 29) rfl rfl (by kernel_rfl) (by kernel_rfl) (by kernel_rfl) (by kernel_rfl) (by kernel_rfl) (fun _ _ _ h => h) (Or.inl ⟨by rfl, ?t2h5⟩) (by assumption) ?t2r5
      case t2h5 => (intro y hSu; (try dsimp only at hSu); go_simp; first | done | with_reducible rfl)
      (try simp only [Act.put, List.setIfInBounds_toArray, List.set_cons_zero, List.set_cons_succ])
      refine readyL (i := 1) (by kernel_rfl) rfl (fun K hK => ?_)
      go_simp
      refine (unhide CO).mono ?_
      intro r w4 hh
      obtain ⟨x, xn, xc, rfl, hrd, hB4⟩ := unhide hh
      clear CO hh
      have hxn : xn = (headsTo h V.length).length := by
        obtain ⟨x', c', e, -⟩ := hrd
        rw [← compsV_len]; injection e
      have HXN := hide hxn
      have HB4 := hide hB4
      clear hrd hB4 hxn
      (try dsimp only)
      refine hK.out _ _ (fun _ => (unhide HSN w4 (unhide HB4))) ?_
      clear hK K
      (try simp only [Act.put, List.setIfInBounds_toArray, List.set_cons_zero, List.set_cons_succ])
      have hH4 := (unhide HSN w4 (unhide HB4))
      refine takeL (i := 2) (v := ?t5v2) (some 26) rfl rfl (by kernel_rfl) (by kernel_rfl) (by kernel_rfl) (by kernel_rfl) (by kernel_rfl) (fun _ _ _ h => h) (Or.inl ⟨by rfl, ?t5h2⟩) (by assumption) ?t5r2
      case t5h2 => (intro y hSu; (try dsimp only at hSu); go_simp; first | done | with_reducible rfl)
      (try simp only [Act.put, List.setIfInBounds_toArray, List.set_cons_zero, List.set_cons_succ])
      refine takeL (i := 6) (v := ?t5v6) (some 30) rfl rfl (by kernel_rfl) (by kernel_rfl) (by kernel_rfl) (by kernel_rfl) (by kernel_rfl) (fun _ _ _ h => h) (Or.inl ⟨by rfl, ?t5h6⟩) (by assumption) ?t5r6
      case t5h6 => (intro y hSu; (try dsimp only at hSu); go_simp; first | done | with_reducible rfl)
      (try simp only [Act.put, List.setIfInBounds_toArray, List.set_cons_zero, List.set_cons_succ])
      refine readyL (i := 7) (by kernel_rfl) rfl (fun K hK => ?_)
      go_simp
      refine hK.out _ _ (fun _ => (unhide HSN w4 (unhide HB4))) ?_
      clear hK K
      (try simp only [Act.put, List.setIfInBounds_toArray, List.set_cons_zero, List.set_cons_succ])
      have hH7 := (unhide HSN w4 (unhide HB4))
      refine doneL (by kernel_rfl) ?_ _
      refine NoPanic.normal ?_
      have HE := hide (unhide HT xn (unhide HXN))
      have HG4 := hide (unhide HG w4 (unhide HB4))
      clear d0 d1 d2 d3 hHeld HSN HG HT HXN HB4
      go_wp2_with fail
      go_ret
      exact ⟨_, rfl, unhide HE, unhide HG4⟩
end

section
open Go.RowKit Go.Maps T9
/-- The code and the truth value that Acyclic answers. -/
def AcA (ks : List Int) (l : List (Int × Int)) (c : Int) (b : Bool) : Prop :=
  (¬ ks.Nodup ∧ c = 2 ∧ b = false) ∨ (ks.Nodup ∧ ¬ okArcs ks l ∧ c = 5 ∧ b = false) ∨ (ks.Nodup ∧ okArcs ks l ∧ c = 0 ∧ ∃ V h, V.Perm ks ∧ V.Pairwise (· < ·) ∧ Heads (nextOf V l) V.length h ∧ (b = true ↔ ∀ p, p < V.length → h p = p ∧ p ∉ nextOf V l p))
theorem acyT {w : World} {v av : Value} {ks : List Int} {l : List (Int × Int)} (hv : NRow w v ks) (ha : ARow w av l) (hn : ks.length ≤ 1000) (hm : l.length ≤ 1000) :
    Calls Try.prog 12 #[v, av] w fun e w' => Hid (∃ b c, e = .returned (.tuple #[.bool b, .int .i64 c]) ∧ AcA ks l c b ∧ Below w.heap.size w w') := by
  refine (acyclicOfS hv ha hn hm).mono ?_
  intro e w' hh
  obtain ⟨hb, hcase⟩ := unhide hh
  rcases hcase with ⟨q, rfl⟩ | ⟨q1, q2, rfl⟩ | ⟨q1, q2, y, V, rfl, hp, hs, b, h, rfl, hH, -, hiff⟩
  · exact ⟨_, _, rfl, .inl ⟨q, rfl, rfl⟩, hb⟩
  · exact ⟨_, _, rfl, .inr (.inl ⟨q1, q2, rfl, rfl⟩), hb⟩
  · exact ⟨_, _, rfl, .inr (.inr ⟨q1, q2, rfl, V, h, hp, hs, hH, hiff⟩), hb⟩
theorem of_ac {ks : List Int} {l : List (Int × Int)} {c c' : Int} {xs : List (List Int)} {b : Bool} (h : OfA ks l c xs) (h' : AcA ks l c' b) : c = c' := by
  rcases h with ⟨q1, rfl, -⟩ | ⟨q1, q2, rfl, -⟩ | ⟨q1, q2, rfl, -⟩ <;> rcases h' with ⟨q1', rfl, -⟩ | ⟨q1', q2', rfl, -⟩ | ⟨q1', q2', rfl, -⟩
  · rfl
  · exact absurd q1' q1
  · exact absurd q1' q1
  · exact absurd q1 q1'
  · rfl
  · exact absurd q2' q2
  · exact absurd q1 q1'
  · exact absurd q2 q2'
  · rfl
theorem of_err {ks : List Int} {l : List (Int × Int)} {c c' : Int} {xs : List (List Int)} (h : OfA ks l c xs) (h' : ErrA ks l c') : c = c' := by
  rcases h with ⟨q1, rfl, -⟩ | ⟨q1, q2, rfl, -⟩ | ⟨q1, q2, rfl, -⟩ <;> rcases h' with ⟨q1', rfl⟩ | ⟨q1', q2', rfl⟩ | ⟨q1', q2', rfl⟩
  · rfl
  · exact absurd q1' q1
  · exact absurd q1' q1
  · exact absurd q1 q1'
  · rfl
  · exact absurd q2' q2
  · exact absurd q1 q1'
  · exact absurd q2 q2'
  · rfl
theorem of_bad {ks : List Int} {l : List (Int × Int)} {c : Int} {xs : List (List Int)} {ys : List Int} {b : Bool} (h1 : OfA ks l c xs) (h2 : OrA ks l c ys) (h3 : AcA ks l c b) (hc : c ≠ 0) : xs = [] ∧ ys = [] ∧ b = false := by
  refine ⟨?_, ?_, ?_⟩
  · rcases h1 with ⟨-, -, e⟩ | ⟨-, -, -, e⟩ | ⟨-, -, e, -⟩
    · exact e
    · exact e
    · exact absurd e hc
  · rcases h2 with ⟨-, -, e⟩ | ⟨-, -, -, e⟩ | ⟨-, -, e, -⟩
    · exact e
    · exact e
    · exact absurd e hc
  · rcases h3 with ⟨-, -, e⟩ | ⟨-, -, -, e⟩ | ⟨-, -, e, -⟩
    · exact e
    · exact e
    · exact absurd e hc
/-- What is so of the good lists: the graph, its heads, and the three answers. -/
structure GoodA (ks : List Int) (l : List (Int × Int)) (A : List (List Int)) (X : List Int) (b : Bool) (V : List Int) (h : Nat → Nat) : Prop where
  perm : V.Perm ks
  sorted : V.Pairwise (· < ·)
  ok : okArcs V l
  heads : Heads (nextOf V l) V.length h
  of_ : A = compsV V h V.length
  order : ∀ T, T9.Told (headsTo h V.length) (arcsOf h (nextOf V l) V.length) T → (∀ m, m ∈ headsTo h V.length → m ∈ T) → X = cv V T
  acyc : b = true ↔ ∀ p, p < V.length → h p = p ∧ p ∉ nextOf V l p
theorem goodA {ks : List Int} {l : List (Int × Int)} {A : List (List Int)} {X : List Int} {b : Bool} (h1 : OfA ks l 0 A) (h2 : OrA ks l 0 X) (h3 : AcA ks l 0 b) : ∃ V h, GoodA ks l A X b V h := by
  rcases h1 with ⟨-, q, -⟩ | ⟨-, -, q, -⟩ | ⟨q1, q2, -, V, h, hp, hs, hH, hA⟩
  · cases q
  · cases q
  rcases h2 with ⟨-, q, -⟩ | ⟨-, -, q, -⟩ | ⟨-, -, -, V', h', T', hp', hs', hH', hT', ha', hX⟩
  · cases q
  · cases q
  rcases h3 with ⟨-, q, -⟩ | ⟨-, -, q, -⟩ | ⟨-, -, -, V3, h3, hp3, hs3, hH3, hb⟩
  · cases q
  · cases q
  obtain rfl : V' = V := perm_sorted hp' hp hs' hs
  obtain rfl : V3 = V' := perm_sorted hp3 hp hs3 hs
  refine ⟨V3, h, hp, hs, fun a ha => ⟨hp.mem_iff.2 (q2 a ha).1, hp.mem_iff.2 (q2 a ha).2⟩, hH, hA, fun T hT ha => ?_, ?_⟩
  · rw [hX, or_one hp q2 (fun _ => Iff.rfl) hH' hH hT' hT ha' ha]
  · rw [hb]
    have e := hH3.same_arcs hH (fun _ _ => Iff.rfl)
    constructor
    · intro hq p hp'; rw [← e p hp']; exact hq p hp'
    · intro hq p hp'; rw [e p hp']; exact hq p hp'
set_option maxHeartbeats 16000000 in
set_option maxRecDepth 100000 in
theorem ansS [Inhabited EntI] {w : World} {a0 a1 : Option Addr} {len0 cap0 len1 cap1 : Nat} {z : Nat → Int} {o : Nat → Int × Int} (h0 : IsIntsC w a0 len0 cap0 z) (h1 : IsArcsC w a1 len1 cap1 o) (hb0 : len0 < 1000000000000000000) (hb1 : len1 < 1000000000000000000) :
    Calls Try.prog 3 #[.slice a0 len0 cap0, .slice a1 len1 cap1] w fun e w' => e = .returned (.bool true) ∧ Below w.heap.size w w' := by
  have CA := hide (awakeS w)
  have HI := hide (And.intro h0 (And.intro h1 (And.intro hb0 hb1)))
  clear h0 h1 hb0 hb1
  go_enter Try.func3, Try.ntmps3
  go_wp2_with fail
  refine (unhide CA).mono ?_
  rintro e w1 ⟨rfl, hB1⟩
  clear CA
  have CC : Hid (Calls Try.prog 9 #[.slice a0 len0 cap0, .slice a1 len1 cap1] w1 fun e w' => Hid (∃ v1 v2, e = .returned (.tuple #[v1, v2]) ∧ CutAns w1 ((List.range (min len0 60)).map z) ((List.range (min len1 240)).map o) v1 v2 w')) := by
    obtain ⟨h0, h1, hb0, hb1⟩ := unhide HI
    exact cutS ⟨isInts_below h0.1 (unhide hB1), h0.2⟩ (isArcs_below h1 (unhide hB1)) hb0 hb1
  go_wp2_with fail
  refine (unhide CC).mono ?_
  intro r w2 hh
  obtain ⟨v1, v2, rfl, hCut⟩ := unhide hh
  clear CC hh HI
  obtain ⟨ks, hks, hkl⟩ : ∃ ks, ks = (List.range (min len0 60)).map z ∧ ks.length ≤ 60 := ⟨_, rfl, by simp; omega⟩
  obtain ⟨l, hl, hll⟩ : ∃ l, l = (List.range (min len1 240)).map o ∧ l.length ≤ 240 := ⟨_, rfl, by simp; omega⟩
  rw [← hks, ← hl] at hCut
  have hRG : RG w1 ks l v1 v2 w2 := hCut
  obtain ⟨x1, c1, e1, -⟩ := brow_shape hRG.2.1
  obtain ⟨x2, c2, e2, -⟩ := abrow_shape hRG.2.2.1
  obtain ⟨n1, hn1⟩ : ∃ n1, n1 = ks.length := ⟨_, rfl⟩
  obtain ⟨n2, hn2⟩ : ∃ n2, n2 = l.length := ⟨_, rfl⟩
  rw [← hn1] at e1
  rw [← hn2] at e2
  subst e1 e2
  have CO1 := hide (ofT (brow_at0 hRG.2.1) (arow_zero hRG.2.2.1) (by omega) (by omega))
  have HN := hide (And.intro hn1 (And.intro hn2 (And.intro hkl hll)))
  have HRG := hide hRG
  have HBW : Hid (Below w.heap.size w w1) := unhide hB1
  clear hRG hCut hks hl hkl hll hn1 hn2 hB1
  go_wp2_with fail
  refine (unhide CO1).mono ?_
  intro r w3 hh
  obtain ⟨va, ca, A, rfl, hA, lA, b3⟩ := unhide hh
  clear CO1 hh
  have HRG3 := hide ((unhide HRG).below b3)
  have HA : Hid (OfA ks l ca A ∧ LLr w3 va A) := ⟨hA, lA⟩
  have CO2 := hide (orderT (brow_at0 (unhide HRG3).2.1) (arow_zero (unhide HRG3).2.2.1) (by have := unhide HN; omega) (by have := unhide HN; omega))
  clear hA lA b3 HRG
  go_wp2_with fail
  refine (unhide CO2).mono ?_
  intro r w4 hh
  obtain ⟨vx, cx, X, rfl, hX, lX, b4⟩ := unhide hh
  clear CO2 hh
  have ecx := of_or (unhide HA).1 hX
  subst ecx
  have HRG4 := hide ((unhide HRG3).below b4)
  have HX : Hid (OfA ks l ca A ∧ LLr w4 va A ∧ OrA ks l ca X ∧ NRow w4 vx X) := ⟨(unhide HA).1, llr_below (unhide HA).2 b4, hX, lX⟩
  have CO3 := hide (acyT (brow_at0 (unhide HRG4).2.1) (arow_zero (unhide HRG4).2.2.1) (by have := unhide HN; omega) (by have := unhide HN; omega))
  clear hX lX b4 HRG3 HA
  go_wp2_with fail
  refine (unhide CO3).mono ?_
  intro r w5 hh
  obtain ⟨yb, cy, rfl, hY, b5⟩ := unhide hh
  clear CO3 hh
  have ecy := of_ac (unhide HX).1 hY
  subst ecy
  have HRG5 := hide ((unhide HRG4).below b5)
  have HY : Hid (OfA ks l ca A ∧ LLr w5 va A ∧ OrA ks l ca X ∧ NRow w5 vx X ∧ AcA ks l ca yb) := ⟨(unhide HX).1, llr_below (unhide HX).2.1 b5, (unhide HX).2.2.1, nrow_below (unhide HX).2.2.2 b5, hY⟩
  have CE := hide (errorS (brow_at0 (unhide HRG5).2.1) (arow_zero (unhide HRG5).2.2.1) (by have := unhide HN; omega) (by have := unhide HN; omega))
  clear hY b5 HRG4 HX
  go_wp2_with fail
  refine (unhide CE).mono ?_
  intro r w6 hh
  obtain ⟨ce, rfl, hE, b6⟩ := unhide hh
  clear CE hh
  have ece := of_err (unhide HY).1 hE
  subst ece
  obtain ⟨al, ac, ae, -⟩ := id (unhide HY).2.1
  obtain ⟨xl, xc, xe, -⟩ := brow_shape (unhide HY).2.2.2.1
  obtain ⟨nl, hnl⟩ : ∃ nl, nl = A.length := ⟨_, rfl⟩
  obtain ⟨nx, hnx⟩ : ∃ nx, nx = X.length := ⟨_, rfl⟩
  rw [← hnl] at ae
  rw [← hnx] at xe
  subst ae xe
  have HRG6 := hide ((unhide HRG5).below b6)
  have HZ : Hid (OfA ks l ca A ∧ LLr w6 (.slice al nl ac) A ∧ OrA ks l ca X ∧ NRow w6 (.slice xl nx xc) X ∧ AcA ks l ca yb ∧ nl = A.length ∧ nx = X.length) := by
    obtain ⟨q1, q2, q3, q4, q5⟩ := unhide HY
    exact ⟨q1, llr_below q2 b6, q3, nrow_below q4 b6, q5, hnl, hnx⟩
  have HB6 : Hid (Below w.heap.size w w6) := (unhide HBW).trans ((unhide HRG6).1.mono (unhide HBW).size)
  clear hE b6 HRG5 HY hnl hnx
  by_cases hz : ca = 0
  · subst hz
    obtain ⟨q1, q2, q3, q4, q5, q6, q7⟩ := unhide HZ
    obtain ⟨V, h, hG⟩ := goodA q1 q3 q5
    have CG := hide (graphS (brow_at0 (unhide HRG6).2.1) (arow_zero (unhide HRG6).2.2.1) (by have := unhide HN; omega) (by have := unhide HN; omega))
    have HG := hide hG
    have HS : Hid (A.length ≤ 1000000 ∧ (∀ y ∈ A, y.length ≤ 1000000) ∧ X.length ≤ 1000000) := ⟨(ofA_len q1 (by have := unhide HN; omega)).1, (ofA_len q1 (by have := unhide HN; omega)).2, orA_len q3 (by have := unhide HN; omega)⟩
    clear q1 q2 q3 q4 q5 q6 q7 hG
    go_wp2_with fail
    refine (unhide CG).mono ?_
    intro r w7 hh
    obtain ⟨va, vn, vc, ea, en, ec, V', rfl, hp', hs', hV', hE', b7⟩ := unhide hh
    clear CG hh
    have hG := unhide HG
    have hnd : V'.Nodup := hp'.nodup_iff.2 (hG.perm.nodup_iff.1 (List.Pairwise.imp (fun h => by omega) hG.sorted))
    obtain rfl : V' = V := perm_sorted hp' hG.perm (sorted_lt hs' hnd) hG.sorted
    obtain ⟨w8, hw8⟩ : ∃ w8, w8 = w7.alloc (oGr (.slice va vn vc) (.slice ea en ec) 0 0) := ⟨_, rfl⟩
    obtain ⟨gb, hgb⟩ : ∃ gb, gb = w7.heap.size := ⟨_, rfl⟩
    have b78 : Below w7.heap.size w7 w8 := by rw [hw8]; exact below_new _ _
    have b68 : Below w6.heap.size w6 w8 := b7.trans (b78.mono b7.size)
    have HM : Hid (NRow w8 (.slice va vn vc) V' ∧ ERow 0 w8 (.slice ea en ec) (edgesOf l) ∧ w8.heap[gb]? = some (oGr (.slice va vn vc) (.slice ea en ec) 0 0) ∧ LLr w8 (.slice al nl ac) A ∧ NRow w8 (.slice xl nx xc) X ∧ Below w.heap.size w w8 ∧ V'.length ≤ 100000 ∧ (edgesOf l).length ≤ 100000 ∧ okArcs V' (arcsE (edgesOf l)) ∧ Heads (nextOf V' (arcsE (edgesOf l))) V'.length h) := by
      obtain ⟨q1, q2, q3, q4, q5, q6, q7⟩ := unhide HZ
      refine ⟨nrow_below hV' b78, erow_below hE' b78, by rw [hw8, hgb]; exact heap_alloc_new _ _, llr_below q2 b68, nrow_below q4 b68, (unhide HB6).trans (b68.mono (unhide HB6).size), ?_, ?_, ?_, ?_⟩
      · have := hG.perm.length_eq; have := unhide HN; omega
      · rw [edgesOf_len]; have := unhide HN; omega
      · rw [arcsE_of]; exact hG.ok
      · rw [arcsE_of]; exact hG.heads
    obtain ⟨m1, m2, m3, m4, m5, m6, m7, m8, m9, m10⟩ := unhide HM
    have COf := hide (ofrS (rd := 0) (wr_ := 0) m1 m2 hG.sorted m9 m7 m8 m10)
    obtain ⟨d0, d1, d2, d3, -⟩ := cellsGr m3
    clear hp' hs' hV' hE' b7 hG hnd b78 b68 m1 m2 m3 m4 m5 m6 m7 m8 m9 m10 HRG6 HB6
    go_upto_region 13 with fail
    rw [show w7.alloc (Obj.cells #[Value.slice va vn vc, Value.slice ea en ec, Value.int IntKind.i64 0, Value.int IntKind.i64 0] 38) = w8 from hw8.symm]
    (try rw [← hgb])
    clear hw8 hgb
    go_wp2_with fail
    refine (unhide COf).mono ?_
    intro r w9 hh
    obtain ⟨fx, fn, fc, rfl, hF, b9⟩ := unhide hh
    clear COf hh d0 d1 d2 d3
    rw [← (unhide HG).of_] at hF
    obtain ⟨m1, m2, m3, m4, m5, m6, m7, m8, m9, m10⟩ := unhide HM
    have CS := hide (sameLists9 (llr_below m4 b9) hF (unhide HS).1 (unhide HS).2.1)
    rw [decide_eq_true rfl] at CS
    have HB9 := hide b9
    clear m1 m2 m3 m4 m5 m6 m7 m8 m9 m10 hF b9
    go_wp2_with fail
    refine (unhide CS).mono ?_
    rintro e w10 ⟨rfl, qs, hw10⟩
    clear CS
    have b10 : Below w8.heap.size w8 w10 := by rw [hw10]; exact (unhide HB9).trans ⟨rfl, rfl, rfl, Nat.le_refl _, fun _ _ => rfl⟩
    obtain ⟨m1, m2, m3, m4, m5, m6, m7, m8, m9, m10⟩ := unhide HM
    have COr := hide (orrS (rd := 0) (wr_ := 0) (nrow_below m1 b10) (erow_below m2 b10) (unhide HG).sorted m9 m7 m8 m10)
    obtain ⟨d0, d1, d2, d3, -⟩ := cellsGr ((b10.block gb (heap_lt m3)).trans m3)
    have HB10 := hide b10
    clear m1 m2 m3 m4 m5 m6 m7 m8 m9 m10 b10 hw10 HB9
    go_wp2_with fail
    refine (unhide COr).mono ?_
    intro r w11 hh
    obtain ⟨ox, on, oc, T, rfl, hT, hall, hO, b11⟩ := unhide hh
    clear COr hh d0 d1 d2 d3
    rw [arcsE_of] at hT
    rw [← (unhide HG).order T hT hall] at hO
    obtain ⟨m1, m2, m3, m4, m5, m6, m7, m8, m9, m10⟩ := unhide HM
    have b811 := (unhide HB10).trans (b11.mono (unhide HB10).size)
    have CI := hide (sameInts9 (nrow_below m5 b811) hO (unhide HS).2.2)
    rw [decide_eq_true rfl] at CI
    have HB11 := hide b811
    clear m1 m2 m3 m4 m5 m6 m7 m8 m9 m10 hO hT hall b11 b811 HB10
    go_wp2_with fail
    refine (unhide CI).mono ?_
    rintro e w12 ⟨rfl, qs2, hw12⟩
    clear CI
    have b12 : Below w8.heap.size w8 w12 := by rw [hw12]; exact (unhide HB11).trans ⟨rfl, rfl, rfl, Nat.le_refl _, fun _ _ => rfl⟩
    obtain ⟨m1, m2, m3, m4, m5, m6, m7, m8, m9, m10⟩ := unhide HM
    have CAc := hide (acrS (rd := 0) (wr_ := 0) (nrow_below m1 b12) (erow_below m2 b12) (unhide HG).sorted m9 m7 m8 m10)
    obtain ⟨d0, d1, d2, d3, -⟩ := cellsGr ((b12.block gb (heap_lt m3)).trans m3)
    have HB12 : Hid (Below w.heap.size w w12) := m6.trans (b12.mono m6.size)
    clear m1 m2 m3 m4 m5 m6 m7 m8 m9 m10 b12 hw12 HB11
    go_wp2_with fail
    refine (unhide CAc).mono ?_
    intro r w13 hh
    obtain ⟨b, rfl, hb, b13⟩ := unhide hh
    clear CAc hh d0 d1 d2 d3
    have ebb : yb = b := by
      rw [arcsE_of, ← (unhide HG).acyc] at hb
      cases b with
      | true => exact hb.1 rfl
      | false => cases yb with
        | true => exact (hb.2 rfl).symm
        | false => rfl
    subst ebb
    have HEND : Hid (Below w.heap.size w w13) := (unhide HB12).trans (b13.mono (unhide HB12).size)
    clear hb b13
    have hyy : (yb == yb) = true := by simp
    go_wp2_with fail
    go_ret
    exact ⟨rfl, unhide HEND⟩
  · obtain ⟨q1, q2, q3, q4, q5, q6, q7⟩ := unhide HZ
    obtain ⟨e1, e2, e3⟩ := of_bad q1 q3 q5 hz
    have hn1 : nl = 0 := by rw [q6, e1]; rfl
    have hn2 : nx = 0 := by rw [q7, e2]; rfl
    subst hn1 hn2 e3
    have hz2 : (ca == 0) = false := by simpa using hz
    have hz3 : (ca != 0) = true := by simpa using hz
    clear q1 q2 q3 q4 q5 q6 q7 e1 e2 hz
    go_wp2_with fail
    go_ret
    exact ⟨rfl, unhide HB6⟩
end

end Go.Proofs.Ytdpdghhieokcfaa
