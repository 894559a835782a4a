/- play, whatever is called. -/
import Derived.Test.YtbmcibofecigeaaPlB14
import Derived.Test.YtbmcibofecigeaaPlD14
import Derived.Test.YtbmcibofecigeaaPlQ14
namespace Go.Proofs.Ytbmcibofecigeaa
open Go.RowKit Go.Maps
section
variable {p : Nat} {s tc : Int} {vs vs' : List Int} {gs gs' : List EdV} {T : L14.Tr} {N : Nat} {rd wr wr1 k e : Int} {vv ev : Value} {W w2 : World} {C : (Ending → World → Prop) → World → Prop}
theorem pair_of {x : Value} {r : Ending} (h : AnsX W vv ev vs' gs' rd wr1 x r w2) (hw1 : wr ≤ wr1) (hw2 : wr1 ≤ wr + 1) (hG : GV vs' gs' (N + 1)) (hC : ∀ L2 W2, LvK L2 W2 p s tc vs gs T N → C (fun r w' => r = .returned x ∧ Hid (∃ T' tc', LvGo L2 W2 p s tc' vs' gs' T' (N + 1) w' ∧ Bd k e wr wr1 vs gs T tc vs' gs' T' tc')) W2) :
    ∃ va vn vc ea en ec wr1, r = .returned (.tuple #[.agg #[.slice va vn vc, .slice ea en ec, .int .i64 rd, .int .i64 wr1], x]) ∧ Hid (Pair p s tc vs gs T N wr k e vv ev W C x (.slice va vn vc) (.slice ea en ec) wr1 w2) := by
  obtain ⟨v1, e1, rfl, y1, y2, y3, y4, y5⟩ := h
  have y2 : ERow 0 w2 e1 gs' := y2
  obtain ⟨va, vc, hv, -⟩ := brow_shape y1
  obtain ⟨vn, hv'⟩ : ∃ vn, v1 = .slice va vn vc := ⟨_, hv⟩
  clear hv
  obtain ⟨ea, ec, he⟩ := rrow_shape y2
  obtain ⟨en, he'⟩ : ∃ en, e1 = .slice ea en ec := ⟨_, he⟩
  clear he
  subst hv' he'
  exact ⟨va, vn, vc, ea, en, ec, wr1, rfl, vs', gs', y1, y2, y3, y4, y5, hw1, hw2, hG, hC⟩
theorem pair_ofE {a : EdgeV} {x : Int} {r : Ending} (h : AnsGE W vv ev vs' gs' rd wr1 a x r w2) (hw1 : wr ≤ wr1) (hw2 : wr1 ≤ wr + 1) (hG : GV vs' gs' (N + 1)) (hC : ∀ L2 W2, LvK L2 W2 p s tc vs gs T N → C (fun r w' => r = .returned (.int .i64 x) ∧ Hid (∃ T' tc', LvGo L2 W2 p s tc' vs' gs' T' (N + 1) w' ∧ Bd k e wr wr1 vs gs T tc vs' gs' T' tc')) W2) :
    ∃ va vn vc ea en ec wr1 mid, r = .returned (.tuple #[.agg #[.slice va vn vc, .slice ea en ec, .int .i64 rd, .int .i64 wr1], mid, .int .i64 x]) ∧ Hid (Pair p s tc vs gs T N wr k e vv ev W C (.int .i64 x) (.slice va vn vc) (.slice ea en ec) wr1 w2) := by
  obtain ⟨v1, e1, rfl, y1, y2, y3, y4, y5⟩ := h
  have y2 : ERow 0 w2 e1 gs' := y2
  obtain ⟨va, vc, hv, -⟩ := brow_shape y1
  obtain ⟨vn, hv'⟩ : ∃ vn, v1 = .slice va vn vc := ⟨_, hv⟩
  clear hv
  obtain ⟨ea, ec, he⟩ := rrow_shape y2
  obtain ⟨en, he'⟩ : ∃ en, e1 = .slice ea en ec := ⟨_, he⟩
  clear he
  subst hv' he'
  exact ⟨va, vn, vc, ea, en, ec, wr1, _, rfl, vs', gs', y1, y2, y3, y4, y5, hw1, hw2, hG, hC⟩
theorem pair_ofU {n x : Int} {r : Ending} (h : AnsGU W vv ev vs' gs' rd wr1 n x r w2) (hw1 : wr ≤ wr1) (hw2 : wr1 ≤ wr + 1) (hG : GV vs' gs' (N + 1)) (hC : ∀ L2 W2, LvK L2 W2 p s tc vs gs T N → C (fun r w' => r = .returned (.int .i64 x) ∧ Hid (∃ T' tc', LvGo L2 W2 p s tc' vs' gs' T' (N + 1) w' ∧ Bd k e wr wr1 vs gs T tc vs' gs' T' tc')) W2) :
    ∃ va vn vc ea en ec wr1 mid, r = .returned (.tuple #[.agg #[.slice va vn vc, .slice ea en ec, .int .i64 rd, .int .i64 wr1], mid, .int .i64 x]) ∧ Hid (Pair p s tc vs gs T N wr k e vv ev W C (.int .i64 x) (.slice va vn vc) (.slice ea en ec) wr1 w2) := by
  obtain ⟨v1, e1, rfl, y1, y2, y3, y4, y5⟩ := h
  have y2 : ERow 0 w2 e1 gs' := y2
  obtain ⟨va, vc, hv, -⟩ := brow_shape y1
  obtain ⟨vn, hv'⟩ : ∃ vn, v1 = .slice va vn vc := ⟨_, hv⟩
  clear hv
  obtain ⟨ea, ec, he⟩ := rrow_shape y2
  obtain ⟨en, he'⟩ : ∃ en, e1 = .slice ea en ec := ⟨_, he⟩
  clear he
  subst hv' he'
  exact ⟨va, vn, vc, ea, en, ec, wr1, _, rfl, vs', gs', y1, y2, y3, y4, y5, hw1, hw2, hG, hC⟩
end
theorem eOut_zero {es : List EdgeV} {v : Int} : (eOut es v).length = 0 ↔ ∀ x ∈ es, x.2.1 ≠ v := by
  rw [List.length_eq_zero_iff]
  unfold eOut
  rw [List.map_eq_nil_iff, List.filter_eq_nil_iff]
  exact ⟨fun h x hx e => h x hx (decide_eq_true e), fun h x hx e => h x hx (of_decide_eq_true e)⟩
theorem eIn_zero {es : List EdgeV} {v : Int} : (eIn es v).length = 0 ↔ ∀ x ∈ es, x.2.2.1 ≠ v := by
  rw [List.length_eq_zero_iff]
  unfold eIn
  rw [List.map_eq_nil_iff, List.filter_eq_nil_iff]
  exact ⟨fun h x hx e => h x hx (decide_eq_true e), fun h x hx e => h x hx (of_decide_eq_true e)⟩
theorem bound_iff {es : List EdgeV} {v : Int} : 0 < (eOut es v).length + (eIn es v).length ↔ ∃ x ∈ es, x.2.1 = v ∨ x.2.2.1 = v := by
  constructor
  · intro h
    by_cases hb : ∃ x ∈ es, x.2.1 = v ∨ x.2.2.1 = v
    · exact hb
    · have h1 := eOut_zero.2 (fun x hx e => hb ⟨x, hx, .inl e⟩)
      have h2 := eIn_zero.2 (fun x hx e => hb ⟨x, hx, .inr e⟩)
      omega
  · rintro ⟨x, hx, h | h⟩
    · have : (eOut es v).length ≠ 0 := fun z => eOut_zero.1 z x hx h
      omega
    · have : (eIn es v).length ≠ 0 := fun z => eIn_zero.1 z x hx h
      omega
theorem perm_rise {l ks : List Int} (h1 : l.Perm ks) (h2 : l.Pairwise (· ≤ ·)) (h3 : ks.Nodup) : l.Pairwise (· < ·) :=
  (List.pairwise_and_iff.2 ⟨h2, h1.nodup_iff.2 h3⟩).imp (fun {a b} hh => by have := hh.1; have := hh.2; omega)
theorem cutV_mem {V : List Int} (hn : V.Nodup) {i : Nat} {v : Int} (hi : V[i]? = some v) (x : Int) : x ∈ V.take i ++ V.drop (i + 1) ↔ x ∈ V ∧ x ≠ v := by
  obtain ⟨hl, e⟩ := List.getElem?_eq_some_iff.1 hi
  have e2 : V = V.take i ++ v :: V.drop (i + 1) := by rw [← e, List.getElem_cons_drop, List.take_append_drop]
  have hn2 := hn
  rw [e2, List.nodup_append] at hn2
  obtain ⟨-, n2, n3⟩ := hn2
  constructor
  · intro hx
    rcases List.mem_append.1 hx with h | h
    · exact ⟨List.mem_of_mem_take h, n3 x h v List.mem_cons_self⟩
    · exact ⟨List.mem_of_mem_drop h, fun q => (List.nodup_cons.1 n2).1 (by rw [← q]; exact h)⟩
  · rintro ⟨hx, q⟩
    rw [e2] at hx
    rcases List.mem_append.1 hx with h | h
    · exact List.mem_append.2 (.inl h)
    · rcases List.mem_cons.1 h with h | h
      · exact absurd h q
      · exact List.mem_append.2 (.inr h)
theorem kept_fit {n b : Int} (hn : 0 ≤ n) (h : kept n = some b) : ∃ c : Nat, b = (c : Int) := by
  unfold kept at h
  split at h
  · exact ⟨0, (Option.some.inj h).symm⟩
  · split at h
    · cases h
    · exact ⟨n.toNat, by rw [← Option.some.inj h]; omega⟩
section
variable {L : Lab} {w : World} {p : Nat} {s tc : Int} {vs : List Int} {gs : List EdV} {T : L14.Tr} {N : Nat} {vv ev : Value} {rd wr_0 k e u v b : Int}
theorem LvK.one (h : LvK L w p s tc vs gs T N) (i j : Nat) (x y : EdgeV) (hi : gs[i]? = some x) (hj : gs[j]? = some y) (hxy : x.1 = y.1) : x = y := by
  have hn := h.un
  have h1 : (gs.map (·.1))[i]? = some x.1 := by rw [List.getElem?_map, hi]; rfl
  have h2 : (gs.map (·.1))[j]? = some x.1 := by rw [List.getElem?_map, hj, hxy]; rfl
  have : i = j := L14.nodup_idx hn h1 h2
  rw [this, hj] at hi
  exact (Option.some.inj hi).symm
theorem LvGo.ans {L2 : Lab} {W2 w' : World} {M : Nat} {vs0 : List Int} (h : LvGo L2 W2 p s tc vs gs T M w') (hm : M ≤ N + 1) : ∃ T' tc', LvGo L2 W2 p s tc' vs gs T' (N + 1) w' ∧ Bd k e wr_0 wr_0 vs0 gs T tc vs gs T' tc' :=
  ⟨T, tc, h.more hm, .inl ⟨rfl, rfl, rfl, rfl⟩⟩
set_option maxHeartbeats 2000000 in
theorem playT [Inhabited EntF] (hK : LvK L w p s tc vs gs T N) (hN : N ≤ 199) (hG : GV vs gs N) (hvv : NRow w vv vs) (hev : ERow 0 w ev gs) (lv : ∀ b, vv.ownBlock = some b → L b = none) (le : ∀ b, ev.ownBlock = some b → L b = none) (hw0 : 0 ≤ wr_0) (hw1 : wr_0 ≤ 1000000) (hoe : okN e) (hou : okN u) (hov : okN v) (hob : 0 ≤ b) :
    Calls Try.prog 8 #[.pointer (some ⟨p, 0, none⟩), .agg #[vv, ev, .int .i64 rd, .int .i64 wr_0], .int .i64 s, .agg #[.int .i64 k, .int .i64 e, .int .i64 u, .int .i64 v, .int .u32 b]] w fun r w' => Hid (PlayAns L w p s tc vs gs T N vv ev rd wr_0 k e r w') := by
  have lV := hK.vl
  have lE := hG.2
  have rise := hG.1
  have G3 : GV vs gs (N + 1) := ⟨hG.1, by omega⟩
  have nv : ∀ W, Below w.heap.size w W → NRow W vv vs := fun W hW => nrow_below hvv hW
  have ne : ∀ W, Below w.heap.size w W → ERow 0 W ev gs := fun W hW => rrow_below hev hW
  by_cases k1 : k = 1
  · subst k1
    by_cases hv : v ∈ vs
    · refine play1 (t := false) hK hvv hev lv le (fun W hW => (refAVIn (nv W hW) (ne W hW) rise (by omega) (by omega) hv).mono fun r w2 hh => ?_)
      exact pair_of (unhide hh) (Int.le_refl _) (by omega) G3 (fun L2 W2 K2 => (vAddVIn K2 hv).mono fun r w' q => ⟨q.1, (K2.stay (M := N) q.2 (by omega)).ans (by omega)⟩)
    · refine play1 (t := true) hK hvv hev lv le (fun W hW => (refAVNew (nv W hW) (ne W hW) rise (by omega) (by omega) hv).mono fun r w2 hh => ?_)
      obtain ⟨V', q1, q2, q3⟩ := unhide hh
      have hmem : ∀ x, x ∈ V' ↔ x = v ∨ x ∈ vs := fun x => by rw [q1.mem_iff, List.mem_append, List.mem_singleton]; exact or_comm
      have hnd : (vs ++ [v]).Nodup := by
        rw [List.nodup_append]
        refine ⟨hK.nd, by simp, fun a ha b hb => ?_⟩
        rw [List.mem_singleton.1 hb]; exact fun z => hv (by rw [← z]; exact ha)
      have hl : V'.length ≤ N + 1 := by rw [q1.length_eq]; simp; omega
      exact pair_of q3 (Int.le_refl _) (by omega) ⟨perm_rise q1 q2 hnd, by omega⟩ (fun L2 W2 K2 => (vAddVNew K2 (by omega) hv hov (q1.nodup_iff.2 hnd) hmem hl).mono fun r w' q => ⟨q.1, (unhide q.2).ans (by omega)⟩)
  by_cases k2 : k = 2
  · subst k2
    by_cases hvs : v = s
    · subst hvs
      refine play2 (t := false) hK hvv hev lv le (fun W hW => (refDropSrc (nv W hW) (ne W hW)).mono fun r w2 hh => ?_)
      exact pair_of (unhide hh) (Int.le_refl _) (by omega) G3 (fun L2 W2 K2 => (vDropVNo K2 hov (.inr (.inl rfl))).mono fun r w' q => ⟨q.1, (K2.stay (M := N) q.2 (by omega)).ans (by omega)⟩)
    by_cases hv : v ∈ vs
    · by_cases hb : ∃ x ∈ gs, x.2.1 = v ∨ x.2.2.1 = v
      · refine play2 (t := false) hK hvv hev lv le (fun W hW => (refDropOther (t := false) (nv W hW) (ne W hW) hvs (fun W2 hW2 => refDVBound (nrow_below (nv W hW) hW2) (rrow_below (ne W hW) hW2) rise (by omega) (by omega) hv (bound_iff.2 hb))).mono fun r w2 hh => ?_)
        exact pair_of (unhide hh) (Int.le_refl _) (by omega) G3 (fun L2 W2 K2 => (vDropVNo K2 hov (.inr (.inr hb))).mono fun r w' q => ⟨q.1, (K2.stay (M := N) q.2 (by omega)).ans (by omega)⟩)
      · obtain ⟨i, hi⟩ := List.getElem?_of_mem hv
        have hmem := cutV_mem hK.nd hi
        have hsub : (vs.take i ++ vs.drop (i + 1)).Sublist vs := by
          have h1 := List.Sublist.append (List.Sublist.refl (vs.take i)) (List.drop_sublist_drop_left vs (Nat.le_succ i))
          rw [List.take_append_drop] at h1
          exact h1
        refine play2 (t := true) hK hvv hev lv le (fun W hW => (refDropOther (t := true) (vs' := vs.take i ++ vs.drop (i + 1)) (nv W hW) (ne W hW) hvs (fun W2 hW2 => (refDVYes (nrow_below (nv W hW) hW2) (rrow_below (ne W hW) hW2) rise (by omega) (by omega) hv (Nat.eq_zero_of_not_pos (fun z => hb (bound_iff.1 z)))).mono fun r w2 hh => ?_)).mono fun r w2 hh => ?_)
        · obtain ⟨j, hj, q3⟩ := unhide hh
          have hij : j = i := L14.nodup_idx hK.nd hj hi
          subst hij
          exact q3
        · exact pair_of (unhide hh) (Int.le_refl _) (by omega) ⟨rise.sublist hsub, by omega⟩ (fun L2 W2 K2 => (vDropVYes K2 hv hvs (fun x hx => ⟨fun z => hb ⟨x, hx, .inl z⟩, fun z => hb ⟨x, hx, .inr z⟩⟩) (hK.nd.sublist hsub) (fun x => by rw [hmem x]; exact and_comm) (by have := hsub.length_le; omega)).mono fun r w' q => ⟨q.1, (unhide q.2).ans (by omega)⟩)
    · refine play2 (t := false) hK hvv hev lv le (fun W hW => (refDropOther (t := false) (nv W hW) (ne W hW) hvs (fun W2 hW2 => refDVNone (nrow_below (nv W hW) hW2) (rrow_below (ne W hW) hW2) rise (by omega) (by omega) hv)).mono fun r w2 hh => ?_)
      exact pair_of (unhide hh) (Int.le_refl _) (by omega) G3 (fun L2 W2 K2 => (vDropVNo K2 hov (.inl hv)).mono fun r w' q => ⟨q.1, (K2.stay (M := N) q.2 (by omega)).ans (by omega)⟩)
  by_cases k3 : k = 3
  · subst k3
    by_cases he : e < 1
    · refine play3 (t := 1) hK hvv hev lv le (fun W hW => (refInsLow (nv W hW) (ne W hW) rise (by omega) (by omega) he).mono fun r w2 hh => ?_)
      exact pair_of (unhide hh) (Int.le_refl _) (by omega) G3 (fun L2 W2 K2 => (vInsLow K2 he).mono fun r w' q => ⟨q.1, (unhide q.2).ans (by omega)⟩)
    by_cases ht : ∃ x ∈ gs, x.1 = e
    · refine play3 (t := 2) hK hvv hev lv le (fun W hW => (refInsTwice (nv W hW) (ne W hW) rise (by omega) (by omega) he ht).mono fun r w2 hh => ?_)
      exact pair_of (unhide hh) (Int.le_refl _) (by omega) G3 (fun L2 W2 K2 => (vInsTwice K2 he hoe ht).mono fun r w' q => ⟨q.1, (unhide q.2).ans (by omega)⟩)
    have hno : ∀ x ∈ gs, x.1 ≠ e := fun x hx z => ht ⟨x, hx, z⟩
    by_cases hu : u ∈ vs
    · by_cases hv : v ∈ vs
      · cases hk : kept b with
        | none =>
          refine play3 (t := 7) hK hvv hev lv le (fun W hW => (refInsBad (nv W hW) (ne W hW) rise (by omega) (by omega) he hno hu hv hk).mono fun r w2 hh => ?_)
          exact pair_of (unhide hh) (Int.le_refl _) (by omega) G3 (fun L2 W2 K2 => (vInsBad K2 he hoe hno hu hv hk).mono fun r w' q => ⟨q.1, (unhide q.2).ans (by omega)⟩)
        | some b' =>
          obtain ⟨c, hc⟩ := kept_fit hob hk
          subst hc
          refine play3 (t := 0) hK hvv hev lv le (fun W hW => (refInsYes (nv W hW) (ne W hW) rise (by omega) (by omega) he hno hu hv hk).mono fun r w2 hh => ?_)
          exact pair_of (unhide hh) (Int.le_refl _) (by omega) ⟨rise, by rw [List.length_append, List.length_singleton]; omega⟩ (fun L2 W2 K2 => (vInsYes K2 he hoe hno hu hv hk (by omega)).mono fun r w' q => by
            obtain ⟨n, T', q1, q2⟩ := unhide q.2
            exact ⟨q.1, T', (n : Int), q1, .inr (.inl ⟨rfl, rfl, ⟨_, rfl⟩, n, rfl, q2⟩)⟩)
      · refine play3 (t := 5) hK hvv hev lv le (fun W hW => (refInsNoV (nv W hW) (ne W hW) rise (by omega) (by omega) he hno hu hv).mono fun r w2 hh => ?_)
        exact pair_of (unhide hh) (Int.le_refl _) (by omega) G3 (fun L2 W2 K2 => (vInsNoV K2 he hoe hno hu hv hov).mono fun r w' q => ⟨q.1, (unhide q.2).ans (by omega)⟩)
    · refine play3 (t := 5) hK hvv hev lv le (fun W hW => (refInsNoU (nv W hW) (ne W hW) rise (by omega) (by omega) he hno hu).mono fun r w2 hh => ?_)
      exact pair_of (unhide hh) (Int.le_refl _) (by omega) G3 (fun L2 W2 K2 => (vInsNoU K2 he hoe hno hu hou).mono fun r w' q => ⟨q.1, (unhide q.2).ans (by omega)⟩)
  have hone := hK.one
  by_cases k4 : k = 4
  · subst k4
    by_cases ht : ∃ x ∈ gs, x.1 = e
    · obtain ⟨⟨e', u', v', b'⟩, hx, e1⟩ := ht
      replace e1 : e' = e := e1
      subst e1
      have hb' := (hK.lo _ hx).2.1
      obtain ⟨c, hc⟩ : ∃ c : Nat, b' = (c : Int) := ⟨b'.toNat, (Int.toNat_of_nonneg hb').symm⟩
      subst hc
      obtain ⟨i, hi⟩ := List.getElem?_of_mem hx
      refine play4 (t := 0) hK hvv hev lv le (fun W hW => (refDropE e' (nv W hW) (ne W hW) (by omega) hw0 (by omega) ⟨i, hi⟩ rfl hone).mono fun r w2 hh => ?_)
      obtain ⟨j, hj, q3⟩ := unhide hh
      have hil := (List.getElem?_eq_some_iff.1 hj).1
      refine pair_ofE q3 (by omega) (by omega) ⟨rise, by rw [List.length_append, List.length_take, List.length_drop]; omega⟩ (fun L2 W2 K2 => ?_)
      by_cases hlst : L14.lst T v' = e'
      · refine (vDelLast K2 hoe hj (by omega) hlst).mono fun r w' q => ?_
        obtain ⟨n, T', q1, q2⟩ := unhide q.2
        exact ⟨q.1, T', (n : Int), q1.more (by omega), .inr (.inr (.inl ⟨rfl, rfl, rfl, ⟨j, _, hj, rfl, rfl⟩, n, rfl, q2⟩))⟩
      · refine (vDelPlain K2 hoe hj (by omega) hlst).mono fun r w' q => ?_
        obtain ⟨n, T', q1, q2⟩ := unhide q.2
        exact ⟨q.1, T', (n : Int), q1.more (by omega), .inr (.inr (.inl ⟨rfl, rfl, rfl, ⟨j, _, hj, rfl, rfl⟩, n, rfl, q2⟩))⟩
    · have hno : ∀ x ∈ gs, x.1 ≠ e := fun x hx z => ht ⟨x, hx, z⟩
      refine play4 (t := 6) hK hvv hev lv le (fun W hW => (refDropENo e (nv W hW) (ne W hW) (by omega) (fun ⟨i, a, ha, hz⟩ => hno a (List.mem_of_getElem? ha) hz)).mono fun r w2 hh => ?_)
      exact pair_ofE (unhide hh) (Int.le_refl _) (by omega) G3 (fun L2 W2 K2 => (vDelNo K2 hoe hno).mono fun r w' q => ⟨q.1, (unhide q.2).ans (by omega)⟩)
  by_cases k5 : k = 5
  · subst k5
    by_cases ht : ∃ x ∈ gs, x.1 = e
    · obtain ⟨⟨e', u', v', b'⟩, hx, e1⟩ := ht
      replace e1 : e' = e := e1
      subst e1
      have hb' := (hK.lo _ hx).2.1
      obtain ⟨c, hc⟩ : ∃ c : Nat, b' = (c : Int) := ⟨b'.toNat, (Int.toNat_of_nonneg hb').symm⟩
      subst hc
      obtain ⟨i, hi⟩ := List.getElem?_of_mem hx
      cases hk : kept b with
      | none =>
        refine play5 (t := 7) hK hvv hev lv le (fun W hW => (refReweighBad e' b hk (nv W hW) (ne W hW) (by omega) hw0 (by omega) ⟨i, hi⟩ rfl hone).mono fun r w2 hh => ?_)
        exact pair_ofU (unhide hh) (Int.le_refl _) (by omega) G3 (fun L2 W2 K2 => (vRewBad K2 hoe hi hk).mono fun r w' q => ⟨q.1, (unhide q.2).ans (by omega)⟩)
      | some b2 =>
        obtain ⟨c2, hc2⟩ := kept_fit hob hk
        subst hc2
        refine play5 (t := 0) hK hvv hev lv le (fun W hW => (refReweigh e' b hk (nv W hW) (ne W hW) (by omega) hw0 (by omega) ⟨i, hi⟩ rfl hone).mono fun r w2 hh => ?_)
        obtain ⟨j, hj, q3⟩ := unhide hh
        refine pair_ofU q3 (by omega) (by omega) ⟨rise, by rw [List.length_set]; omega⟩ (fun L2 W2 K2 => ?_)
        by_cases hcc : c < c2
        · refine (vRewUp K2 hoe hj hk (by omega) hcc).mono fun r w' q => ?_
          obtain ⟨n, T', q1, q2⟩ := unhide q.2
          exact ⟨q.1, T', (n : Int), q1.more (by omega), .inr (.inr (.inr ⟨rfl, rfl, rfl, j, u', v', c, c2, hj, rfl, n, rfl, .inl ⟨hcc, q2⟩⟩))⟩
        · refine (vRewDn K2 hoe hj hk (by omega) hcc).mono fun r w' q => ?_
          obtain ⟨n, T', q1, q2⟩ := unhide q.2
          exact ⟨q.1, T', (n : Int), q1.more (by omega), .inr (.inr (.inr ⟨rfl, rfl, rfl, j, u', v', c, c2, hj, rfl, n, rfl, .inr ⟨hcc, q2⟩⟩))⟩
    · have hno : ∀ x ∈ gs, x.1 ≠ e := fun x hx z => ht ⟨x, hx, z⟩
      refine play5 (t := 6) hK hvv hev lv le (fun W hW => (refReweighNo e b (nv W hW) (ne W hW) (by omega) (fun ⟨i, a, ha, hz⟩ => hno a (List.mem_of_getElem? ha) hz)).mono fun r w2 hh => ?_)
      exact pair_ofU (unhide hh) (Int.le_refl _) (by omega) G3 (fun L2 W2 K2 => (vRewNo K2 hoe hno).mono fun r w' q => ⟨q.1, (unhide q.2).ans (by omega)⟩)
  exact playAsk hK hN hG hvv hev lv le hov (by simpa using k1) (by simpa using k2) (by simpa using k3) (by simpa using k4) (by simpa using k5)
end
end Go.Proofs.Ytbmcibofecigeaa
