/- mend, walked. -/
import Derived.Test.YtbmcibofecigeaaLvF14
import Derived.Test.YtbmcibofecigeaaLvN142
namespace Go.Proofs.Ytbmcibofecigeaa
open Go.RowKit Go.Maps
attribute [local go_sem] run_storeF
/-- An edge that is the last of a path went, or is dearer. -/
structure MG (E E' : L14.Es) (s : Int) (T : L14.Tr) (v e : Int) : Prop where
  rt : L14.Right E s T
  vf : L14.fnd T v = true
  ne : v ≠ s
  le : L14.lst T v = e
  h0 : e ≠ 0
  ho : ∀ d, d ≠ e → E' d = E d
  he : ∀ x y c, E e = some (x, y, c) → y = v
  hn : ∀ x y c, E' e = some (x, y, c) → c ≤ 2139095040 ∧ ∃ c', E e = some (x, y, c')
theorem MG.bg {E E' : L14.Es} {s : Int} {T : L14.Tr} {v e : Int} (h : MG E E' s T v e) : BG E E' s T v := by
  refine ⟨h.rt, h.vf, h.ne, fun w hw => h.ho _ (fun z => ?_), fun u c q hd => ?_, by rw [h.ho 0 (fun z => h.h0 z.symm)]; exact h.rt.pos⟩
  · by_cases q : w = s
    · rw [q, h.rt.src.2.2] at z; exact h.h0 z.symm
    · cases f : L14.fnd T w with
      | true =>
        obtain ⟨u, c, g1, -⟩ := h.rt.hang w f q
        rw [z] at g1
        exact hw (h.he _ _ _ g1)
      | false => rw [(h.rt.non w f).2] at z; exact h.h0 z.symm
  · rw [h.le] at q
    obtain ⟨-, c', hc⟩ := h.hn _ _ _ q
    exact L14.not_desc h.rt h.vf h.ne (by rw [h.le]; exact hc) hd
theorem forget_snoc (T : L14.Tr) (l : List Int) (x : Int) : L14.upd (L14.forget T l) x (false, 0, 0) = L14.forget T (l ++ [x]) := by
  funext w
  by_cases q : w = x
  · rw [q, L14.upd_self, L14.forget_in (List.mem_append.2 (.inr (List.mem_singleton.2 rfl)))]
  · rw [L14.upd_ne q]
    by_cases z : w ∈ l
    · rw [L14.forget_in z, L14.forget_in (List.mem_append.2 (.inl z))]
    · rw [L14.forget_out z, L14.forget_out (fun y => (List.mem_append.1 y).elim z (fun y => q (List.mem_singleton.1 y)))]
theorem forget_nil (T : L14.Tr) : L14.forget T [] = T := by
  funext w
  exact L14.forget_out (fun z => by cases z)
def labR (L : Lab) (x : Value) : Lab := fun d => if x.ownBlock = some d then some (7, 0) else L d
section
variable {L L' : Lab} {w : World} {p mv me : Nat} {s tc : Int} {V : Int → Option Nat} {nv : Nat} {E E' : L14.Es} {ne : Nat} {T : L14.Tr} {O I : Int → List Int} {vs : List Int} {N : Nat}
theorem LvAt.relbl (h : LvAt L w p mv me s tc V nv E ne T O I) (hL : ∀ b x, L b = some x → x.1 ≤ 6 → L' b = some x) : LvAt L' w p mv me s tc V nv E ne T O I := by
  refine ⟨h.box, h.vs, h.es, hL _ _ h.lp (by decide), hL _ _ h.lv (by decide), hL _ _ h.le (by decide), fun v b hb => ?_⟩
  obtain ⟨ov, iv, g1, g2, g3, g4, g5, g6⟩ := h.sp v b hb
  exact ⟨ov, iv, g1, hL _ _ g2 (by show 4 ≤ 6; decide), g3, g4, fun d e => hL _ _ (g5 d e) (by show 5 ≤ 6; decide), fun d e => hL _ _ (g6 d e) (by show 6 ≤ 6; decide)⟩
theorem row_kept {n0 : Nat} {w4 W : World} {B : Nat} {es : List Int} {x : Value} (hr : BRow B w4 x es) (ht : Tou n0 (labR L x) w4 W) : NRow W x es :=
  nrow_kept (brow_at0 hr) (fun d e => ht.block d (hr.lt d e).2 (fun z => by
    have hd : labR L x d = some (7, 0) := if_pos e
    rcases z with ⟨v, z⟩ | ⟨-, z⟩
    · rw [hd] at z; cases congrArg (·.1) (Option.some.inj z)
    · rw [hd] at z; cases z))
end
section
variable [Inhabited EntF] {L : Lab} {w : World} {p mv me : Nat} {s tc : Int} {V : Int → Option Nat} {nv : Nat} {E E' : L14.Es} {ne : Nat} {T T' : L14.Tr} {O I : Int → List Int} {vs : List Int} {N : Nat}
/-- A row that is made in the midst of a repair is nobody's to write. -/
theorem SS.mark {n0 ph : Nat} {w0 w3 w4 : World} {T0 : L14.Tr} {TK : L14.Tr} {ms : List EntF} {nn : Nat} {P : List Int} {mx : Nat} {rest es : List Int} {x : Value} (h : SS (rx n0 ph L p mv me s tc V nv E ne TK O I vs N) w0 w3 T0 T ms nn P mx rest) (hb : Below w3.heap.size w3 w4) (hr : BRow w3.heap.size w4 x es) :
    SS (rx n0 ph (labR L x) p mv me s tc V nv E ne TK O I vs N) w4 w4 T T ms nn P mx rest := by
  obtain ⟨F, ho, hF⟩ := h.lh.on
  have hsz := hb.size
  have hno : ∀ b, b < w3.heap.size → labR L x b = L b := fun b q => if_neg (fun z => by have := (hr.lt b z).1; omega)
  refine ⟨⟨(h.lh.lv.below hb).relbl (fun b y q _ => ?_), ⟨F, ho.kept (fun k hk => hb.block k (ho.lt hk)), fun b q => ⟨by show labR L x b = none; rw [hno b (ho.lt q)]; exact (hF b q).1, (hF b q).2⟩⟩, h.lh.ml, fun b q => ?_, Nat.le_trans h.lh.n0 hsz⟩, h.lv, h.od, h.kk, MonoL.refl _, Turned.refl _ _⟩
  · have hlt : b < w3.heap.size := by
      rcases Nat.lt_or_ge b w3.heap.size with z | z
      · exact z
      · have := h.lh.nw b z
        rw [this] at q; cases q
    show labR L x b = some y
    rw [hno b hlt]; exact q
  · show labR L x b = none
    unfold labR
    rw [if_neg (fun z => by have := (hr.lt b z).2; omega)]
    exact h.lh.nw b (by omega)
/-- What mend leaves. -/
def MenA (L : Lab) (w : World) (p mv me : Nat) (s tc : Int) (V : Int → Option Nat) (nv : Nat) (E' : L14.Es) (ne : Nat) (T : L14.Tr) (O I : Int → List Int) (n : Nat) (w' : World) : Prop :=
  ∃ T', LvS L w' p mv me s tc V nv E' ne T' O I ∧ L14.Right E' s T' ∧ ChL L w L w' ∧ ∃ lost : List Int, lost.Nodup ∧ lost.length = n ∧ ∀ x ∈ lost, L14.fnd T x = true
theorem SS.men {n0 ph : Nat} {w4 w' : World} {T0 TK : L14.Tr} {nn : Nat} {P : List Int} {mx n B : Nat} {es lost : List Int} {x : Value} (hn : w.heap.size ≤ n0) (hc : ChL L w L w4) (hr : BRow B w4 x es) (hB : w.heap.size ≤ B) (h : SS (rx n0 ph (labR L x) p mv me s tc V nv E' ne TK O I vs N) w4 w' T0 T' [] nn P mx []) (hl : lost.Nodup) (hln : lost.length = n) (hf : ∀ x ∈ lost, L14.fnd T x = true) : MenA L w p mv me s tc V nv E' ne T O I n w' := by
  have hnl : ∀ b, labR L x b = none → L b = none := fun b q => by
    unfold labR at q
    by_cases z : x.ownBlock = some b
    · rw [if_pos z] at q; cases q
    · rw [if_neg z] at q; exact q
  refine ⟨T', ⟨h.lh.lv.relbl (fun b y q hy => ?_), fun b q => hnl b (h.lh.nw b q)⟩, h.lv.done (fun v ⟨_, q, _⟩ => (by cases q)), ⟨fun _ _ => rfl, ?_⟩, lost, hl, hln, hf⟩
  · have q : labR L x b = some y := q
    unfold labR at q
    by_cases z : x.ownBlock = some b
    · rw [if_pos z] at q
      rw [← Option.some.inj q] at hy
      exact absurd hy (by decide)
    · rw [if_neg z] at q; exact q
  · have h1 := hc.tur
    have h2 : Turned (fun b => (∃ v, labR L x b = some (4, v)) ∨ (n0 ≤ b ∧ labR L x b = none)) w4 w' := h.tu
    refine ⟨h2.os.trans h1.os, h2.tape.trans h1.tape, h2.output.trans h1.output, Nat.le_trans h1.size h2.size, fun b hb q => ?_⟩
    rw [h2.block b (by have := h1.size; omega) (fun z => ?_), h1.block b hb q]
    rcases z with ⟨v, z⟩ | ⟨z, -⟩
    · unfold labR at z
      by_cases y : x.ownBlock = some b
      · have := (hr.lt b y).1; omega
      · rw [if_neg y] at z
        exact q (fun y => by rw [z] at y; cases y)
    · omega
set_option maxHeartbeats 4000000 in
set_option maxRecDepth 100000 in
theorem vmendT (h : LvS L w p mv me s tc V nv E' ne T O I) (hG : GL V E' O I vs N) (hs : s ∈ vs) (hm : ∀ e u v c, E e = some (u, v, c) → v ∈ vs) (hN : N ≤ 200) {v e : Int} (hM : MG E E' s T v e) :
    Calls Try.prog 40 #[.pointer (some ⟨p, 0, none⟩), .int .i64 v] w fun r w' => ∃ n : Nat, r = .returned (.int .i64 n) ∧ Hid (MenA L w p mv me s tc V nv E' ne T O I n w') := by
  have C1 := hide (vbelowT h.at_ hG hs hm hN hM.bg)
  have HG : Hid (GL V E' O I vs N ∧ s ∈ vs ∧ (∀ e u v c, E e = some (u, v, c) → v ∈ vs) ∧ N ≤ 200 ∧ MG E E' s T v e) := ⟨hG, hs, hm, hN, hM⟩
  have HL := hide h
  clear h hG hs hm hN hM
  go_enter Try.func40, Try.ntmps40
  go_wp2_with fail
  refine (unhide C1).mono ?_
  rintro r w1 ⟨a, n, c, rfl, H1⟩
  obtain ⟨lost, b1, b2, b3⟩ := unhide H1
  have hbl := Bl_len (unhide HG).2.1 (unhide HG).2.2.1 (unhide HG).2.2.2.2.rt b3
  have hnl : n = lost.length := by obtain ⟨_, _, e, -⟩ := brow_shape b1; injection e
  have HB : Hid (L14.Bl E E' s T O v lost lost.length 0 ∧ (∀ x ∈ lost, x ∈ vs) ∧ lost.length ≤ 200 ∧ n = lost.length) := ⟨b3, hbl.1, by have := hbl.2; have := (unhide HG).1.vl; have := (unhide HG).2.2.2.1; omega, hnl⟩
  have HS : Hid (LvS L w1 p mv me s tc V nv E' ne (L14.forget T (lost.take 0)) O I ∧ ChL L w L w1 ∧ BRow w.heap.size w1 (.slice a n c) lost) := ⟨by rw [List.take_zero, forget_nil]; exact (unhide HL).below b2, ChL.below b2, b1⟩
  clear C1 H1 b1 b2 b3 hbl hnl
  go_wp2_with fail
  go_loopw [16] (fun s16 wr => ∃ (i : Nat), s16 = .int .i64 i ∧ Hid (i ≤ n ∧ LvS L wr p mv me s tc V nv E' ne (L14.forget T (lost.take i)) O I ∧ ChL L w L wr ∧ BRow w.heap.size wr (.slice a n c) lost)) (fun s16 _ => n - (intOf s16).toNat)
  case atStart => exact ⟨0, rfl, Nat.zero_le _, unhide HS⟩
  case round =>
    clear HS
    obtain ⟨i, rfl, HI⟩ := hrel
    obtain ⟨i0, i1, i2, i3⟩ := unhide HI
    obtain ⟨m1, m2, m3, m4⟩ := unhide HB
    by_cases hlt : i < n
    · obtain ⟨x, hx⟩ : ∃ x, lost[i]? = some x := ⟨_, List.getElem?_eq_getElem (by omega)⟩
      obtain ⟨ga, rfl⟩ := brow_some i3 (by omega)
      have kk := brow_at i3 hx
      have hG := (unhide HG).1
      have hxv := m2 x (List.mem_of_getElem? hx)
      obtain ⟨b, hb⟩ := hG.at_ hxv
      have C2 := hide (vforgetT i1.at_ (hG.okV x hxv) hb)
      obtain ⟨_, _, -, glab, -⟩ := i1.at_.sp x b hb
      obtain ⟨j, hj⟩ : ∃ j, j = i + 1 := ⟨_, rfl⟩
      have z1 : (i : Int) < (n : Int) := by omega
      have HJ : Hid (j = i + 1 ∧ j ≤ n ∧ n - j < n - i) := ⟨hj, by omega, by omega⟩
      have HQ : Hid (∀ w2, LvAt L w2 p mv me s tc V nv E' ne (L14.upd (L14.forget T (lost.take i)) x (false, 0, 0)) O I → Turned (fun d => d = b) wr w2 → LvS L w2 p mv me s tc V nv E' ne (L14.forget T (lost.take j)) O I ∧ ChL L w L w2 ∧ BRow w.heap.size w2 (.slice (some ⟨ga, 0, none⟩) n c) lost) := fun w2 h1 h2 => by
        rw [forget_snoc] at h1
        have e1 : lost.take j = lost.take i ++ [x] := by rw [hj, List.take_add_one, hx]; rfl
        rw [← e1] at h1
        have hlt2 := heap_lt (i1.at_.sp x b hb).choose_spec.choose_spec.1
        refine ⟨⟨h1, fun d q => i1.fr d (Nat.le_trans h2.size q)⟩, i2.trans ⟨fun _ _ => rfl, h2.mono (fun d _ e => by rw [e, glab]; exact fun y => by cases y)⟩, brow_kept i3 (fun d e => h2.block d (i3.lt d e).2 (fun z => ?_))⟩
        have hd := (i3.lt d e).1
        have := (unhide HL).fr d hd
        rw [z, glab] at this; cases this
      have zk : Hid (wrap64 ((i : Int) + 1) = (j : Int)) := by show wrap64 ((i : Int) + 1) = (j : Int); unfold wrap64; omega
      clear HI i0 i1 i2 i3 m1 m2 m3 m4 hlt hx hG hxv hb glab hj
      go_wp2_with fail
      refine (unhide C2).mono ?_
      rintro r w2 ⟨rfl, H2⟩
      have HQ2 := hide (unhide HQ w2 (unhide H2).1 (unhide H2).2)
      clear C2 HQ H2 kk
      go_wp2_with fail
      (try rw [unhide zk])
      exact ⟨⟨j, rfl, (unhide HJ).2.1, unhide HQ2⟩, by have := unhide HJ; simp [intOf]; omega⟩
    · obtain ⟨w3', hw3'⟩ : ∃ w3', w3' = wr := ⟨_, rfl⟩
      subst hw3'
      have z1 : ¬ (i : Int) < (n : Int) := by omega
      rw [List.take_of_length_le (by omega)] at i1
      have hGs := unhide HG
      have hM := hGs.2.2.2.2
      obtain ⟨d1, d2, d3⟩ := m1.done (fun w hw _ _ => hM.bg.hE w hw) (fun e u w c he => (hGs.1.out u e).2 ⟨w, c, he⟩)
      have hLv : L14.Lv E' s (L14.forget T lost) (fun _ => False) (entL E' (L14.forget T lost) I lost) := hM.rt.lose hM.ho (fun x y c q => by
        obtain ⟨q1, c', q2⟩ := hM.hn x y c q
        exact ⟨hM.he _ _ _ q2, q1⟩) hM.he hM.h0 d1 d2 d3 (fun d u w k q1 q2 q3 q4 => entL_all hGs.1 q1 (by unfold L14.fnd; rw [L14.forget_out q3]; exact q2) q4)
      have C2 := hide (newX (vs := vs) (N := N) i1 hLv)
      have HX : Hid (∀ n0 ph L', XG (rx n0 ph L' p mv me s tc V nv E' ne (L14.forget T lost) O I vs N)) := fun n0 ph L' => rx_good hGs.1 hGs.2.1 hGs.2.2.2.1 hLv.le_
      have HC : Hid (ChL L w L w3' ∧ BRow w.heap.size w3' (.slice a n c) lost) := ⟨i2, i3⟩
      have HLO : Hid (lost.Nodup ∧ lost.length = n ∧ ∀ x ∈ lost, L14.fnd T x = true) := ⟨m1.nd, m4.symm, fun x hx => (m1.ne x hx).2.1⟩
      clear HI i0 i1 i2 i3 m1 m2 m3 m4 hlt hGs hM d1 d2 d3 hLv
      go_wp2_with fail
      refine (unhide C2).mono ?_
      rintro r w3 ⟨ph, rfl, H3⟩
      have h3 := unhide H3
      have hrow3 : BRow w.heap.size w3 (.slice a n c) lost := brow_kept (unhide HC).2 (fun d e => by
        have hd := (unhide HC).2.lt d e
        refine h3.tu.block d hd.2 (fun z => ?_)
        have hl0 := (unhide HL).fr d hd.1
        rcases z with ⟨v, z⟩ | ⟨z, -⟩
        · have z : L d = some (4, v) := z
          rw [hl0] at z; cases z
        · have z : w3'.heap.size ≤ d := z
          omega)
      have C3 := hide (ventriesT h3.lh.lv (unhide HG).1 (unhide HG).2.2.2.1 (brow_at0 hrow3) (unhide HB).2.1 (unhide HB).2.2.1)
      clear C2 hrow3
      go_wp2_with fail
      refine (unhide C3).mono ?_
      rintro r w4 ⟨xa, xn, xc, rfl, H4⟩
      obtain ⟨q1, q2, q3⟩ := unhide H4
      have h4 := h3.mark q2 q1
      have hxn : xn = (entL E' (L14.forget T lost) I lost).length := by obtain ⟨_, _, e, -⟩ := brow_shape q1; injection e
      obtain ⟨es, hes⟩ : ∃ es, es = entL E' (L14.forget T lost) I lost := ⟨_, rfl⟩
      have HES : Hid (∀ d ∈ es, ∃ u x c, E' d = some (u, x, c)) := fun d hd => by rw [hes] at hd; exact entL_ed (unhide HG).1 hd
      rw [← hes] at h4 hxn q3 q1
      have HS : Hid (xn = es.length ∧ xn ≤ 40000 ∧ BRow w3.heap.size w4 (.slice xa xn xc) es ∧ ChL L w L w4 ∧ w.heap.size ≤ w3'.heap.size ∧ w.heap.size ≤ w3.heap.size) := by
        have c1 : ChL L w L w3 := (unhide HC).1.trans (tou_ch rfl h3.tu)
        exact ⟨hxn, by omega, q1, c1.trans (ChL.below q2), (unhide HC).1.tur.size, c1.tur.size⟩
      have HS4 : Hid (∃ T' ms nn, SS (rx w3'.heap.size ph (labR L (.slice xa xn xc)) p mv me s tc V nv E' ne (L14.forget T lost) O I vs N) w4 w4 (L14.forget T lost) T' ms nn [] 0 (es.drop 0)) := ⟨_, _, _, h4⟩
      clear C3 H3 h3 H4 q1 q2 q3 h4 hxn hes
      go_wp2_with fail
      go_loopw [29] (fun s29 wr => ∃ (i : Nat), s29 = .int .i64 i ∧ Hid (i ≤ xn ∧ ∃ T' ms nn, SS (rx w3'.heap.size ph (labR L (.slice xa xn xc)) p mv me s tc V nv E' ne (L14.forget T lost) O I vs N) w4 wr (L14.forget T lost) T' ms nn [] 0 (es.drop i))) (fun s29 _ => xn - (intOf s29).toNat)
      case atStart => exact ⟨0, rfl, Nat.zero_le _, unhide HS4⟩
      case round =>
        clear HS4
        obtain ⟨i, rfl, HI⟩ := hrel
        obtain ⟨i0, T', ms, nn, i1⟩ := unhide HI
        obtain ⟨m1, m2, m3, m4, m5, m6⟩ := unhide HS
        by_cases hlt : i < xn
        · obtain ⟨d, hd⟩ : ∃ d, es[i]? = some d := ⟨_, List.getElem?_eq_getElem (by omega)⟩
          have hdr : es.drop i = d :: es.drop (i + 1) := by
            have hl := (List.getElem?_eq_some_iff.1 hd)
            rw [List.drop_eq_getElem_cons hl.1, hl.2]
          rw [hdr] at i1
          obtain ⟨u, x, cc, hE⟩ := unhide HES d (List.mem_of_getElem? hd)
          have hrw := row_kept m3 i1.tu
          obtain ⟨g, rfl⟩ := brow_some hrw (by omega)
          have kk := brow_at hrw hd
          have C2 := hide (offerX (unhide HX _ _ _) i1 hE (fun _ => Nat.zero_le _))
          obtain ⟨j, hj⟩ : ∃ j, j = i + 1 := ⟨_, rfl⟩
          have z1 : (i : Int) < (xn : Int) := by omega
          have HJ : Hid (j = i + 1 ∧ j ≤ xn ∧ xn - j < xn - i) := ⟨hj, by omega, by omega⟩
          rw [← hj] at C2
          have zk : Hid (wrap64 ((i : Int) + 1) = (j : Int)) := by show wrap64 ((i : Int) + 1) = (j : Int); unfold wrap64; omega
          clear HI i0 i1 m1 m2 m3 m4 m5 m6 hlt hd hdr hE hrw hj
          go_wp2_with fail
          refine (unhide C2).mono ?_
          rintro r w2 ⟨rfl, H2⟩
          have HQ : Hid (∃ T' ms nn, SS (rx w3'.heap.size ph (labR L (.slice (some ⟨g, 0, none⟩) xn xc)) p mv me s tc V nv E' ne (L14.forget T lost) O I vs N) w4 w2 (L14.forget T lost) T' ms nn [] 0 (es.drop j)) := by
            obtain ⟨T2, ms2, nn2, q1, -, -⟩ := unhide H2
            exact ⟨T2, ms2, nn2, q1⟩
          clear C2 H2 kk
          go_wp2_with fail
          (try rw [unhide zk])
          exact ⟨⟨j, rfl, (unhide HJ).2.1, unhide HQ⟩, by have := unhide HJ; simp [intOf]; omega⟩
        · have z1 : ¬ (i : Int) < (xn : Int) := by omega
          rw [List.drop_eq_nil_of_le (by omega)] at i1
          have C2 := hide (vspreadT (unhide HX _ _ _) i1)
          clear HI i0 i1 m1 m2 m3 m4 m5 m6 hlt
          go_wp2_with fail
          refine (unhide C2).mono ?_
          rintro r w5 ⟨n5, rfl, H5⟩
          have HA : Hid (MenA L w p mv me s tc V nv E' ne T O I n w5) := by
            obtain ⟨-, T2, nn2, P2, mx2, h2, -, -⟩ := unhide H5
            obtain ⟨m1, m2, m3, m4, m5, m6⟩ := unhide HS
            obtain ⟨l1, l2, l3⟩ := unhide HLO
            exact h2.men m5 m4 m3 m6 l1 l2 l3
          clear C2 H5
          go_wp2_with fail
          go_ret
          exact ⟨n, rfl, HA⟩
end
end Go.Proofs.Ytbmcibofecigeaa
