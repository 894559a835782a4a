/- LiveBuilt, walked. -/
import Derived.Test.YtbmcibofecigeaaGreatBuW14
import Derived.Test.YtbmcibofecigeaaGreatRW14
namespace Go.Proofs.YtbmcibofecigeaaGreat

section
open Go.RowKit Go.Maps
section
variable {w W : World} {p : Nat} {s : Int} {vv ev : Value} {wr : Int}
/-- A tree and its graph, for the law's questions. -/
def Asked (p : Nat) (s : Int) (vv ev : Value) (W : World) : Prop := ∃ ys es ds T, TLv W p s ys es ds T ∧ NRow W vv ys ∧ ERow 0 W ev es
theorem BuiltA.asked (h : BuiltA w p s vv ev wr W) : Asked p s vv ev W ∧ Below w.heap.size w W := by
  obtain ⟨L, tc, vs, gs, T, N, h1, h2, h3, h4, h5, -, -, -, h6, -⟩ := h
  exact ⟨⟨vs, gs, _, T, ⟨⟨L, tc, N, h1, by omega⟩, rfl, h2.1, by have := h2.2; omega⟩, h4, h5⟩, h6⟩
theorem Asked.below {W' : World} (h : Asked p s vv ev W) (hb : Below W.heap.size W W') : Asked p s vv ev W' := by
  obtain ⟨ys, es, ds, T, h1, h2, h3⟩ := h
  exact ⟨ys, es, ds, T, h1.below hb, nrow_below h2 hb, rrow_below h3 hb⟩
theorem Asked.right (h : Asked p s vv ev W) {rd wr0 : Int} : Calls Tryz.prog 10 #[.iface 23 (.pointer (some ⟨p, 0, none⟩)), .agg #[vv, ev, .int .i64 rd, .int .i64 wr0], .int .i64 s] W fun e w' => e = .returned (.bool true) ∧ Hid (Below W.heap.size W w') := by
  obtain ⟨ys, es, ds, T, h1, h2, h3⟩ := h
  exact rightL h1 h2 h3 h1.el
end
set_option maxHeartbeats 4000000 in
set_option maxRecDepth 100000 in
theorem livePlays_any [Inhabited EntF] (s : Int) (a : Option Addr) (len cap : Nat) (o : Nat → OpV) (w : World) (os : okN s) (h : IsOps w a len o) :
    Calls Tryz.prog 3 #[.int .i64 s, .slice a len cap] w fun e w' => e = .returned (.bool true) ∧ Below w.heap.size w w' := by
  have CB := hide (builtT a len cap o w h os)
  have CW : Hid (∀ W, Calls Tryz.prog 9 #[] W fun e w' => e = .returned (.bool true) ∧ Hid (Below W.heap.size W w')) := fun W => awakeT W
  clear h os
  go_enter Tryz.func3, Tryz.ntmps3
  go_wp2_with fail
  refine (unhide CB).mono ?_
  rintro e w1 ⟨p, va, vn, vc, ea, en, ec, wr, rfl, HB⟩
  have hb2 := below_new w1 (oG (.slice va vn vc) (.slice ea en ec) 0 wr)
  have hn2 := heap_alloc_new w1 (oG (.slice va vn vc) (.slice ea en ec) 0 wr)
  obtain ⟨h1, h2⟩ := (unhide HB).asked
  obtain ⟨gb, hgb⟩ : ∃ gb, gb = w1.heap.size := ⟨_, rfl⟩
  have HG : Hid (gb = w1.heap.size) := hgb
  have HA : Hid (Asked p s (.slice va vn vc) (.slice ea en ec) (w1.alloc (oG (.slice va vn vc) (.slice ea en ec) 0 wr)) ∧ (w1.alloc (oG (.slice va vn vc) (.slice ea en ec) 0 wr)).heap[gb]? = some (oG (.slice va vn vc) (.slice ea en ec) 0 wr) ∧ Below w.heap.size w (w1.alloc (oG (.slice va vn vc) (.slice ea en ec) 0 wr))) := ⟨h1.below hb2, by rw [hgb]; exact hn2, h2.trans (hb2.mono h2.size)⟩
  clear CB HB hb2 hn2 h1 h2 hgb
  go_upto_region 2 with fail
  change Code.wp _ _ _ _ (w1.alloc (oG (.slice va vn vc) (.slice ea en ec) 0 wr))
  rw [← unhide HG]
  clear HG
  generalize w1.alloc (oG (.slice va vn vc) (.slice ea en ec) 0 wr) = w2 at *
  go_wp2_with fail
  refine (unhide CW w2).mono ?_
  rintro e w3 ⟨rfl, hb3⟩
  have HA3 : Hid (Asked p s (.slice va vn vc) (.slice ea en ec) w3 ∧ Below w.heap.size w w3) := ⟨(unhide HA).1.below (unhide hb3), (unhide HA).2.2.trans ((unhide hb3).mono (unhide HA).2.2.size)⟩
  obtain ⟨c0, c1, c2, c3, cf⟩ := cellsG (((unhide hb3).block gb (heap_lt (unhide HA).2.1)).trans (unhide HA).2.1)
  have CR := hide ((unhide HA3).1.right (rd := 0) (wr0 := wr))
  clear CW HA hb3
  go_wp2_with fail
  refine (unhide CR).mono ?_
  rintro e w4 ⟨rfl, hb4⟩
  have HE : Hid (Below w.heap.size w w4) := (unhide HA3).2.trans ((unhide hb4).mono (unhide HA3).2.size)
  clear CR HA3 hb4 c0 c1 c2 c3 cf
  go_wp2_with fail
  go_ret
  exact ⟨rfl, unhide HE⟩
end

section
open Go.RowKit Go.Maps
theorem srt_eq : ∀ {a b : List Int}, a.Perm b → a.Pairwise (· ≤ ·) → b.Pairwise (· ≤ ·) → a = b
  | [], b, hp, _, _ => by rw [hp.symm.eq_nil]
  | x :: a, [], hp, _, _ => by have := hp.length_eq; simp at this
  | x :: a, y :: b, hp, ha, hb => by
    obtain ⟨a1, a2⟩ := List.pairwise_cons.1 ha
    obtain ⟨b1, b2⟩ := List.pairwise_cons.1 hb
    have hx : x ∈ y :: b := hp.mem_iff.1 (by simp)
    have hy : y ∈ x :: a := hp.mem_iff.2 (by simp)
    have e : x = y := by
      rcases List.mem_cons.1 hx with q | q
      · exact q
      · rcases List.mem_cons.1 hy with q2 | q2
        · exact q2.symm
        · have := a1 y q2; have := b1 x q; omega
    subst e
    rw [srt_eq (hp.cons_inv) a2 b2]
theorem Dj.all {n : Nat} {W : Nat → List WyV} {st : Nat} {ys : List Int} {ds : List DiV} {fs : List Int} {ord : List Nat} (h : Dj n W st ys ds fs ord [] n 0) {q : Nat} (hq : farAt ds q = false) : q ∈ ord := by
  rcases h.cov q (by rw [← h.dl]; exact far_lt hq) hq with z | ⟨x, hx, -⟩
  · exact z
  · cases hx
theorem drow_new (w : World) : DRow w.heap.size (w.alloc (.cells #[] 48)) (.slice (some ⟨w.heap.size, 0, none⟩) 0 0) [] := by
  refine ⟨rfl, .inr ⟨w.heap.size, 0, #[], rfl, Nat.le_refl _, heap_alloc_new _ _, Nat.le_refl _, by unfold maxLen; omega, rfl, rfl⟩⟩
def DistsAns (w : World) (ds : List DiV) (v : Value) (w' : World) : Prop := DRow w.heap.size w' v ds ∧ Below w.heap.size w w'
set_option maxHeartbeats 1000000 in
set_option maxRecDepth 100000 in
theorem cloneD {B g n c : Nat} {w : World} {ds : List DiV} (h : DRow B w (.slice (some ⟨g, 0, none⟩) n c) ds) (hl : ds.length ≤ 1000) :
    Calls Tryz.prog 44 #[.slice (some ⟨g, 0, none⟩) n c] w fun e w' => ∃ a n c, e = .returned (.slice a n c) ∧ Hid (DistsAns w ds (.slice a n c) w') := by
  have hb := below_new w (.cells #[] 48)
  have hn := rrow_len h
  have h1 := rrow_below h hb
  obtain ⟨a', n', c', w', r, g1, g2, -⟩ := run_appR (ts := 43) (ad := ⟨g, 0, none⟩) (c := c) (ys := ds) kitD Tryz.underlying43 infoD rfl (by omega) (drow_new w) hb.size (fun j u hj => h1.cells (g := g) rfl j u hj) (by simp; omega)
  rw [← hn, List.nil_append] at *
  have HR := hide r
  have HE : Hid (DistsAns w ds (.slice a' n' c') w') := ⟨g1, hb.trans (g2.below hb.size (fun b e => by have e2 : w.heap.size = b := Option.some.inj e; omega))⟩
  have qD : ∀ (w : World) (a : Option Addr) (n c n' c' : Nat), (binOp .eql 43 (.slice a n c) (.slice none n' c')).run Tryz.prog w = .ok (.bool a.isNone) w := fun w a n c n' c' => Lib.run_eql_slice_nil w _ _ a n c n' c' Tryz.underlying43
  clear h hl hb h1 hn r g1 g2
  go_enter Tryz.func44, Tryz.ntmps44
  go_wp2_with (at_builtin; refine Lib.wpList_append_run _ rfl _ _ 43 43 rfl _ _ rfl rfl _ _ (unhide HR _) ?_)
  go_ret
  exact ⟨_, _, _, rfl, HE⟩
set_option maxHeartbeats 1000000 in
theorem distsT {B : Nat} {W : World} {p : Nat} {s : Int} {ys : List Int} {es : List EdV} {ds : List DiV} {fs : List Int} (h : TreeAt B W p s ys es ds fs) :
    Calls Tryz.prog 15 #[.pointer (some ⟨p, 0, none⟩)] W fun e w' => ∃ a n c, e = .returned (.slice a n c) ∧ Hid (DistsAns W ds (.slice a n c) w') := by
  obtain ⟨gd, c, gf, c', hT⟩ := h.shape
  obtain ⟨-, k1, -, -⟩ := cellsT hT.box
  have C1 := hide (cloneD hT.ds_ (by rw [h.dl]; exact h.gk.len))
  generalize ys.length = n at *
  clear hT h
  go_enter Tryz.func15, Tryz.ntmps15
  go_wp2_with fail
  refine (unhide C1).mono ?_
  rintro e w1 ⟨a1, n1, c1, rfl, H1⟩
  clear C1
  go_wp2_with fail
  go_ret
  exact ⟨_, _, _, rfl, H1⟩
section
variable {B : Nat} {W : World} {p : Nat} {s : Int} {ys : List Int} {es : List EdV} {ds : List DiV} {fs : List Int}
/-- What the built tree says is least. -/
theorem TreeAt.lstL (h : TreeAt B W p s ys es ds fs) (hl : es.length ≤ 1000) (hw : ∀ x ∈ es, wtN x = x.2.2.2.toNat ∧ 0 ≤ x.2.2.2 ∧ x.2.2.2 < 2139095040) : Lst ys es s (farAt ds) (bitsAt ds) := by
  obtain ⟨ord, hd⟩ := h.dj
  refine ⟨h.good.src, h.gk.rise, h.gk.len, by omega, fun y hy => ?_, ⟨hd.src.2.1, hd.src.2.2.1⟩, hd.le_, fun y hy hf => ?_, fun us h0 hc => ?_⟩
  · obtain ⟨e1, e2⟩ := h.good.ends y hy
    exact ⟨e1, e2, (hw y hy).2⟩
  · obtain ⟨e1, e2⟩ := h.good.ends y hy
    have hm : wayOf ys y ∈ wyF ys es (plc ys y.2.1) := mem_wyF.2 ⟨plc_lt e1, y, hy, rfl, rfl⟩
    obtain ⟨j, hj⟩ := List.mem_iff_getElem?.1 hm
    have := hd.han _ (hd.all hf) j _ hj (fun e => by have := plc_lt e1; have e' : plc ys y.2.1 = ys.length := e; omega)
    rw [← (hw y hy).1]
    exact this
  · have key : ∀ (k q : Nat), ord.idxOf q = k → farAt ds q = false → uA us q ≤ bitsAt ds q := by
      intro k
      induction k using Nat.strongRecOn with
      | _ k ih =>
        intro q hk hf
        by_cases e : q = plc ys s
        · rw [e, h0]; exact Nat.zero_le _
        · have hq := hd.all hf
          obtain ⟨p2, hp, y, hy, y1, y2, y3, -, y5⟩ := hd.hang q (hd.oin q hq).1 hf e
          obtain ⟨-, x, m1, m2, m3⟩ := mem_wyF.1 hy
          have hi := ih (ord.idxOf p2) (by have := y5 hq; omega) p2 rfl (hd.oin p2 hp).2.1
          have hle := hd.le_ p2
          have h2 := hc x m1 (by rw [m2]; omega)
          rw [← (hw x m1).1] at h2
          have h2' : uA us (plc ys x.2.2.1) ≤ M.addC (uA us (plc ys x.2.1)) (wtN x) := h2
          have hqx : plc ys x.2.2.1 = q := by rw [← y1, ← m3]; rfl
          rw [hqx, m2] at h2'
          refine Nat.le_trans h2' ?_
          rw [y3, ← m3]
          exact M.addC_mono (by omega) hle (by have := wtN_le x; show wtN x ≤ _; omega) hi
    exact fun q hq hf => key _ q rfl hf
end
/-- Two that are least are one. -/
theorem lst_le {ys : List Int} {gs : List EdV} {s : Int} {f1 f2 : Nat → Bool} {b1 b2 : Nat → Nat} (h1 : Lst ys gs s f1 b1) (h2 : Lst ys gs s f2 b2) {q : Nat} (hq : q < ys.length) (hf : f1 q = false) : f2 q = false ∧ b2 q ≤ b1 q := by
  have hu : ∀ j, j < ys.length → uA (refD ys.length f2 b2) j = if f2 j = true then 4294967295 else b2 j := fun j hj => by
    refine uA_at ?_
    unfold refD
    rw [List.getElem?_map, List.getElem?_range hj]; rfl
  have hs := plc_lt h1.src
  have h3 := h1.up (refD ys.length f2 b2) (by rw [hu _ hs, h2.st.1, h2.st.2]; rfl) (fun y hy hn => by
    obtain ⟨o1, o2, -⟩ := h1.ok y hy
    rw [hu _ (plc_lt o1)] at hn ⊢
    rw [hu _ (plc_lt o2)]
    cases e : f2 (plc ys y.2.1) with
    | true => rw [e, if_pos rfl] at hn; exact absurd rfl hn
    | false =>
      obtain ⟨a1, a2⟩ := h2.han y hy e
      rw [a1]; exact a2) q hq hf
  rw [hu q hq] at h3
  have h4 := h1.le_ q
  cases e : f2 q with
  | true => rw [e, if_pos rfl] at h3; omega
  | false => rw [e] at h3; exact ⟨rfl, h3⟩
/-- The same is told of all. -/
def SameT (a b : List DiV) : Prop := a.length = b.length ∧ ∀ (i : Nat) (v : Int) (f : Bool) (c : Nat) (e : Int), a[i]? = some (v, f, c, e) → ∃ e', b[i]? = some (v, f, c, e')
theorem sameT_of {ys : List Int} {gs : List EdV} {s : Int} {a b : List DiV} (ha : a.map (·.1) = ys) (hb : b.map (·.1) = ys) (h1 : Lst ys gs s (farAt a) (bitsAt a)) (h2 : Lst ys gs s (farAt b) (bitsAt b)) (za : ∀ q, farAt a q = true → bitsAt a q = 0) (zb : ∀ q, farAt b q = true → bitsAt b q = 0) : SameT a b := by
  have la : a.length = ys.length := by rw [← ha, List.length_map]
  have lb : b.length = ys.length := by rw [← hb, List.length_map]
  refine ⟨by omega, fun i v f c e hi => ?_⟩
  have hl := (List.getElem?_eq_some_iff.1 hi).1
  obtain ⟨⟨v', f', c', e'⟩, hj⟩ : ∃ x, b[i]? = some x := ⟨_, List.getElem?_eq_getElem (by omega)⟩
  have ev : v' = v := by
    have e1 : ys[i]? = some v := by rw [← ha, List.getElem?_map, hi]; rfl
    have e2 : ys[i]? = some v' := by rw [← hb, List.getElem?_map, hj]; rfl
    rw [e1] at e2; exact (Option.some.inj e2).symm
  have fa : farAt a i = f := by unfold farAt; rw [List.getD_eq_getElem?_getD, hi]; rfl
  have fb : farAt b i = f' := by unfold farAt; rw [List.getD_eq_getElem?_getD, hj]; rfl
  have ca : bitsAt a i = c := by unfold bitsAt; rw [List.getD_eq_getElem?_getD, hi]; rfl
  have cb : bitsAt b i = c' := by unfold bitsAt; rw [List.getD_eq_getElem?_getD, hj]; rfl
  have key : f' = f ∧ c' = c := by
    cases f with
    | false =>
      obtain ⟨x1, x2⟩ := lst_le h1 h2 (q := i) (by omega) fa
      obtain ⟨-, y2⟩ := lst_le h2 h1 (q := i) (by omega) x1
      rw [fb] at x1
      exact ⟨x1, by omega⟩
    | true =>
      cases f' with
      | false =>
        obtain ⟨x1, -⟩ := lst_le h2 h1 (q := i) (by omega) fb
        rw [fa] at x1; cases x1
      | true =>
        have := za i fa
        have := zb i fb
        exact ⟨rfl, by omega⟩
  obtain ⟨rfl, rfl⟩ := key
  subst ev
  exact ⟨e', hj⟩
theorem sameT_near {a b : List DiV} (h : SameT a b) : nearV a = nearV b := by
  have e : a.map (fun d => (d.1, d.2.1)) = b.map (fun d => (d.1, d.2.1)) := by
    apply List.ext_getElem?
    intro i
    rw [List.getElem?_map, List.getElem?_map]
    cases hi : a[i]? with
    | none =>
      have := List.getElem?_eq_none_iff.1 hi
      rw [List.getElem?_eq_none (by have := h.1; omega)]
    | some x =>
      obtain ⟨v, f, c, e⟩ := x
      obtain ⟨e', he⟩ := h.2 i v f c e hi
      rw [he]; rfl
  have k : ∀ l : List DiV, nearV l = ((l.map (fun d => (d.1, d.2.1))).filter (fun d => !d.2)).map (·.1) := fun l => by
    unfold nearV
    rw [List.filter_map, List.map_map]
    rfl
  rw [k a, k b, e]
theorem TLv.farz {W : World} {p : Nat} {s : Int} {ys : List Int} {es : List EdV} {ds : List DiV} {T : L14.Tr} (h : TLv W p s ys es ds T) (q : Nat) (hf : farAt ds q = true) : bitsAt ds q = 0 := by
  rcases Nat.lt_or_ge q ys.length with z | z
  · obtain ⟨a1, a2, -⟩ := h.far (List.getElem?_eq_getElem z)
    obtain ⟨L, tc, N, ⟨mv, me, V, nv, E, ne, O, I, h1, hG, hs, hR, hE, -⟩, h2⟩ := h.ex
    rw [a1] at hf
    rw [a2]
    exact (hR.non _ (by simpa using hf)).1
  · rw [h.eq]; exact dsL_none z
theorem TLv.good {W : World} {p : Nat} {s : Int} {ys : List Int} {es : List EdV} {ds : List DiV} {T : L14.Tr} (h : TLv W p s ys es ds T) : Good ys es s ∧ ∀ x ∈ es, wtN x = x.2.2.2.toNat ∧ 0 ≤ x.2.2.2 ∧ x.2.2.2 < 2139095040 := by
  obtain ⟨L, tc, N, hK, -⟩ := h.ex
  have hk : ∀ x ∈ es, kept x.2.2.2 = some x.2.2.2 := fun x hx => by
    have := hK.lo x hx
    unfold kept
    rw [if_neg (by omega), if_neg (by omega)]
  refine ⟨⟨hK.nd, hK.un, fun x hx => (hK.lo x hx).1, hK.src, fun x hx => (hK.ends x hx).2, fun x hx => by rw [hk x hx]; rfl⟩, fun x hx => ⟨?_, (hK.lo x hx).2⟩⟩
  unfold wtN
  rw [hk x hx]; rfl
end

section
open Go.RowKit Go.Maps
theorem buildL [Inhabited EntF] {w : World} {p : Nat} {s : Int} {ys : List Int} {es : List EdV} {ds : List DiV} {T : L14.Tr} {vv ev : Value} (h : TLv w p s ys es ds T) (hv : NRow w vv ys) (he : ERow 0 w ev es) :
    Calls Tryz.prog 13 #[vv, ev, .int .i64 s] w fun e w' => ∃ p', e = .returned (.tuple #[.pointer (some ⟨p', 0, none⟩), .int .i64 0]) ∧ Hid (∃ ds' fs, Below w.heap.size w w' ∧ TreeAt w.heap.size w' p' s ys es ds' fs ∧ SameT ds ds') := by
  refine (buildS hv he h.len h.el).mono ?_
  rintro e w' ⟨po, er, rfl, H⟩
  obtain ⟨ys', h1, h2, h3, h4, h5⟩ := unhide H
  obtain ⟨hg, hw⟩ := h.good
  have e1 : ys' = ys := srt_eq h1 h2 (h.rise.imp (fun q => by omega))
  subst e1
  rw [fault_zero.2 hg] at h4
  subst h4
  rcases h5 with ⟨q, -⟩ | ⟨-, p', ds', fs, rfl, ht⟩
  · exact absurd rfl q
  · obtain ⟨ord, hd⟩ := ht.dj
    exact ⟨p', rfl, ds', fs, h3, ht, sameT_of h.vs hd.vs h.lst (ht.lstL h.el hw) h.farz (fun q hq => (hd.farz q hq).1)⟩
set_option maxHeartbeats 16000000 in
set_option maxRecDepth 100000 in
theorem liveBuilt_any [Inhabited EntF] (s : Int) (a : Option Addr) (len cap : Nat) (o : Nat → OpV) (w : World) (os : okN s) (h : IsOps w a len o) :
    Calls Tryz.prog 5 #[.int .i64 s, .slice a len cap] w fun e w' => e = .returned (.bool true) ∧ Below w.heap.size w w' := by
  have CB := hide (builtT a len cap o w h os)
  have CW : Hid (∀ W, Calls Tryz.prog 9 #[] W fun e w' => e = .returned (.bool true) ∧ Hid (Below W.heap.size W w')) := fun W => awakeT W
  clear h os
  go_enter Tryz.func5, Tryz.ntmps5
  go_wp2_with fail
  refine (unhide CB).mono ?_
  rintro e w1 ⟨p, va, vn, vc, ea, en, ec, wrr, rfl, HB⟩
  have hb2 := below_new w1 (oG (.slice va vn vc) (.slice ea en ec) 0 wrr)
  have hn2 := heap_alloc_new w1 (oG (.slice va vn vc) (.slice ea en ec) 0 wrr)
  obtain ⟨h1, h2⟩ := (unhide HB).asked
  obtain ⟨gb, hgb⟩ : ∃ gb, gb = w1.heap.size := ⟨_, rfl⟩
  have HG : Hid (gb = w1.heap.size) := hgb
  have HA : Hid (Asked p s (.slice va vn vc) (.slice ea en ec) (w1.alloc (oG (.slice va vn vc) (.slice ea en ec) 0 wrr)) ∧ (w1.alloc (oG (.slice va vn vc) (.slice ea en ec) 0 wrr)).heap[gb]? = some (oG (.slice va vn vc) (.slice ea en ec) 0 wrr) ∧ Below w.heap.size w (w1.alloc (oG (.slice va vn vc) (.slice ea en ec) 0 wrr))) := ⟨h1.below hb2, by rw [hgb]; exact hn2, h2.trans (hb2.mono h2.size)⟩
  clear CB HB hb2 hn2 h1 h2 hgb
  go_upto_region 2 with fail
  change Code.wp _ _ _ _ (w1.alloc (oG (.slice va vn vc) (.slice ea en ec) 0 wrr))
  rw [← unhide HG]
  clear HG
  generalize w1.alloc (oG (.slice va vn vc) (.slice ea en ec) 0 wrr) = w2 at *
  go_wp2_with fail
  refine (unhide CW w2).mono ?_
  rintro e w3 ⟨rfl, hb3⟩
  obtain ⟨ys, es, ds, T, hT0, hv0, he0⟩ := (unhide HA).1
  have HT : Hid (∀ W, Below w3.heap.size w3 W → TLv W p s ys es ds T ∧ Below w.heap.size w W) := fun W hW => by
    have hb := (unhide hb3).trans (hW.mono (unhide hb3).size)
    exact ⟨hT0.below hb, (unhide HA).2.2.trans (hb.mono (unhide HA).2.2.size)⟩
  obtain ⟨c0, c1, c2, c3, cf⟩ := cellsG (((unhide hb3).block gb (heap_lt (unhide HA).2.1)).trans (unhide HA).2.1)
  have CQ := hide (buildL (hT0.below (unhide hb3)) (nrow_below hv0 (unhide hb3)) (rrow_below he0 (unhide hb3)))
  have HN : Hid (ds.length ≤ 1000 ∧ (nearV ds).length ≤ 1000) := by
    have hd : ds.length ≤ 1000 := by rw [hT0.dl]; exact hT0.len
    refine ⟨hd, ?_⟩
    unfold nearV; rw [List.length_map]; have := List.length_filter_le (fun d : DiV => !d.2.1) ds; omega
  clear CW HA hb3 hT0 hv0 he0
  go_wp2_with fail
  refine (unhide CQ).mono ?_
  rintro e w4 ⟨p', rfl, H4⟩
  obtain ⟨ds', fs, hb4, ht4, hsm⟩ := unhide H4
  have HS := hide hsm
  have HT2 : Hid (∀ W, Below w4.heap.size w4 W → TLv W p s ys es ds T ∧ TreeAt w3.heap.size W p' s ys es ds' fs ∧ Below w.heap.size w W) := fun W hW => by
    have hb := hb4.trans (hW.mono hb4.size)
    exact ⟨(unhide HT W hb).1, ht4.below hW, (unhide HT W hb).2⟩
  have D1 := hide (distsL (unhide HT2 w4 (Below.refl _ _)).1)
  clear CQ H4 hb4 ht4 hsm HT c0 c1 c2 c3 cf
  go_wp2_with fail
  refine (unhide D1).mono ?_
  rintro e w5 ⟨la, ln, lc, rfl, H5⟩
  have D2 := hide (distsT (unhide HT2 w5 (unhide H5).2).2.1)
  clear D1
  go_wp2_with fail
  refine (unhide D2).mono ?_
  rintro e w6 ⟨ma, mn, mc, rfl, H6⟩
  have HB6 : Hid (Below w4.heap.size w4 w6) := (unhide H5).2.trans ((unhide H6).2.mono (unhide H5).2.size)
  have HR : Hid (∀ W, Below w6.heap.size w6 W → DRow 0 W (.slice la ln lc) ds ∧ DRow 0 W (.slice ma mn mc) ds' ∧ Below w4.heap.size w4 W) := fun W hW => ⟨rrow_below (rrow_below (rrow_low (unhide H5).1 (Nat.zero_le _)) (unhide H6).2) hW, rrow_below (rrow_low (unhide H6).1 (Nat.zero_le _)) hW, (unhide HB6).trans (hW.mono (unhide HB6).size)⟩
  obtain rfl : mn = ln := by
    obtain ⟨r1, r2, -⟩ := unhide HR w6 (Below.refl _ _)
    rw [rrow_len r1, rrow_len r2, (unhide HS).1]
  have D3 := hide (reachedLL (unhide HT2 w6 (unhide HB6)).1)
  clear D2 H5 H6
  go_wp2_with fail
  refine (unhide D3).mono ?_
  rintro e w7 ⟨ra, rn, rc, rfl, H7⟩
  have HB7 : Hid (Below w4.heap.size w4 w7) := (unhide HB6).trans ((unhide H7).2.mono (unhide HB6).size)
  have D4 := hide (reachedLT (unhide HT2 w7 (unhide HB7)).2.1)
  clear D3
  go_wp2_with fail
  refine (unhide D4).mono ?_
  rintro e w8 ⟨ta, tn, tc, rfl, H8⟩
  have HB8 : Hid (Below w6.heap.size w6 w8) := (unhide H7).2.trans ((unhide H8).2.mono (unhide H7).2.size)
  have D5 : Hid (Calls Tryz.prog 16 #[.slice ra rn rc, .slice ta tn tc] w8 fun e w' => e = .returned (.bool true) ∧ ∃ q, w' = w8.drewN q) := by
    have h7 := (unhide H7).1
    have h8 := (unhide H8).1
    rw [← sameT_near (unhide HS)] at h8
    have := sameInts9 (brow_at0 (brow_kept h7 (fun b e => (unhide H8).2.block b (h7.lt b e).2))) (brow_at0 h8) (by have := (unhide HN).2; omega)
    rw [decide_eq_true rfl] at this
    exact this
  clear D4 H7 H8 HB6 HB7
  go_wp2_with fail
  refine (unhide D5).mono ?_
  rintro e w9 ⟨rfl, q9, hw9⟩
  have HB9 : Hid (Below w6.heap.size w6 w9) := by
    show Below w6.heap.size w6 w9
    rw [hw9]; exact below_drewN (unhide HB8) q9
  clear D5 hw9 HB8
  go_wp2_with fail
  go_loopw [60] (fun s60 wr => ∃ i : Nat, s60 = .int .i64 i ∧ Hid (i ≤ mn ∧ Below w6.heap.size w6 wr)) (fun s60 _ => mn - (intOf s60).toNat)
  case atStart => exact ⟨0, rfl, Nat.zero_le _, unhide HB9⟩
  case round =>
    obtain ⟨i, rfl, HI⟩ := hrel
    obtain ⟨i1, i2⟩ := unhide HI
    obtain ⟨r1, r2, r3⟩ := unhide HR wr i2
    have l1 := rrow_len r1
    have l2 := (unhide HN).1
    have l3 := (unhide HS).1
    by_cases hlt : i < mn
    · obtain ⟨⟨v, f, b, e⟩, hx⟩ : ∃ x, ds[i]? = some x := ⟨_, List.getElem?_eq_getElem (by omega)⟩
      obtain ⟨e', hy⟩ := (unhide HS).2 i v f b e hx
      obtain ⟨g1, rfl⟩ := rrow_some r1 (by omega)
      obtain ⟨g2, rfl⟩ := rrow_some r2 (by omega)
      obtain ⟨k0, k1, k2, -⟩ := drow_at r1 hx
      obtain ⟨m0, m1, m2, -⟩ := drow_at r2 hy
      (try dsimp only at k0 k1 k2 m0 m1 m2)
      obtain ⟨j, hj⟩ : ∃ j, j = i + 1 := ⟨_, rfl⟩
      have z1 : (i : Int) < (mn : Int) := by omega
      have zw : Hid (wrap64 ((i : Int) + 1) = (j : Int)) := by show wrap64 ((i : Int) + 1) = (j : Int); unfold wrap64; omega
      have HJ : Hid (j = i + 1 ∧ mn - j < mn - i ∧ j ≤ mn ∧ Below w6.heap.size w6 wr) := ⟨hj, by omega, by omega, i2⟩
      clear HI i1 i2 r1 r2 r3 l1 l2 l3 hlt hx hy hj HB9
      go_upto_region 13 with fail
      go_quiet (fail)
      go_wp2_with fail
      (try rw [unhide zw])
      exact ⟨⟨j, by first | rfl | (rw [(unhide HJ).1]; rfl), (unhide HJ).2.2.1, below_drewN (unhide HJ).2.2.2 _⟩, by have := unhide HJ; simp [intOf]; omega⟩
    · have z1 : ¬ (i : Int) < (mn : Int) := by omega
      have HE : Hid (Below w.heap.size w wr) := (unhide HT2 wr r3).2.2
      clear HI i1 i2 r1 r2 r3 l1 l2 l3 hlt HT2 HR HB9
      go_wp2_with fail
      go_ret
      exact ⟨rfl, unhide HE⟩
end

end Go.Proofs.YtbmcibofecigeaaGreat
