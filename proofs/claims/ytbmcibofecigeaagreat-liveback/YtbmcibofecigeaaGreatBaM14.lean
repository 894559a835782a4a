/- LiveBack's memory: a tree beside blocks that are kept. -/
import Derived.Test.YtbmcibofecigeaaGreatBuW14
import Derived.Test.YtbmcibofecigeaaGreatRW14
namespace Go.Proofs.YtbmcibofecigeaaGreat

section
open Go.RowKit Go.Maps
section
variable {w W : World} {p : Nat} {s : Int} {vv ev : Value} {wr : Int}
/-- A tree and its graph, for the law's questions. -/
def Asked (p : Nat) (s : Int) (vv ev : Value) (W : World) : Prop := ∃ ys es ds T, TLv W p s ys es ds T ∧ NRow W vv ys ∧ ERow 0 W ev es
theorem BuiltA.asked (h : BuiltA w p s vv ev wr W) : Asked p s vv ev W ∧ Below w.heap.size w W := by
  obtain ⟨L, tc, vs, gs, T, N, h1, h2, h3, h4, h5, -, -, -, h6, -⟩ := h
  exact ⟨⟨vs, gs, _, T, ⟨⟨L, tc, N, h1, by omega⟩, rfl, h2.1, by have := h2.2; omega⟩, h4, h5⟩, h6⟩
theorem Asked.below {W' : World} (h : Asked p s vv ev W) (hb : Below W.heap.size W W') : Asked p s vv ev W' := by
  obtain ⟨ys, es, ds, T, h1, h2, h3⟩ := h
  exact ⟨ys, es, ds, T, h1.below hb, nrow_below h2 hb, rrow_below h3 hb⟩
theorem Asked.right (h : Asked p s vv ev W) {rd wr0 : Int} : Calls Tryz.prog 10 #[.iface 23 (.pointer (some ⟨p, 0, none⟩)), .agg #[vv, ev, .int .i64 rd, .int .i64 wr0], .int .i64 s] W fun e w' => e = .returned (.bool true) ∧ Hid (Below W.heap.size W w') := by
  obtain ⟨ys, es, ds, T, h1, h2, h3⟩ := h
  exact rightL h1 h2 h3 h1.el
end
set_option maxHeartbeats 4000000 in
set_option maxRecDepth 100000 in
theorem livePlays_any [Inhabited EntF] (s : Int) (a : Option Addr) (len cap : Nat) (o : Nat → OpV) (w : World) (os : okN s) (h : IsOps w a len o) :
    Calls Tryz.prog 3 #[.int .i64 s, .slice a len cap] w fun e w' => e = .returned (.bool true) ∧ Below w.heap.size w w' := by
  have CB := hide (builtT a len cap o w h os)
  have CW : Hid (∀ W, Calls Tryz.prog 9 #[] W fun e w' => e = .returned (.bool true) ∧ Hid (Below W.heap.size W w')) := fun W => awakeT W
  clear h os
  go_enter Tryz.func3, Tryz.ntmps3
  go_wp2_with fail
  refine (unhide CB).mono ?_
  rintro e w1 ⟨p, va, vn, vc, ea, en, ec, wr, rfl, HB⟩
  have hb2 := below_new w1 (oG (.slice va vn vc) (.slice ea en ec) 0 wr)
  have hn2 := heap_alloc_new w1 (oG (.slice va vn vc) (.slice ea en ec) 0 wr)
  obtain ⟨h1, h2⟩ := (unhide HB).asked
  obtain ⟨gb, hgb⟩ : ∃ gb, gb = w1.heap.size := ⟨_, rfl⟩
  have HG : Hid (gb = w1.heap.size) := hgb
  have HA : Hid (Asked p s (.slice va vn vc) (.slice ea en ec) (w1.alloc (oG (.slice va vn vc) (.slice ea en ec) 0 wr)) ∧ (w1.alloc (oG (.slice va vn vc) (.slice ea en ec) 0 wr)).heap[gb]? = some (oG (.slice va vn vc) (.slice ea en ec) 0 wr) ∧ Below w.heap.size w (w1.alloc (oG (.slice va vn vc) (.slice ea en ec) 0 wr))) := ⟨h1.below hb2, by rw [hgb]; exact hn2, h2.trans (hb2.mono h2.size)⟩
  clear CB HB hb2 hn2 h1 h2 hgb
  go_upto_region 2 with fail
  change Code.wp _ _ _ _ (w1.alloc (oG (.slice va vn vc) (.slice ea en ec) 0 wr))
  rw [← unhide HG]
  clear HG
  generalize w1.alloc (oG (.slice va vn vc) (.slice ea en ec) 0 wr) = w2 at *
  go_wp2_with fail
  refine (unhide CW w2).mono ?_
  rintro e w3 ⟨rfl, hb3⟩
  have HA3 : Hid (Asked p s (.slice va vn vc) (.slice ea en ec) w3 ∧ Below w.heap.size w w3) := ⟨(unhide HA).1.below (unhide hb3), (unhide HA).2.2.trans ((unhide hb3).mono (unhide HA).2.2.size)⟩
  obtain ⟨c0, c1, c2, c3, cf⟩ := cellsG (((unhide hb3).block gb (heap_lt (unhide HA).2.1)).trans (unhide HA).2.1)
  have CR := hide ((unhide HA3).1.right (rd := 0) (wr0 := wr))
  clear CW HA hb3
  go_wp2_with fail
  refine (unhide CR).mono ?_
  rintro e w4 ⟨rfl, hb4⟩
  have HE : Hid (Below w.heap.size w w4) := (unhide HA3).2.trans ((unhide hb4).mono (unhide HA3).2.size)
  clear CR HA3 hb4 c0 c1 c2 c3 cf
  go_wp2_with fail
  go_ret
  exact ⟨rfl, unhide HE⟩
end

section
open Go.RowKit Go.Maps
theorem srt_eq : ∀ {a b : List Int}, a.Perm b → a.Pairwise (· ≤ ·) → b.Pairwise (· ≤ ·) → a = b
  | [], b, hp, _, _ => by rw [hp.symm.eq_nil]
  | x :: a, [], hp, _, _ => by have := hp.length_eq; simp at this
  | x :: a, y :: b, hp, ha, hb => by
    obtain ⟨a1, a2⟩ := List.pairwise_cons.1 ha
    obtain ⟨b1, b2⟩ := List.pairwise_cons.1 hb
    have hx : x ∈ y :: b := hp.mem_iff.1 (by simp)
    have hy : y ∈ x :: a := hp.mem_iff.2 (by simp)
    have e : x = y := by
      rcases List.mem_cons.1 hx with q | q
      · exact q
      · rcases List.mem_cons.1 hy with q2 | q2
        · exact q2.symm
        · have := a1 y q2; have := b1 x q; omega
    subst e
    rw [srt_eq (hp.cons_inv) a2 b2]
theorem Dj.all {n : Nat} {W : Nat → List WyV} {st : Nat} {ys : List Int} {ds : List DiV} {fs : List Int} {ord : List Nat} (h : Dj n W st ys ds fs ord [] n 0) {q : Nat} (hq : farAt ds q = false) : q ∈ ord := by
  rcases h.cov q (by rw [← h.dl]; exact far_lt hq) hq with z | ⟨x, hx, -⟩
  · exact z
  · cases hx
theorem drow_new (w : World) : DRow w.heap.size (w.alloc (.cells #[] 48)) (.slice (some ⟨w.heap.size, 0, none⟩) 0 0) [] := by
  refine ⟨rfl, .inr ⟨w.heap.size, 0, #[], rfl, Nat.le_refl _, heap_alloc_new _ _, Nat.le_refl _, by unfold maxLen; omega, rfl, rfl⟩⟩
def DistsAns (w : World) (ds : List DiV) (v : Value) (w' : World) : Prop := DRow w.heap.size w' v ds ∧ Below w.heap.size w w'
set_option maxHeartbeats 1000000 in
set_option maxRecDepth 100000 in
theorem cloneD {B g n c : Nat} {w : World} {ds : List DiV} (h : DRow B w (.slice (some ⟨g, 0, none⟩) n c) ds) (hl : ds.length ≤ 1000) :
    Calls Tryz.prog 44 #[.slice (some ⟨g, 0, none⟩) n c] w fun e w' => ∃ a n c, e = .returned (.slice a n c) ∧ Hid (DistsAns w ds (.slice a n c) w') := by
  have hb := below_new w (.cells #[] 48)
  have hn := rrow_len h
  have h1 := rrow_below h hb
  obtain ⟨a', n', c', w', r, g1, g2, -⟩ := run_appR (ts := 43) (ad := ⟨g, 0, none⟩) (c := c) (ys := ds) kitD Tryz.underlying43 infoD rfl (by omega) (drow_new w) hb.size (fun j u hj => h1.cells (g := g) rfl j u hj) (by simp; omega)
  rw [← hn, List.nil_append] at *
  have HR := hide r
  have HE : Hid (DistsAns w ds (.slice a' n' c') w') := ⟨g1, hb.trans (g2.below hb.size (fun b e => by have e2 : w.heap.size = b := Option.some.inj e; omega))⟩
  have qD : ∀ (w : World) (a : Option Addr) (n c n' c' : Nat), (binOp .eql 43 (.slice a n c) (.slice none n' c')).run Tryz.prog w = .ok (.bool a.isNone) w := fun w a n c n' c' => Lib.run_eql_slice_nil w _ _ a n c n' c' Tryz.underlying43
  clear h hl hb h1 hn r g1 g2
  go_enter Tryz.func44, Tryz.ntmps44
  go_wp2_with (at_builtin; refine Lib.wpList_append_run _ rfl _ _ 43 43 rfl _ _ rfl rfl _ _ (unhide HR _) ?_)
  go_ret
  exact ⟨_, _, _, rfl, HE⟩
set_option maxHeartbeats 1000000 in
theorem distsT {B : Nat} {W : World} {p : Nat} {s : Int} {ys : List Int} {es : List EdV} {ds : List DiV} {fs : List Int} (h : TreeAt B W p s ys es ds fs) :
    Calls Tryz.prog 15 #[.pointer (some ⟨p, 0, none⟩)] W fun e w' => ∃ a n c, e = .returned (.slice a n c) ∧ Hid (DistsAns W ds (.slice a n c) w') := by
  obtain ⟨gd, c, gf, c', hT⟩ := h.shape
  obtain ⟨-, k1, -, -⟩ := cellsT hT.box
  have C1 := hide (cloneD hT.ds_ (by rw [h.dl]; exact h.gk.len))
  generalize ys.length = n at *
  clear hT h
  go_enter Tryz.func15, Tryz.ntmps15
  go_wp2_with fail
  refine (unhide C1).mono ?_
  rintro e w1 ⟨a1, n1, c1, rfl, H1⟩
  clear C1
  go_wp2_with fail
  go_ret
  exact ⟨_, _, _, rfl, H1⟩
section
variable {B : Nat} {W : World} {p : Nat} {s : Int} {ys : List Int} {es : List EdV} {ds : List DiV} {fs : List Int}
/-- What the built tree says is least. -/
theorem TreeAt.lstL (h : TreeAt B W p s ys es ds fs) (hl : es.length ≤ 1000) (hw : ∀ x ∈ es, wtN x = x.2.2.2.toNat ∧ 0 ≤ x.2.2.2 ∧ x.2.2.2 < 2139095040) : Lst ys es s (farAt ds) (bitsAt ds) := by
  obtain ⟨ord, hd⟩ := h.dj
  refine ⟨h.good.src, h.gk.rise, h.gk.len, by omega, fun y hy => ?_, ⟨hd.src.2.1, hd.src.2.2.1⟩, hd.le_, fun y hy hf => ?_, fun us h0 hc => ?_⟩
  · obtain ⟨e1, e2⟩ := h.good.ends y hy
    exact ⟨e1, e2, (hw y hy).2⟩
  · obtain ⟨e1, e2⟩ := h.good.ends y hy
    have hm : wayOf ys y ∈ wyF ys es (plc ys y.2.1) := mem_wyF.2 ⟨plc_lt e1, y, hy, rfl, rfl⟩
    obtain ⟨j, hj⟩ := List.mem_iff_getElem?.1 hm
    have := hd.han _ (hd.all hf) j _ hj (fun e => by have := plc_lt e1; have e' : plc ys y.2.1 = ys.length := e; omega)
    rw [← (hw y hy).1]
    exact this
  · have key : ∀ (k q : Nat), ord.idxOf q = k → farAt ds q = false → uA us q ≤ bitsAt ds q := by
      intro k
      induction k using Nat.strongRecOn with
      | _ k ih =>
        intro q hk hf
        by_cases e : q = plc ys s
        · rw [e, h0]; exact Nat.zero_le _
        · have hq := hd.all hf
          obtain ⟨p2, hp, y, hy, y1, y2, y3, -, y5⟩ := hd.hang q (hd.oin q hq).1 hf e
          obtain ⟨-, x, m1, m2, m3⟩ := mem_wyF.1 hy
          have hi := ih (ord.idxOf p2) (by have := y5 hq; omega) p2 rfl (hd.oin p2 hp).2.1
          have hle := hd.le_ p2
          have h2 := hc x m1 (by rw [m2]; omega)
          rw [← (hw x m1).1] at h2
          have h2' : uA us (plc ys x.2.2.1) ≤ M.addC (uA us (plc ys x.2.1)) (wtN x) := h2
          have hqx : plc ys x.2.2.1 = q := by rw [← y1, ← m3]; rfl
          rw [hqx, m2] at h2'
          refine Nat.le_trans h2' ?_
          rw [y3, ← m3]
          exact M.addC_mono (by omega) hle (by have := wtN_le x; show wtN x ≤ _; omega) hi
    exact fun q hq hf => key _ q rfl hf
end
/-- Two that are least are one. -/
theorem lst_le {ys : List Int} {gs : List EdV} {s : Int} {f1 f2 : Nat → Bool} {b1 b2 : Nat → Nat} (h1 : Lst ys gs s f1 b1) (h2 : Lst ys gs s f2 b2) {q : Nat} (hq : q < ys.length) (hf : f1 q = false) : f2 q = false ∧ b2 q ≤ b1 q := by
  have hu : ∀ j, j < ys.length → uA (refD ys.length f2 b2) j = if f2 j = true then 4294967295 else b2 j := fun j hj => by
    refine uA_at ?_
    unfold refD
    rw [List.getElem?_map, List.getElem?_range hj]; rfl
  have hs := plc_lt h1.src
  have h3 := h1.up (refD ys.length f2 b2) (by rw [hu _ hs, h2.st.1, h2.st.2]; rfl) (fun y hy hn => by
    obtain ⟨o1, o2, -⟩ := h1.ok y hy
    rw [hu _ (plc_lt o1)] at hn ⊢
    rw [hu _ (plc_lt o2)]
    cases e : f2 (plc ys y.2.1) with
    | true => rw [e, if_pos rfl] at hn; exact absurd rfl hn
    | false =>
      obtain ⟨a1, a2⟩ := h2.han y hy e
      rw [a1]; exact a2) q hq hf
  rw [hu q hq] at h3
  have h4 := h1.le_ q
  cases e : f2 q with
  | true => rw [e, if_pos rfl] at h3; omega
  | false => rw [e] at h3; exact ⟨rfl, h3⟩
/-- The same is told of all. -/
def SameT (a b : List DiV) : Prop := a.length = b.length ∧ ∀ (i : Nat) (v : Int) (f : Bool) (c : Nat) (e : Int), a[i]? = some (v, f, c, e) → ∃ e', b[i]? = some (v, f, c, e')
theorem sameT_of {ys : List Int} {gs : List EdV} {s : Int} {a b : List DiV} (ha : a.map (·.1) = ys) (hb : b.map (·.1) = ys) (h1 : Lst ys gs s (farAt a) (bitsAt a)) (h2 : Lst ys gs s (farAt b) (bitsAt b)) (za : ∀ q, farAt a q = true → bitsAt a q = 0) (zb : ∀ q, farAt b q = true → bitsAt b q = 0) : SameT a b := by
  have la : a.length = ys.length := by rw [← ha, List.length_map]
  have lb : b.length = ys.length := by rw [← hb, List.length_map]
  refine ⟨by omega, fun i v f c e hi => ?_⟩
  have hl := (List.getElem?_eq_some_iff.1 hi).1
  obtain ⟨⟨v', f', c', e'⟩, hj⟩ : ∃ x, b[i]? = some x := ⟨_, List.getElem?_eq_getElem (by omega)⟩
  have ev : v' = v := by
    have e1 : ys[i]? = some v := by rw [← ha, List.getElem?_map, hi]; rfl
    have e2 : ys[i]? = some v' := by rw [← hb, List.getElem?_map, hj]; rfl
    rw [e1] at e2; exact (Option.some.inj e2).symm
  have fa : farAt a i = f := by unfold farAt; rw [List.getD_eq_getElem?_getD, hi]; rfl
  have fb : farAt b i = f' := by unfold farAt; rw [List.getD_eq_getElem?_getD, hj]; rfl
  have ca : bitsAt a i = c := by unfold bitsAt; rw [List.getD_eq_getElem?_getD, hi]; rfl
  have cb : bitsAt b i = c' := by unfold bitsAt; rw [List.getD_eq_getElem?_getD, hj]; rfl
  have key : f' = f ∧ c' = c := by
    cases f with
    | false =>
      obtain ⟨x1, x2⟩ := lst_le h1 h2 (q := i) (by omega) fa
      obtain ⟨-, y2⟩ := lst_le h2 h1 (q := i) (by omega) x1
      rw [fb] at x1
      exact ⟨x1, by omega⟩
    | true =>
      cases f' with
      | false =>
        obtain ⟨x1, -⟩ := lst_le h2 h1 (q := i) (by omega) fb
        rw [fa] at x1; cases x1
      | true =>
        have := za i fa
        have := zb i fb
        exact ⟨rfl, by omega⟩
  obtain ⟨rfl, rfl⟩ := key
  subst ev
  exact ⟨e', hj⟩
theorem sameT_near {a b : List DiV} (h : SameT a b) : nearV a = nearV b := by
  have e : a.map (fun d => (d.1, d.2.1)) = b.map (fun d => (d.1, d.2.1)) := by
    apply List.ext_getElem?
    intro i
    rw [List.getElem?_map, List.getElem?_map]
    cases hi : a[i]? with
    | none =>
      have := List.getElem?_eq_none_iff.1 hi
      rw [List.getElem?_eq_none (by have := h.1; omega)]
    | some x =>
      obtain ⟨v, f, c, e⟩ := x
      obtain ⟨e', he⟩ := h.2 i v f c e hi
      rw [he]; rfl
  have k : ∀ l : List DiV, nearV l = ((l.map (fun d => (d.1, d.2.1))).filter (fun d => !d.2)).map (·.1) := fun l => by
    unfold nearV
    rw [List.filter_map, List.map_map]
    rfl
  rw [k a, k b, e]
theorem TLv.farz {W : World} {p : Nat} {s : Int} {ys : List Int} {es : List EdV} {ds : List DiV} {T : L14.Tr} (h : TLv W p s ys es ds T) (q : Nat) (hf : farAt ds q = true) : bitsAt ds q = 0 := by
  rcases Nat.lt_or_ge q ys.length with z | z
  · obtain ⟨a1, a2, -⟩ := h.far (List.getElem?_eq_getElem z)
    obtain ⟨L, tc, N, ⟨mv, me, V, nv, E, ne, O, I, h1, hG, hs, hR, hE, -⟩, h2⟩ := h.ex
    rw [a1] at hf
    rw [a2]
    exact (hR.non _ (by simpa using hf)).1
  · rw [h.eq]; exact dsL_none z
theorem TLv.good {W : World} {p : Nat} {s : Int} {ys : List Int} {es : List EdV} {ds : List DiV} {T : L14.Tr} (h : TLv W p s ys es ds T) : Good ys es s ∧ ∀ x ∈ es, wtN x = x.2.2.2.toNat ∧ 0 ≤ x.2.2.2 ∧ x.2.2.2 < 2139095040 := by
  obtain ⟨L, tc, N, hK, -⟩ := h.ex
  have hk : ∀ x ∈ es, kept x.2.2.2 = some x.2.2.2 := fun x hx => by
    have := hK.lo x hx
    unfold kept
    rw [if_neg (by omega), if_neg (by omega)]
  refine ⟨⟨hK.nd, hK.un, fun x hx => (hK.lo x hx).1, hK.src, fun x hx => (hK.ends x hx).2, fun x hx => by rw [hk x hx]; rfl⟩, fun x hx => ⟨?_, (hK.lo x hx).2⟩⟩
  unfold wtN
  rw [hk x hx]; rfl
end

section
open Go.RowKit Go.Maps
/-- A tree whose calls leave these blocks alone. -/
def BS (K : Nat → Option Obj) (w : World) (p : Nat) (s : Int) (vs : List Int) (gs : List EdV) (N : Nat) (W : World) : Prop :=
  ∃ L T tc, LvK L W p s tc vs gs T N ∧ (∀ b ob, K b = some ob → L b = none ∧ W.heap[b]? = some ob) ∧ (∀ b, b < w.heap.size → L b = none) ∧ Below w.heap.size w W
/-- What is told of all vertices, in order. -/
def Told (s : Int) (vs : List Int) (gs : List EdV) (ds : List DiV) : Prop := ds.map (·.1) = vs ∧ Lst vs gs s (farAt ds) (bitsAt ds) ∧ ∀ q, farAt ds q = true → bitsAt ds q = 0
theorem Told.same {s : Int} {vs : List Int} {gs : List EdV} {a b : List DiV} (h : Told s vs gs a) (k : Told s vs gs b) : SameT a b := sameT_of h.1 k.1 h.2.1 k.2.1 h.2.2 k.2.2
def extK (K : Nat → Option Obj) (W W' : World) : Nat → Option Obj := fun b => if W.heap.size ≤ b then W'.heap[b]? else K b
section
variable {K : Nat → Option Obj} {w W W' : World} {p : Nat} {s : Int} {vs : List Int} {gs gs' : List EdV} {N : Nat}
theorem BS.go {L : Lab} {tc' : Int} {T' : L14.Tr} {N' : Nat} (hK : ∀ b ob, K b = some ob → L b = none ∧ W.heap[b]? = some ob) (hl : ∀ b, b < w.heap.size → L b = none) (hb : Below w.heap.size w W) (h : LvGo L W p s tc' vs gs' T' N' W') : BS K w p s vs gs' N' W' := by
  obtain ⟨L', k, ch⟩ := h
  have hs := hb.size
  refine ⟨L', T', tc', k, fun b ob q => ?_, fun b q => (ch.lab_ b (by omega)).trans (hl b q), hb.trans ⟨ch.tur.os, ch.tur.tape, ch.tur.output, ch.tur.size, fun b q => ch.tur.block b (by omega) (fun z => z (hl b q))⟩⟩
  obtain ⟨h1, h2⟩ := hK b ob q
  have hlt := heap_lt h2
  exact ⟨(ch.lab_ b hlt).trans h1, (ch.tur.block b hlt (fun z => z h1)).trans h2⟩
theorem BS.below (h : BS K w p s vs gs N W) (hb : Below W.heap.size W W') : BS K w p s vs gs N W' := by
  obtain ⟨L, T, tc, h1, h2, h3, h4⟩ := h
  exact BS.go h2 h3 h4 (h1.go hb)
theorem BS.ext (h : BS K w p s vs gs N W) (hb : Below W.heap.size W W') : BS (extK K W W') w p s vs gs N W' := by
  obtain ⟨L, T, tc, h1, h2, h3, h4⟩ := h
  refine ⟨L, T, tc, h1.below hb, fun b ob q => ?_, h3, h4.trans (hb.mono h4.size)⟩
  unfold extK at q
  by_cases z : W.heap.size ≤ b
  · rw [if_pos z] at q
    exact ⟨h1.fr b z, q⟩
  · rw [if_neg z] at q
    obtain ⟨a1, a2⟩ := h2 b ob q
    exact ⟨a1, (hb.block b (heap_lt a2)).trans a2⟩
theorem BS.stood (h : BS K w p s vs gs N W) {b : Nat} {ob : Obj} (hb : K b = some ob) : W.heap[b]? = some ob := by
  obtain ⟨L, T, tc, -, h2, -⟩ := h
  exact (h2 b ob hb).2
/-- The same records in another order. -/
theorem BS.perm (h : BS K w p s vs gs N W) (hp : gs.Perm gs') : BS K w p s vs gs' N W := by
  obtain ⟨L, T, tc, ⟨mv, me, V, nv, E, ne, O, I, h1, hG, hs, hR, hE, hn⟩, h2⟩ := h
  exact ⟨L, T, tc, ⟨mv, me, V, nv, E, ne, O, I, h1, hG, hs, hR, ⟨fun e u v c => (hE.ed e u v c).trans hp.mem_iff, (hp.map _).nodup_iff.1 hE.un, fun x hx => hE.lo x (hp.mem_iff.2 hx)⟩, hn⟩, h2⟩
theorem BS.facts (h : BS K w p s vs gs N W) : (gs.map (·.1)).Nodup ∧ (∀ x ∈ gs, 1 ≤ x.1 ∧ 0 ≤ x.2.2.2 ∧ x.2.2.2 < 2139095040) ∧ (∀ x ∈ gs, okN x.1 ∧ x.2.1 ∈ vs ∧ x.2.2.1 ∈ vs) ∧ Below w.heap.size w W := by
  obtain ⟨L, T, tc, h1, -, -, h4⟩ := h
  exact ⟨h1.un, h1.lo, h1.ends, h4⟩
theorem BS.del [Inhabited EntF] (h : BS K w p s vs gs N W) (hN : N ≤ 200) {i : Nat} {e u v : Int} {c : Nat} (hi : gs[i]? = some (e, u, v, (c : Int))) :
    Calls Tryz.prog 19 #[.pointer (some ⟨p, 0, none⟩), .int .i64 e] W fun r w' => r = .returned (.int .i64 0) ∧ Hid (BS K w p s vs (gs.take i ++ gs.drop (i + 1)) N w') := by
  have oe := (h.facts.2.2.1 _ (List.mem_of_getElem? hi)).1
  obtain ⟨L, T, tc, h1, h2, h3, h4⟩ := h
  by_cases hl : L14.lst T v = e
  · exact (vDelLast h1 oe hi hN hl).mono fun r w' q => ⟨q.1, by obtain ⟨n, T', q1, -⟩ := unhide q.2; exact BS.go h2 h3 h4 q1⟩
  · exact (vDelPlain h1 oe hi hN hl).mono fun r w' q => ⟨q.1, by obtain ⟨n, T', q1, -⟩ := unhide q.2; exact BS.go h2 h3 h4 q1⟩
theorem BS.delNo (h : BS K w p s vs gs N W) {e : Int} (oe : okN e) (hno : ∀ x ∈ gs, x.1 ≠ e) :
    Calls Tryz.prog 19 #[.pointer (some ⟨p, 0, none⟩), .int .i64 e] W fun r w' => r = .returned (.int .i64 6) ∧ Hid (BS K w p s vs gs N w') := by
  obtain ⟨L, T, tc, h1, h2, h3, h4⟩ := h
  exact (vDelNo h1 oe hno).mono fun r w' q => ⟨q.1, BS.go h2 h3 h4 (unhide q.2)⟩
theorem BS.rewNo (h : BS K w p s vs gs N W) {e b : Int} (oe : okN e) (hno : ∀ x ∈ gs, x.1 ≠ e) :
    Calls Tryz.prog 20 #[.pointer (some ⟨p, 0, none⟩), .int .i64 e, .int .u32 b] W fun r w' => r = .returned (.int .i64 6) ∧ Hid (BS K w p s vs gs N w') := by
  obtain ⟨L, T, tc, h1, h2, h3, h4⟩ := h
  exact (vRewNo h1 oe hno).mono fun r w' q => ⟨q.1, BS.go h2 h3 h4 (unhide q.2)⟩
theorem BS.insYes [Inhabited EntF] (h : BS K w p s vs gs N W) (hN : N + 1 ≤ 200) {e u v : Int} {c : Nat} (he : ¬ e < 1) (oe : okN e) (hno : ∀ x ∈ gs, x.1 ≠ e) (hu : u ∈ vs) (hv : v ∈ vs) (hk : kept (c : Int) = some (c : Int)) :
    Calls Tryz.prog 21 #[.pointer (some ⟨p, 0, none⟩), .agg #[.int .i64 e, .int .i64 u, .int .i64 v, .int .u32 (c : Int)]] W fun r w' => r = .returned (.int .i64 0) ∧ Hid (BS K w p s vs (gs ++ [(e, u, v, (c : Int))]) (N + 1) w') := by
  obtain ⟨L, T, tc, h1, h2, h3, h4⟩ := h
  exact (vInsYes h1 he oe hno hu hv hk hN).mono fun r w' q => ⟨q.1, by obtain ⟨n, T', q1, -⟩ := unhide q.2; exact BS.go h2 h3 h4 q1⟩
theorem BS.insTwice (h : BS K w p s vs gs N W) {e u v b : Int} (he : ¬ e < 1) (oe : okN e) (hs : ∃ x ∈ gs, x.1 = e) :
    Calls Tryz.prog 21 #[.pointer (some ⟨p, 0, none⟩), .agg #[.int .i64 e, .int .i64 u, .int .i64 v, .int .u32 b]] W fun r w' => r = .returned (.int .i64 2) ∧ Hid (BS K w p s vs gs N w') := by
  obtain ⟨L, T, tc, h1, h2, h3, h4⟩ := h
  exact (vInsTwice h1 he oe hs).mono fun r w' q => ⟨q.1, BS.go h2 h3 h4 (unhide q.2)⟩
theorem BS.rew [Inhabited EntF] (h : BS K w p s vs gs N W) (hN : N ≤ 200) {i : Nat} {e u v b : Int} {c : Nat} (hi : gs[i]? = some (e, u, v, (c : Int))) (hb : 0 ≤ b) :
    Calls Tryz.prog 20 #[.pointer (some ⟨p, 0, none⟩), .int .i64 e, .int .u32 b] W fun r w' => ∃ code : Int, r = .returned (.int .i64 code) ∧ Hid (((code = 0 ∧ kept b ≠ none) ∨ (code = 7 ∧ kept b = none)) ∧ ∃ c2 : Nat, (kept b = some (c2 : Int) ∨ kept b = none) ∧ BS K w p s vs (gs.set i (e, u, v, (c2 : Int))) N w') := by
  have oe := (h.facts.2.2.1 _ (List.mem_of_getElem? hi)).1
  obtain ⟨L, T, tc, h1, h2, h3, h4⟩ := h
  cases hk : kept b with
  | none =>
    refine (vRewBad h1 oe hi hk).mono fun r w' q => ⟨7, q.1, .inr ⟨rfl, rfl⟩, c, .inr rfl, ?_⟩
    have e1 : gs.set i (e, u, v, (c : Int)) = gs := by
      obtain ⟨a1, a2⟩ := List.getElem?_eq_some_iff.1 hi
      rw [← a2, List.set_getElem_self]
    rw [e1]; exact BS.go h2 h3 h4 (unhide q.2)
  | some b2 =>
    obtain ⟨c2, rfl⟩ := kept_fit hb hk
    by_cases hc : c < c2
    · refine (vRewUp h1 oe hi hk hN hc).mono fun r w' q => ⟨0, q.1, .inl ⟨rfl, fun z => by cases z⟩, c2, .inl rfl, ?_⟩
      obtain ⟨n, T', q1, -⟩ := unhide q.2
      exact BS.go h2 h3 h4 q1
    · refine (vRewDn h1 oe hi hk hN hc).mono fun r w' q => ⟨0, q.1, .inl ⟨rfl, fun z => by cases z⟩, c2, .inl rfl, ?_⟩
      obtain ⟨n, T', q1, -⟩ := unhide q.2
      exact BS.go h2 h3 h4 q1
theorem BS.tlv (h : BS K w p s vs gs N W) (hN : N ≤ 200) (hr : vs.Pairwise (· < ·)) (hg : gs.length ≤ 1000) : ∃ ds T, TLv W p s vs gs ds T ∧ Told s vs gs ds := by
  obtain ⟨L, T, tc, h1, -⟩ := h
  have ht : TLv W p s vs gs (dsL vs T) T := ⟨⟨L, tc, N, h1, hN⟩, rfl, hr, hg⟩
  exact ⟨_, T, ht, ht.vs, ht.lst, ht.farz⟩
theorem BS.dists (h : BS K w p s vs gs N W) (hN : N ≤ 200) (hr : vs.Pairwise (· < ·)) (hg : gs.length ≤ 1000) :
    Calls Tryz.prog 14 #[.pointer (some ⟨p, 0, none⟩)] W fun r w' => ∃ a n c, r = .returned (.slice a n c) ∧ Hid (∃ ds, DRow W.heap.size w' (.slice a n c) ds ∧ Told s vs gs ds ∧ BS (extK K W w') w p s vs gs N w') := by
  obtain ⟨ds, T, ht, hd⟩ := h.tlv hN hr hg
  refine (distsL ht).mono ?_
  rintro r w' ⟨a, n, c, rfl, H⟩
  obtain ⟨q1, q2⟩ := unhide H
  exact ⟨a, n, c, rfl, ds, q1, hd, h.ext q2⟩
end
theorem BS.inExt {K : Nat → Option Obj} {w W W' : World} {p : Nat} {s : Int} {vs : List Int} {gs : List EdV} {N : Nat} (h : BS K w p s vs gs N W) {b : Nat} {ob : Obj} (hb : K b = some ob) : extK K W W' b = some ob := by
  have := heap_lt (h.stood hb)
  unfold extK
  rw [if_neg (by omega)]; exact hb
theorem isOps_below {w W : World} {a : Option Addr} {len : Nat} {o : Nat → OpV} (h : IsOps w a len o) (hb : Below w.heap.size w W) : IsOps W a len o := by
  rcases h with q | ⟨b, off, e, h0, hh⟩
  · exact .inl q
  · exact .inr ⟨b, off, e, h0, fun i hi => ⟨opAt_below (hh i hi).1 hb, (hh i hi).2⟩⟩
/-- Behind built: the tree beside all that is nobody's. -/
theorem ba_start {w0 w1 W : World} {p : Nat} {s : Int} {vv ev : Value} {wr : Int} (h : BuiltA w0 p s vv ev wr w1) (hb : Below w1.heap.size w1 W) :
    ∃ K vs gs N, BS K w0 p s vs gs N W ∧ N ≤ 61 ∧ GV vs gs N ∧ (∀ W', (∀ b ob, K b = some ob → W'.heap[b]? = some ob) → NRow W' vv vs ∧ ERow 0 W' ev gs) ∧ (∀ b, w1.heap.size ≤ b → K b = W.heap[b]?) ∧ (∀ b, b < w0.heap.size → K b = w0.heap[b]?) := by
  obtain ⟨L, tc, vs, gs, T, N, h1, h2, h3, h4, h5, h6, h7, h8, h9, -⟩ := h
  have h4' := nrow_below h4 hb
  have h5' := rrow_below h5 hb
  refine ⟨fun b => if L b = none then W.heap[b]? else none, vs, gs, N, ⟨L, T, tc, h1.below hb, fun b ob q => ?_, h8, h9.trans (hb.mono h9.size)⟩, h3, h2, fun W' hW => ⟨nrow_kept h4' (fun b e => ?_), erow_kept h5' (fun b e => ?_)⟩, fun b q => if_pos (h1.fr b q), fun b q => ?_⟩
  · by_cases z : L b = none
    · dsimp only at q; rw [if_pos z] at q; exact ⟨z, q⟩
    · dsimp only at q; rw [if_neg z] at q; cases q
  · have hl := (h4'.lt b e).2
    rw [Array.getElem?_eq_getElem hl]
    exact hW b _ ((if_pos (h6 b e).1).trans (Array.getElem?_eq_getElem hl))
  · have hl := (h5'.lt b e).2
    rw [Array.getElem?_eq_getElem hl]
    exact hW b _ ((if_pos (h7 b e).1).trans (Array.getElem?_eq_getElem hl))
  · have hs := h9.size
    exact (if_pos (h8 b q)).trans ((hb.block b (by omega)).trans (h9.block b q))
/-- A row above this world stands wherever its blocks are kept. -/
theorem drow_ext {W W1 W2 : World} {v : Value} {ds : List DiV} (h : DRow W.heap.size W1 v ds) (hk : ∀ b ob, W.heap.size ≤ b → W1.heap[b]? = some ob → W2.heap[b]? = some ob) : DRow 0 W2 v ds :=
  rrow_low (rrow_kept h (fun b e => by
    obtain ⟨h1, h2⟩ := h.lt b e
    exact (hk b _ h1 (Array.getElem?_eq_getElem h2)).trans (Array.getElem?_eq_getElem h2).symm)) (Nat.zero_le _)
end

end Go.Proofs.YtbmcibofecigeaaGreat
