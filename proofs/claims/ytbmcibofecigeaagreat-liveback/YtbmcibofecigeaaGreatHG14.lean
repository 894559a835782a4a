/- hangs: a path without its last edge is the path of where that edge begins. -/
import Derived.Test.YtbmcibofecigeaaGreatPlM14
import Derived.Test.YtbmcibofecigeaaGreatRT13
import Derived.Test.YtbmcibofecigeaaGreatLvQ14
import Derived.Handy
namespace Go.Proofs.YtbmcibofecigeaaGreat

section
open Go.RowKit Go.Maps
/-- A live tree at p of these vertices and records; ds is what is known of each. -/
structure TLv (W : World) (p : Nat) (s : Int) (ys : List Int) (es : List EdV) (ds : List DiV) (T : L14.Tr) : Prop where
  ex : ∃ L tc N, LvK L W p s tc ys es T N ∧ N ≤ 200
  eq : ds = dsL ys T
  rise : ys.Pairwise (· < ·)
  el : es.length ≤ 1000
/-- The way back of a place. -/
def BackL (s : Int) (ys : List Int) (es : List EdV) (T : L14.Tr) (q : Nat) (l : List Int) : Prop := ∃ v E, ys[q]? = some v ∧ ERel E es ∧ L14.Right E s T ∧ L14.Chain E s T v l
section
variable {W W' : World} {p : Nat} {s : Int} {ys : List Int} {es : List EdV} {ds : List DiV} {T : L14.Tr}
theorem TLv.below (h : TLv W p s ys es ds T) (hb : Below W.heap.size W W') : TLv W' p s ys es ds T := by
  obtain ⟨L, tc, N, h1, h2⟩ := h.ex
  exact ⟨⟨L, tc, N, h1.below hb, h2⟩, h.eq, h.rise, h.el⟩
theorem TLv.lst (h : TLv W p s ys es ds T) : Lst ys es s (farAt ds) (bitsAt ds) := by
  obtain ⟨L, tc, N, h1, h2⟩ := h.ex
  rw [h.eq]
  exact h1.lst h2 (by have := h.el; omega) h.rise
theorem TLv.gok (h : TLv W p s ys es ds T) : GOk es := by
  obtain ⟨L, tc, N, ⟨mv, me, V, nv, E, ne, O, I, -, -, -, -, hE, -⟩, h2⟩ := h.ex
  exact hE.ok (by have := h.el; omega)
theorem TLv.src (h : TLv W p s ys es ds T) : s ∈ ys := by
  obtain ⟨L, tc, N, h1, h2⟩ := h.ex
  exact h1.src
theorem TLv.len (h : TLv W p s ys es ds T) : ys.length ≤ 1000 := by
  obtain ⟨L, tc, N, h1, h2⟩ := h.ex
  have := h1.vl; omega
theorem TLv.dl (h : TLv W p s ys es ds T) : ds.length = ys.length := by rw [h.eq]; unfold dsL; simp
theorem TLv.vs (h : TLv W p s ys es ds T) : ds.map (·.1) = ys := by rw [h.eq]; unfold dsL; rw [List.map_map]; exact List.map_id'' (fun _ => rfl) _
theorem TLv.okV (h : TLv W p s ys es ds T) {i : Nat} {v : Int} (hv : ys[i]? = some v) : okN v := by
  obtain ⟨L, tc, N, h1, h2⟩ := h.ex
  exact h1.okV v (List.mem_of_getElem? hv)
theorem askL_C {V : Int → Option Nat} (hm : ∀ v, v ∈ ys ↔ V v ≠ none) (hr : ys.Pairwise (· < ·)) (v : Int) : askL V T v = askC ys (dsL ys T) v := by
  unfold askL askC
  by_cases hv : v ∈ ys
  · obtain ⟨a1, -, -⟩ := dsL_at (T := T) (at_plc hr hv)
    rw [if_neg ((hm v).1 hv), if_pos hv, a1]
    cases L14.fnd T v <;> rfl
  · rw [if_pos (Decidable.byContradiction fun z => hv ((hm v).2 z)), if_neg hv]
theorem ask_at (hr : ys.Pairwise (· < ·)) {v : Int} (hc : askC ys (dsL ys T) v = 0) : v ∈ ys ∧ bitsAt (dsL ys T) (plc ys v) = L14.cst T v ∧ edgeAt (dsL ys T) (plc ys v) = L14.lst T v := by
  unfold askC at hc
  by_cases hv : v ∈ ys
  · obtain ⟨-, a2, a3⟩ := dsL_at (T := T) (at_plc hr hv)
    exact ⟨hv, a2, a3⟩
  · rw [if_neg hv] at hc; cases hc
theorem distL (h : TLv W p s ys es ds T) {v : Int} (ov : okN v) :
    Calls Tryz.prog 24 #[.pointer (some ⟨p, 0, none⟩), .int .i64 v] W fun e w' => e = .returned (.tuple #[.int .u32 (askB ys ds v : Nat), .int .i64 (askC ys ds v)]) ∧ Hid (Below W.heap.size W w') := by
  obtain ⟨L, tc, N, ⟨mv, me, V, nv, E, ne, O, I, h1, hG, hs, hR, hE, -⟩, h2⟩ := h.ex
  have hq := vdistT h1.at_ ov (hR.le_ v)
  have he := askL_C (T := T) (V := V) hG.mem h.rise v
  rw [h.eq]
  refine hq.mono ?_
  rintro e w' ⟨rfl, rfl⟩
  refine ⟨?_, Below.refl _ _⟩
  rw [he]
  unfold askB
  by_cases hc : askC ys (dsL ys T) v = 0
  · rw [if_pos hc, if_pos hc, (ask_at h.rise hc).2.1]
  · rw [if_neg hc, if_neg hc]
theorem lastL (h : TLv W p s ys es ds T) {v : Int} (ov : okN v) :
    Calls Tryz.prog 62 #[.pointer (some ⟨p, 0, none⟩), .int .i64 v] W fun e w' => e = .returned (.int .i64 (askE ys ds v)) ∧ Hid (Below W.heap.size W w') := by
  obtain ⟨L, tc, N, ⟨mv, me, V, nv, E, ne, O, I, h1, hG, hs, hR, hE, -⟩, h2⟩ := h.ex
  have hq := vlastT (T := T) h1.at_ ov
  have he := askL_C (T := T) (V := V) hG.mem h.rise v
  rw [h.eq]
  refine hq.mono ?_
  rintro e w' ⟨rfl, rfl⟩
  refine ⟨?_, Below.refl _ _⟩
  rw [he]
  unfold askE
  by_cases hc : askC ys (dsL ys T) v = 0
  · rw [if_pos hc, if_pos hc, (ask_at h.rise hc).2.2]
  · rw [if_neg hc, if_neg hc]
theorem sourceL (h : TLv W p s ys es ds T) :
    Calls Tryz.prog 25 #[.pointer (some ⟨p, 0, none⟩)] W fun e w' => e = .returned (.int .i64 s) ∧ w' = W := by
  obtain ⟨L, tc, N, ⟨mv, me, V, nv, E, ne, O, I, h1, hG, hs, hR, hE, -⟩, h2⟩ := h.ex
  exact vsourceT h1.at_
theorem reachedLL (h : TLv W p s ys es ds T) :
    Calls Tryz.prog 17 #[.pointer (some ⟨p, 0, none⟩)] W fun e w' => ∃ a n c, e = .returned (.slice a n c) ∧ Hid (RowAns W (nearV ds) (.slice a n c) w') := by
  obtain ⟨L, tc, N, ⟨mv, me, V, nv, E, ne, O, I, h1, hG, hs, hR, hE, hn, -⟩, h2⟩ := h.ex
  rw [h.eq]
  exact vReachedLT h1.at_ hG (ltN_rise h.rise) (by omega) h2
theorem distsL (h : TLv W p s ys es ds T) :
    Calls Tryz.prog 14 #[.pointer (some ⟨p, 0, none⟩)] W fun e w' => ∃ a n c, e = .returned (.slice a n c) ∧ Hid (DisL W ds (.slice a n c) w') := by
  obtain ⟨L, tc, N, ⟨mv, me, V, nv, E, ne, O, I, h1, hG, hs, hR, hE, hn, -⟩, h2⟩ := h.ex
  rw [h.eq]
  exact vDistsLT h1.at_ hG hR.le_ (ltN_rise h.rise) (by omega) h2
/-- What Path tells. -/
def PathAnsL (w : World) (s : Int) (ys : List Int) (es : List EdV) (ds : List DiV) (T : L14.Tr) (v : Int) (x : Value) (w' : World) : Prop :=
  Below w.heap.size w w' ∧ (askC ys ds v ≠ 0 → x = .slice none 0 0) ∧ (askC ys ds v = 0 → ∃ l, BackL s ys es T (plc ys v) l ∧ BRow w.heap.size w' x l.reverse ∧ l.length ≤ 1001)
theorem pathLL (h : TLv W p s ys es ds T) {v : Int} (ov : okN v) :
    Calls Tryz.prog 22 #[.pointer (some ⟨p, 0, none⟩), .int .i64 v] W fun e w' => ∃ a n c, e = .returned (.tuple #[.slice a n c, .int .i64 (askC ys ds v)]) ∧ Hid (PathAnsL W s ys es ds T v (.slice a n c) w') := by
  obtain ⟨L, tc, N, ⟨mv, me, V, nv, E, ne, O, I, h1, hG, hs, hR, hE, -⟩, h2⟩ := h.ex
  have hq := vPathLT h1.at_ hG hR hs h2 ov
  have he := askL_C (T := T) (V := V) hG.mem h.rise v
  have hds := h.eq
  have hr := h.rise
  subst hds
  refine hq.mono ?_
  rintro e w' ⟨a, n, c, rfl, H⟩
  obtain ⟨b1, b2, b3⟩ := unhide H
  rw [he] at b2 b3
  refine ⟨a, n, c, by rw [he], b1, b2, fun hc => ?_⟩
  obtain ⟨l, l1, l2, l3⟩ := b3 hc
  exact ⟨l, ⟨v, E, at_plc hr (ask_at hr hc).1, hE, hR, l1⟩, l2, by omega⟩
theorem erel_one {E E' : L14.Es} (h : ERel E es) (h' : ERel E' es) : E = E' := by
  funext e
  cases q : E e with
  | none =>
    cases q' : E' e with
    | none => rfl
    | some x =>
      obtain ⟨u, v, c⟩ := x
      rw [(h.ed e u v c).2 ((h'.ed e u v c).1 q')] at q
      cases q
  | some x =>
    obtain ⟨u, v, c⟩ := x
    rw [(h'.ed e u v c).2 ((h.ed e u v c).1 q)]
theorem TLv.far (h : TLv W p s ys es ds T) {q : Nat} {v : Int} (hv : ys[q]? = some v) : farAt ds q = !L14.fnd T v ∧ bitsAt ds q = L14.cst T v ∧ edgeAt ds q = L14.lst T v := by
  rw [h.eq]; exact dsL_at hv
theorem back_oneL {a b : List Int} {q : Nat} (ha : BackL s ys es T q a) (hb : BackL s ys es T q b) : a = b := by
  obtain ⟨v, E, h1, h2, h3, h4⟩ := ha
  obtain ⟨v', E', g1, g2, g3, g4⟩ := hb
  rw [h1] at g1
  have e1 := Option.some.inj g1
  have e2 := erel_one h2 g2
  subst e1 e2
  exact L14.chain_one h4 g4
theorem TLv.walk (h : TLv W p s ys es ds T) {l : List Int} {q : Nat} (hq : farAt ds q = false) (hb : BackL s ys es T q l) :
    ∃ ms : List EdV, ms.map (·.1) = l.reverse ∧ Wlk es s ms ∧ ms.length = l.length ∧ (stops s ms)[ms.length]? = ys[q]? ∧ costE ms = bitsAt ds q ∧ (stops s ms).Nodup := by
  obtain ⟨v, E, h1, h2, h3, h4⟩ := hb
  obtain ⟨a1, a2, -⟩ := h.far h1
  rw [a1] at hq
  obtain ⟨ms, m1, m2, m3, ⟨m4, m5⟩, m6, -⟩ := chain_walk h3 h2 (by simpa using hq) h4
  exact ⟨ms, m1, m2, m3, by rw [m5, h1], by rw [m6, a2], m4⟩
theorem TLv.back0 (h : TLv W p s ys es ds T) {q : Nat} (hb : BackL s ys es T q []) : edgeAt ds q = 0 := by
  obtain ⟨v, E, h1, h2, h3, h4⟩ := hb
  have e : v = s := h4
  rw [(h.far h1).2.2, e]; exact h3.src.2.2
/-- What is so of the last edge of a path. -/
theorem TLv.hangs (h : TLv W p s ys es ds T) {q : Nat} (_hq : farAt ds q = false) {e : Int} {l : List Int} (hb : BackL s ys es T q (e :: l)) :
    ∃ (x : EdV) (k : Nat), es[k]? = some x ∧ x.1 = e ∧ edgeAt ds q = e ∧ askC ys ds x.2.1 = 0 ∧ BackL s ys es T (plc ys x.2.1) l ∧ okN x.2.1 := by
  obtain ⟨v, E, h1, h2, h3, h4⟩ := hb
  obtain ⟨g1, g2, u, c, g3, g4, g5⟩ := h4
  have hm := (h2.ed e u v c).1 g3
  obtain ⟨k, hk⟩ := List.getElem?_of_mem hm
  obtain ⟨L, tc, N, hK, -⟩ := h.ex
  have hu := (hK.ends _ hm).2.1
  have hat := at_plc h.rise hu
  refine ⟨_, k, hk, rfl, ?_, ?_, ⟨u, E, hat, h2, h3, g5⟩, hK.okV _ hu⟩
  · rw [(h.far h1).2.2, ← g2]
  · unfold askC
    rw [if_pos hu, (h.far hat).1]
    show (if (!L14.fnd T u) = true then (130 : Int) else 0) = 0
    rw [g4]; rfl
/-- What is told of the i-th vertex. -/
theorem TLv.ith (h : TLv W p s ys es ds T) {i : Nat} {v : Int} (hv : ys[i]? = some v) :
    ∃ f b e, ds[i]? = some (v, f, b, e) ∧ askC ys ds v = (if f = true then 130 else 0) ∧ askB ys ds v = b ∧ askE ys ds v = e ∧ (refD ys.length (farAt ds) (bitsAt ds))[i]? = some (if f = true then 4294967295 else b) ∧ (f = true → b = 0 ∧ e = 0) ∧ plc ys v = i ∧ f = farAt ds i ∧ b = bitsAt ds i ∧ e = edgeAt ds i ∧ b ≤ 2139095040 := by
  obtain ⟨L, tc, N, ⟨mv, me, V, nv, E, ne, O, I, h1, hG, hs, hR, hE, -⟩, h2⟩ := h.ex
  have hi := (List.getElem?_eq_some_iff.1 hv).1
  have hp := plc_at h.rise hv
  have hm := List.mem_of_getElem? hv
  obtain ⟨a1, a2, a3⟩ := h.far hv
  have hx : ds[i]? = some (v, !L14.fnd T v, L14.cst T v, L14.lst T v) := by rw [h.eq]; unfold dsL; rw [List.getElem?_map, hv]; rfl
  have hz : (!L14.fnd T v) = true → L14.cst T v = 0 ∧ L14.lst T v = 0 := fun q => hR.non v (by simpa using q)
  have hc : askC ys ds v = (if (!L14.fnd T v) = true then 130 else 0) := by unfold askC; rw [if_pos hm, hp, a1]
  refine ⟨_, _, _, hx, hc, ?_, ?_, ?_, hz, hp, a1.symm, a2.symm, a3.symm, hR.le_ v⟩
  · unfold askB
    rw [hc, hp, a2]
    cases q : (!L14.fnd T v) with
    | true => rw [(hz q).1]; rfl
    | false => rfl
  · unfold askE
    rw [hc, hp, a3]
    cases q : (!L14.fnd T v) with
    | true => rw [(hz q).2]; rfl
    | false => rfl
  · unfold refD
    rw [List.getElem?_map, List.getElem?_range hi]
    show some (if farAt ds i = true then 4294967295 else bitsAt ds i) = _
    rw [a1, a2]
end
theorem ok_far : okN 2199023255552 := rfl
end

section
open Go.RowKit Go.Maps
theorem infoLP : (Tryz.prog.info? 23).map (fun i => (i.methods.find? (·.name == "Path")).map (fun m => (m.path.toList, m.func))) = some (some ([], some (22, true))) := by kernel_rfl
theorem nilAheadL (k : Nat) (a : Addr) (y : World) : (nilAhead (k + 1) 23 (.pointer (some a)) "Path").run Tryz.prog y = .ok (some false) y := by
  have h := infoLP
  cases hi : Tryz.prog.info? 23 with
  | none => rw [hi] at h; cases h
  | some i =>
    rw [hi] at h
    have h : Option.map (fun m => (m.path.toList, m.func)) (i.methods.find? (·.name == "Path")) = some ([], some (22, true)) := Option.some.inj h
    cases hm : i.methods.find? (·.name == "Path") with
    | none => rw [hm] at h; cases h
    | some m =>
      rw [hm] at h
      have h := Option.some.inj h
      have h1 : m.path.toList = [] := congrArg Prod.fst h
      have h2 : m.func = some (22, true) := congrArg Prod.snd h
      simp [nilAhead, typeInfo, hi, hm, h1, h2, followBlind]
set_option maxHeartbeats 4000000 in
set_option maxRecDepth 100000 in
theorem hangsL {w : World} {p : Nat} {s : Int} {ys : List Int} {es : List EdV} {ds : List DiV} {T : L14.Tr} {vv ev pv : Value} {rd wr0 last : Int} {q : Nat} {l : List Int} (hT : TLv w p s ys es ds T) (hE : ERow 0 w ev es) (hl : es.length ≤ 1000) (hq : farAt ds q = false) (hb : BackL s ys es T q l) (hp : NRow w pv l.reverse) (hll : l.length ≤ 1001) (hlast : last = edgeAt ds q) :
    Calls Tryz.prog 28 #[.iface 23 (.pointer (some ⟨p, 0, none⟩)), .agg #[vv, ev, .int .i64 rd, .int .i64 wr0], pv, .int .i64 last] w fun e w' => e = .returned (.bool true) ∧ Hid (Below w.heap.size w w') := by
  have hbn := below_new w (oGr vv ev rd wr0)
  have hbx := heap_alloc_new w (oGr vv ev rd wr0)
  obtain ⟨gb, hgb⟩ : ∃ gb, gb = w.heap.size := ⟨_, rfl⟩
  obtain ⟨pa, pc, rfl, -⟩ := brow_shape hp
  rw [List.length_reverse] at hp ⊢
  cases l with
  | nil =>
    have hz : edgeAt ds q = 0 := hT.back0 hb
    have HB := hide hbn
    rw [hlast, hz]
    clear hT hE hl hq hb hp hll hlast hz hbx hgb
    go_enter Tryz.func28, Tryz.ntmps28
    unfold oGr at HB
    go_wp2_with fail
    go_ret
    exact ⟨rfl, HB⟩
  | cons e l =>
    obtain ⟨x, k, m1, m2, m3, m4, m5, mo⟩ := hT.hangs hq hb
    have hg := hT.gok
    have hm3 : last = x.1 := by rw [hlast, m3, m2]
    obtain ⟨gp, rfl⟩ := brow_some hp (by simp)
    obtain ⟨ea, ec, rfl⟩ := rrow_shape hE
    obtain ⟨ge, rfl⟩ := rrow_some hE (by have := (List.getElem?_eq_some_iff.1 m1).1; omega)
    obtain ⟨m, hm⟩ : ∃ m, m = es.length := ⟨_, rfl⟩
    rw [← hm] at hE hbn hbx ⊢
    obtain ⟨n, hn⟩ : ∃ n, n = l.length := ⟨_, rfl⟩
    have hkm : k < m := by rw [hm]; exact (List.getElem?_eq_some_iff.1 m1).1
    obtain ⟨W1, hW1⟩ : ∃ W1, W1 = w.alloc (oGr vv (.slice (some ⟨ge, 0, none⟩) m ec) rd wr0) := ⟨_, rfl⟩
    rw [← hW1] at hbn hbx
    rw [← hgb] at hbx
    have hgl : gb < W1.heap.size := (Array.getElem?_eq_some_iff.1 hbx).1
    have hrev : (e :: l).reverse = l.reverse ++ [e] := List.reverse_cons
    have hlen : (e :: l).length = n + 1 := by rw [hn]; rfl
    rw [hlen] at hp ⊢
    have HX : Hid (∀ W, Below W1.heap.size W1 W → ((W.cell? ⟨gb, 0, none⟩ = some vv ∧ W.cell? ⟨gb, 1, none⟩ = some (.slice (some ⟨ge, 0, none⟩) m ec) ∧ W.cell? ⟨gb, 2, none⟩ = some (.int .i64 rd) ∧ W.cell? ⟨gb, 3, none⟩ = some (.int .i64 wr0)) ∧ W.cell? ⟨ge, k * 4 + 1, none⟩ = some (.int .i64 x.2.1)) ∧ W.cell? ⟨gp, n, none⟩ = some (.int .i64 x.1) ∧ NRow W (.slice (some ⟨gp, 0, none⟩) n pc) l.reverse ∧ Below w.heap.size w W ∧ TLv W p s ys es ds T ∧ Calls Tryz.prog 58 #[.agg #[vv, .slice (some ⟨ge, 0, none⟩) m ec, .int .i64 rd, .int .i64 wr0], .int .i64 x.1] W fun r w' => r = .returned (.int .i64 (k : Nat)) ∧ Hid (Below W.heap.size W w')) := fun W hW => by
      obtain ⟨c0, c1, c2, c3, -⟩ := cellsGr ((hW.block gb hgl).trans hbx)
      have hB := hbn.trans (hW.mono hbn.size)
      have hE' := rrow_below hE hB
      have hp' := nrow_below hp hB
      obtain ⟨-, q1, -, -⟩ := erow_at hE' m1
      have ha := atR (vv := vv) (rd := rd) (wr := wr0) (e := x.1) hE' (by have := hg.len; omega)
      have ha2 : atOf es x.1 = (k : Int) := atOf_some hg.nd m1
      have ha3 : atOf es x.1 = (k : Int) := ha2
      rw [ha3] at ha
      have ht := brow_take hp' (m := n) (by omega)
      rw [hrev, List.take_left' (by rw [List.length_reverse, hn])] at ht
      have hq1 := brow_at hp' (j := n) (e := e) (by rw [hrev, List.getElem?_append_right (by rw [List.length_reverse]; omega), List.length_reverse, hn, Nat.sub_self]; rfl)
      exact ⟨⟨⟨c0, c1, c2, c3⟩, q1⟩, by rw [m2]; exact hq1, ht, hB, hT.below hB, ha⟩
    have HP : Hid (∀ W, Below W1.heap.size W1 W → Calls Tryz.prog 22 #[.pointer (some ⟨p, 0, none⟩), .int .i64 x.2.1] W fun e w' => ∃ a n c, e = .returned (.tuple #[.slice a n c, .int .i64 0]) ∧ Hid (NRow w' (.slice a n c) l.reverse ∧ Below W.heap.size W w')) := fun W hW => by
      have h1 := pathLL (unhide HX W hW).2.2.2.2.1 mo
      rw [m4] at h1
      refine h1.mono ?_
      rintro r w' ⟨a, n, c, rfl, H⟩
      obtain ⟨b1, -, b3⟩ := unhide H
      obtain ⟨l2, b4, b5, -⟩ := b3 m4
      have e2 := back_oneL b4 m5
      subst e2
      exact ⟨a, n, c, rfl, brow_at0 b5, b1⟩
    have HN : Hid (n = l.length ∧ n ≤ 1001) := ⟨hn, by simp at hll; omega⟩
    have hcap : n + 1 ≤ pc := by
      rcases hp.2 with ⟨e, -⟩ | ⟨g', cap, cur, e, -, -, hc, -⟩
      · cases e
      · injection e with e1 e2 e3
        simp at hc; omega
    have z0 : (((n + 1 : Nat) : Int) == 0) = false := by simpa using (by omega : ¬ ((n : Int) + 1 = 0))
    obtain ⟨n1, hn1⟩ : ∃ n1, n1 = n + 1 := ⟨_, rfl⟩
    rw [← hn1] at z0 hcap ⊢
    have zm : wrap64 ((n1 : Int) - 1) = (n : Int) := by have := (unhide HN).2; unfold wrap64; omega
    have z1 : (n : Int) < (n1 : Int) := by omega
    have z2 : (n : Int) ≤ (pc : Int) := by omega
    have z3 : (k : Int) < (m : Int) := by omega
    have ea : (if pc = 0 then some (⟨gp, 0, none⟩ : Addr) else some (Addr.add ⟨gp, 0, none⟩ 0)) = some ⟨gp, 0, none⟩ := by simp [Addr.add]
    obtain ⟨⟨⟨c0, c1, c2, c3⟩, q1⟩, q2, -, -, -, hA⟩ := unhide HX W1 (Below.refl _ _)
    have hna : ∀ y : World, (nilAhead 307 23 (.pointer (some ⟨p, 0, none⟩)) "Path").run Tryz.prog y = .ok (some false) y := fun y => nilAheadL 306 _ y
    have HW1 := hide hW1
    have HGB := hide hgb
    rw [hm3]
    clear hT hE hl hq hb hp hll hlast hbn hbx hgb m1 m2 m3 m4 m5 mo hg hm3 hm hn hkm hW1 hgl hrev hlen hcap hn1 hA
    go_enter Tryz.func28, Tryz.ntmps28
    go_upto_region 1 with fail
    rw [show w.alloc (.cells #[vv, .slice (some ⟨ge, 0, none⟩) m ec, .int .i64 rd, .int .i64 wr0] 27 (0, 0)) = W1 from (unhide HW1).symm, ← unhide HGB]
    clear HW1 HGB
    go_upto_region 4 with fail
    have HZ := hide (And.intro zm (And.intro z1 (And.intro z2 ea)))
    clear zm z1 z2 ea
    refine wp_region_noPanic ?_
    refine regionL [] (fun y => (y.cell? ⟨gb, 0, none⟩ = some vv ∧ y.cell? ⟨gb, 1, none⟩ = some (.slice (some ⟨ge, 0, none⟩) m ec) ∧ y.cell? ⟨gb, 2, none⟩ = some (.int .i64 rd) ∧ y.cell? ⟨gb, 3, none⟩ = some (.int .i64 wr0)) ∧ y.cell? ⟨ge, k * 4 + 1, none⟩ = some (.int .i64 x.2.1)) (by kernel_rfl) ⟨⟨c0, c1, c2, c3⟩, q1⟩ (fun hHeld => ?_)
    refine takeL (i := 0) (v := ?t2v0) (some 19) rfl rfl (by kernel_rfl) (by kernel_rfl) (by kernel_rfl) (by kernel_rfl) (by kernel_rfl) (fun _ _ _ h => h) (Or.inl ⟨by rfl, ?t2h0⟩) (by assumption) ?t2r0
    case t2h0 => (intro y hSu; (try dsimp only at hSu); go_simp; first | done | with_reducible rfl)
    (try simp only [Act.put, List.setIfInBounds_toArray, List.set_cons_zero, List.set_cons_succ])
    refine takeL (i := 1) (v := ?t2v1) (some 20) rfl rfl (by kernel_rfl) (by kernel_rfl) (by kernel_rfl) (by kernel_rfl) (by kernel_rfl) (fun _ _ _ h => h) (Or.inl ⟨by rfl, ?t2h1⟩) (by assumption) ?t2r1
    case t2h1 => (intro y hSu; (try dsimp only at hSu); go_simp; first | done | with_reducible rfl)
    (try simp only [Act.put, List.setIfInBounds_toArray, List.set_cons_zero, List.set_cons_succ])
    refine takeL (i := 2) (v := ?t2v2) (some 21) rfl rfl (by kernel_rfl) (by kernel_rfl) (by kernel_rfl) (by kernel_rfl) (by kernel_rfl) (fun _ _ _ h => h) (Or.inl ⟨by rfl, ?t2h2⟩) (by assumption) ?t2r2
    case t2h2 => (intro y hSu; (try dsimp only at hSu); go_simp; first | done | with_reducible rfl)
    (try simp only [Act.put, List.setIfInBounds_toArray, List.set_cons_zero, List.set_cons_succ])
    refine takeL (i := 3) (v := ?t2v3) (some 22) rfl rfl (by kernel_rfl) (by kernel_rfl) (by kernel_rfl) (by kernel_rfl) (by kernel_rfl) (fun _ _ _ h => h) (Or.inl ⟨by rfl, ?t2h3⟩) (by assumption) ?t2r3
    case t2h3 => (intro y hSu; (try dsimp only at hSu); go_simp; first | done | with_reducible rfl)
    (try simp only [Act.put, List.setIfInBounds_toArray, List.set_cons_zero, List.set_cons_succ])
    refine takeL (i := 4) (v := ?t2v4) (some 23) rfl rfl (by kernel_rfl) (by kernel_rfl) (by kernel_rfl) (by kernel_rfl) (by kernel_rfl) (fun _ _ _ h => h) (Or.inl ⟨by rfl, ?t2h4⟩) (by assumption) ?t2r4
    case t2h4 => (intro y hSu; (try dsimp only at hSu); go_simp; first | done | with_reducible rfl)
    (try simp only [Act.put, List.setIfInBounds_toArray, List.set_cons_zero, List.set_cons_succ])
    refine takeL (i := 9) (v := ?t3v9) (some 28) rfl rfl (by kernel_rfl) (by kernel_rfl) (by kernel_rfl) (by kernel_rfl) (by kernel_rfl) (fun _ _ _ h => h) (Or.inl ⟨by rfl, ?t3h9⟩) (by assumption) ?t3r9
    case t3h9 => (intro y hSu; (try dsimp only at hSu); go_simp; first | done | with_reducible rfl)
    (try simp only [Act.put, List.setIfInBounds_toArray, List.set_cons_zero, List.set_cons_succ])
    refine takeL (i := 10) (v := ?t3v10) (some 29) rfl rfl (by kernel_rfl) (by kernel_rfl) (by kernel_rfl) (by kernel_rfl) (by kernel_rfl) (fun _ _ _ h => h) (Or.inl ⟨by rfl, ?t3h10⟩) (by assumption) ?t3r10
    case t3h10 => (intro y hSu; (try dsimp only at hSu); go_simp; first | done | with_reducible rfl)
    (try simp only [Act.put, List.setIfInBounds_toArray, List.set_cons_zero, List.set_cons_succ])
    refine takeL (i := 11) (v := ?t3v11) (some 30) rfl rfl (by kernel_rfl) (by kernel_rfl) (by kernel_rfl) (by kernel_rfl) (by kernel_rfl) (fun _ _ _ h => h) (Or.inl ⟨by rfl, ?t3h11⟩) (by assumption) ?t3r11
    case t3h11 => (intro y hSu; (try dsimp only at hSu); go_simp; first | done | with_reducible rfl)
    (try simp only [Act.put, List.setIfInBounds_toArray, List.set_cons_zero, List.set_cons_succ])
    refine readyL (i := 5) (by kernel_rfl) rfl (fun K hK => ?_)
    go_simp
    refine (unhide HX _ (below_drewN (Below.refl _ _) 1)).2.2.2.2.2.mono ?_
    rintro e1 w2 ⟨rfl, hb2⟩
    have HB2 : Hid (Below W1.heap.size W1 w2) := (below_drewN (Below.refl W1.heap.size W1) 1).trans ((unhide hb2).mono (below_drewN (Below.refl W1.heap.size W1) 1).size)
    clear hb2
    have HO := hide (unhide HX w2 (unhide HB2)).1
    (try dsimp only)
    refine hK.out _ _ (fun _ => (unhide HO)) ?_
    clear hK K
    (try simp only [Act.put, List.setIfInBounds_toArray, List.set_cons_zero, List.set_cons_succ])
    have hH5 := (unhide HO)
    refine takeL (i := 6) (v := ?t6v6) (some 25) rfl rfl (by kernel_rfl) (by kernel_rfl) (by kernel_rfl) (by kernel_rfl) (by kernel_rfl) (fun _ _ _ h => h) (Or.inl ⟨by rfl, ?t6h6⟩) (by assumption) ?t6r6
    case t6h6 => (intro y hSu; (try dsimp only at hSu); go_simp; first | done | with_reducible rfl)
    (try simp only [Act.put, List.setIfInBounds_toArray, List.set_cons_zero, List.set_cons_succ])
    refine takeL (i := 7) (v := ?t6v7) (some 26) rfl rfl (by kernel_rfl) (by kernel_rfl) (by kernel_rfl) (by kernel_rfl) (by kernel_rfl) (fun _ _ _ h => h) (Or.inl ⟨by rfl, ?t6h7⟩) (by assumption) ?t6r7
    case t6h7 => (intro y hSu; (try dsimp only at hSu); go_simp; first | done | with_reducible rfl)
    (try simp only [Act.put, List.setIfInBounds_toArray, List.set_cons_zero, List.set_cons_succ])
    refine takeL (i := 8) (v := ?t6v8) (some 27) rfl rfl (by kernel_rfl) (by kernel_rfl) (by kernel_rfl) (by kernel_rfl) (by kernel_rfl) (fun _ _ _ h => h) (Or.inl ⟨by rfl, ?t6h8⟩) (by assumption) ?t6r8
    case t6h8 => (intro y hSu; (try dsimp only at hSu); go_simp; first | done | with_reducible rfl)
    (try simp only [Act.put, List.setIfInBounds_toArray, List.set_cons_zero, List.set_cons_succ])
    refine readyL (i := 12) (by kernel_rfl) rfl (fun K hK => ?_)
    go_simp
    go_invoke
    go_simp
    refine (unhide HP w2 (unhide HB2)).mono ?_
    rintro e1 w3 ⟨a3, n3, c3', rfl, H3⟩
    have HB3 : Hid (Below W1.heap.size W1 w3) := (unhide HB2).trans ((unhide H3).2.mono (unhide HB2).size)
    have HO3 := hide (unhide HX w3 (unhide HB3))
    (try dsimp only)
    refine hK.out _ _ (fun _ => (unhide HO3).1) ?_
    clear hK K
    (try simp only [Act.put, List.setIfInBounds_toArray, List.set_cons_zero, List.set_cons_succ])
    have hH8 := (unhide HO3).1
    refine takeL (i := 13) (v := ?t9v13) (some 18) rfl rfl (by kernel_rfl) (by kernel_rfl) (by kernel_rfl) (by kernel_rfl) (by kernel_rfl) (fun _ _ _ h => h) (Or.inl ⟨by rfl, ?t9h13⟩) (by assumption) ?t9r13
    case t9h13 => (intro y hSu; (try dsimp only at hSu); go_simp; first | done | with_reducible rfl)
    (try simp only [Act.put, List.setIfInBounds_toArray, List.set_cons_zero, List.set_cons_succ])
    refine takeL (i := 14) (v := ?t9v14) (some 32) rfl rfl (by kernel_rfl) (by kernel_rfl) (by kernel_rfl) (by kernel_rfl) (by kernel_rfl) (fun _ _ _ h => h) (Or.inl ⟨by rfl, ?t9h14⟩) (by assumption) ?t9r14
    case t9h14 => (intro y hSu; (try dsimp only at hSu); go_simp; first | done | with_reducible rfl)
    (try simp only [Act.put, List.setIfInBounds_toArray, List.set_cons_zero, List.set_cons_succ])
    refine takeL (i := 15) (v := ?t9v15) (some 33) rfl rfl (by kernel_rfl) (by kernel_rfl) (by kernel_rfl) (by kernel_rfl) (by kernel_rfl) (fun _ _ _ h => h) (Or.inl ⟨by rfl, ?t9h15⟩) (by assumption) ?t9r15
    case t9h15 => (intro y hSu; (try dsimp only at hSu); go_simp; first | done | with_reducible rfl)
    (try simp only [Act.put, List.setIfInBounds_toArray, List.set_cons_zero, List.set_cons_succ])
    refine takeL (i := 16) (v := ?t9v16) (some 10) rfl rfl (by kernel_rfl) (by kernel_rfl) (by kernel_rfl) (by kernel_rfl) (by kernel_rfl) (fun _ _ _ h => h) (Or.inl ⟨by rfl, ?t9h16⟩) (by assumption) ?t9r16
    case t9h16 => (intro y hSu; (try dsimp only at hSu); go_simp; first | done | with_reducible rfl)
    (try simp only [Act.put, List.setIfInBounds_toArray, List.set_cons_zero, List.set_cons_succ])
    refine takeL (i := 17) (v := ?t9v17) (some 11) rfl rfl (by kernel_rfl) (by kernel_rfl) (by kernel_rfl) (by kernel_rfl) (by kernel_rfl) (fun _ _ _ h => h) (Or.inl ⟨by rfl, ?t9h17⟩) (by assumption) ?t9r17
    case t9h17 => (intro y hSu; (try dsimp only at hSu); go_simp; first | done | with_reducible rfl)
    (try simp only [Act.put, List.setIfInBounds_toArray, List.set_cons_zero, List.set_cons_succ])
    refine doneL (by kernel_rfl) ?_ _
    refine NoPanic.normal ?_
    clear hHeld c0 c1 c2 c3 q1 q2 HO
    obtain ⟨zm, z1, z2, ea⟩ := unhide HZ
    obtain ⟨-, q2, hr, hB, -, -⟩ := unhide HO3
    have CS := hide (sameInts9 (unhide H3).1 hr (by rw [List.length_reverse]; have := unhide HN; omega))
    rw [decide_eq_true rfl] at CS
    have HB := hide hB
    clear HO3 HX HP H3 hr hB HB2 HB3 HZ hna
    go_wp2_with fail
    refine (unhide CS).mono ?_
    rintro e1 w4 ⟨rfl, q4, hw4⟩
    have HB4 : Hid (Below w.heap.size w w4) := by
      show Below w.heap.size w w4
      rw [hw4]; exact below_drewN (unhide HB) q4
    clear CS hw4
    go_wp2_with fail
    go_ret
    exact ⟨rfl, HB4⟩
end

end Go.Proofs.YtbmcibofecigeaaGreat
