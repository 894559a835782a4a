/- hangs: a path without its last edge is the path of where that edge begins. -/
import Derived.Test.YtijgeoegeeejcaaRC13
import Derived.Test.YtijgeoegeeejcaaDists13
import Derived.Handy
namespace Go.Proofs.Ytijgeoegeeejcaa

section
open Go.RowKit Go.Maps
theorem wlk_snoc {gs : List EdV} : ∀ {ms : List EdV} {a : Int} {x : EdV}, Wlk gs a ms → (stops a ms)[ms.length]? = some x.2.1 → x ∈ gs → Wlk gs a (ms ++ [x])
  | [], a, x, _, h, hx => by
    have e : a = x.2.1 := by simpa [stops] using h
    exact ⟨hx, e.symm, trivial⟩
  | y :: ms, a, x, ⟨h1, h2, h3⟩, h, hx => ⟨h1, h2, wlk_snoc h3 (by simpa [stops] using h) hx⟩
theorem stops_app (a : Int) (ms : List EdV) (x : EdV) : stops a (ms ++ [x]) = stops a ms ++ [x.2.2.1] := by simp [stops]
theorem back_one {ds : List DiV} {fs : List Int} : ∀ {a b : List Int} {q : Nat}, Back ds fs q a → Back ds fs q b → a = b
  | [], [], q, _, _ => rfl
  | [], e :: b, q, h1, ⟨h2, h3, _⟩ => by
    have h1' : edgeAt ds q = 0 := h1
    exact absurd (h2.trans h1') h3
  | e :: a, [], q, ⟨h2, h3, _⟩, h1 => by
    have h1' : edgeAt ds q = 0 := h1
    exact absurd (h2.trans h1') h3
  | e :: a, e' :: b, q, ⟨h1, h2, p, h3, h4⟩, ⟨g1, g2, p', g3, g4⟩ => by
    rw [h3] at g3
    have hp : p = p' := by have := Option.some.inj g3; exact_mod_cast this
    subst hp
    rw [h1, g1, back_one h4 g4]
theorem costE_app (ms : List EdV) (x : EdV) (hx : x.2.2.2.toNat ≤ 2139095040) : costE (ms ++ [x]) = M.addC (costE ms) x.2.2.2.toNat := by
  unfold costE
  rw [List.map_append, List.map_cons, List.map_nil, M.foldN_snoc, counts_cost hx]
section
variable {B : Nat} {W : World} {p : Nat} {s : Int} {ys : List Int} {es : List EdV} {ds : List DiV} {fs : List Int}
theorem gok (h : Good ys es s) (hl : es.length ≤ 1000) : GOk (es.map wEd) := by
  refine ⟨?_, by rw [List.length_map]; omega, fun y hy => ?_⟩
  · rw [List.map_map]; exact h.en
  · obtain ⟨x, hx, rfl⟩ := List.mem_map.1 hy
    have := wtN_le x
    show 0 ≤ (wtN x : Int) ∧ (wtN x : Int) < 2139095040
    omega
/-- One step back. -/
theorem TreeAt.last (h : TreeAt B W p s ys es ds fs) {q : Nat} (hq : farAt ds q = false) (he : edgeAt ds q ≠ 0) : ∃ x ∈ es, x.1 = edgeAt ds q ∧ plc ys x.2.2.1 = q ∧ farAt ds (plc ys x.2.1) = false ∧ bitsAt ds q = M.addC (bitsAt ds (plc ys x.2.1)) (wtN x) ∧ fs[q]? = some ((plc ys x.2.1 : Nat) : Int) := by
  obtain ⟨ord, hd⟩ := h.dj
  have hne : q ≠ plc ys s := fun z => he (by rw [z]; exact hd.src.2.2.2)
  obtain ⟨p2, k1, y, k2, k3, k4, k5, k6, k7⟩ := hd.hang q (by rw [← hd.dl]; exact far_lt hq) hq hne
  obtain ⟨-, x, m1, m2, m3⟩ := mem_wyF.1 k2
  subst m2
  rw [← m3] at k3 k4 k5
  exact ⟨x, m1, k4, k3, (hd.oin _ k1).2.1, k5, k6⟩
theorem back_walk (h : TreeAt B W p s ys es ds fs) : ∃ rk : Nat → Nat, ∀ (l : List Int) (q : Nat), farAt ds q = false → Back ds fs q l →
    ∃ ms : List EdV, ms.map (·.1) = l.reverse ∧ Wlk (es.map wEd) s ms ∧ ms.length = l.length ∧ (stops s ms)[ms.length]? = ys[q]? ∧ costE ms = bitsAt ds q ∧ (stops s ms).Nodup ∧ ∀ z ∈ stops s ms, z ∈ ys ∧ rk (plc ys z) ≤ rk q := by
  obtain ⟨ord, hd⟩ := h.dj
  refine ⟨fun q => ord.idxOf q, fun l => ?_⟩
  induction l with
  | nil =>
    intro q hq hb
    have hb' : edgeAt ds q = 0 := hb
    have hqs : q = plc ys s := by
      by_cases e : q = plc ys s
      · exact e
      · obtain ⟨p2, k1, y, k2, k3, k4, -⟩ := hd.hang q (by rw [← hd.dl]; exact far_lt hq) hq e
        obtain ⟨-, x, m1, m2, m3⟩ := mem_wyF.1 k2
        rw [← m3, hb'] at k4
        have k4' : x.1 = 0 := k4
        have := h.good.lo x m1
        omega
    refine ⟨[], rfl, trivial, rfl, ?_, ?_, ?_, fun z hz => ?_⟩
    · rw [hqs, at_plc h.gk.rise h.good.src]; rfl
    · rw [hqs, hd.src.2.2.1]; rfl
    · simp [stops]
    · have : z = s := by simpa [stops] using hz
      rw [this, hqs]; exact ⟨h.good.src, Nat.le_refl _⟩
  | cons e l ih =>
    intro q hq hb
    obtain ⟨h1, h2, p2, h3, h4⟩ := hb
    have hq2 := hd.all hq
    have hne : q ≠ plc ys s := fun z => h2 (by rw [h1, z]; exact hd.src.2.2.2)
    obtain ⟨p3, k1, y, k2, k3, k4, k5, k6, k7⟩ := hd.hang q (by rw [← hd.dl]; exact far_lt hq) hq hne
    have hp : p2 = p3 := by rw [h3] at k6; have := Option.some.inj k6; exact_mod_cast this
    subst hp
    obtain ⟨-, x, m1, m2, m3⟩ := mem_wyF.1 k2
    have hpf := (hd.oin _ k1).2.1
    obtain ⟨ms, i1, i2, i3, i4, i5, i6, i7⟩ := ih p2 hpf h4
    obtain ⟨hu, hv⟩ := h.good.ends x m1
    have hqx : plc ys x.2.2.1 = q := by rw [← k3, ← m3]; rfl
    have hU : ys[p2]? = some x.2.1 := by rw [← m2]; exact at_plc h.gk.rise hu
    have hwt : (wEd x).2.2.2.toNat = wtN x := by show ((wtN x : Int)).toNat = wtN x; omega
    have hwl := wtN_le x
    refine ⟨ms ++ [wEd x], ?_, wlk_snoc i2 (by rw [i4]; exact hU) (List.mem_map.2 ⟨x, m1, rfl⟩), by simp [i3], ?_, ?_, ?_, fun z hz => ?_⟩
    · rw [List.map_append, i1, List.reverse_cons, h1, ← k4, ← m3]; rfl
    · rw [stops_app, List.length_append, List.length_singleton, List.getElem?_append_right (by rw [stops_len]; exact Nat.le_refl _), stops_len, Nat.sub_self, ← hqx, at_plc h.gk.rise hv]; rfl
    · rw [costE_app _ _ (by rw [hwt]; omega), hwt, i5, k5, ← m3]; rfl
    · rw [stops_app, List.nodup_append]
      refine ⟨i6, by simp, fun z hz u hu2 => ?_⟩
      have e2 : u = x.2.2.1 := List.mem_singleton.1 hu2
      rw [e2]
      intro e3
      have h5 := (i7 z hz).2
      rw [e3, hqx] at h5
      have := k7 hq2
      dsimp only at h5
      omega
    · rw [stops_app] at hz
      rcases List.mem_append.1 hz with z1 | z1
      · obtain ⟨j1, j2⟩ := i7 z z1
        have := k7 hq2
        dsimp only at j2 ⊢
        exact ⟨j1, by omega⟩
      · have e2 : z = x.2.2.1 := List.mem_singleton.1 z1
        rw [e2]
        dsimp only
        rw [hqx]
        exact ⟨hv, Nat.le_refl _⟩
/-- What the tree says is least. -/
theorem TreeAt.lst (h : TreeAt B W p s ys es ds fs) (hl : es.length ≤ 1000) : Lst ys (es.map wEd) s (farAt ds) (bitsAt ds) := by
  obtain ⟨ord, hd⟩ := h.dj
  have hg := gok h.good hl
  have hwt : ∀ x : EdV, (wEd x).2.2.2.toNat = wtN x := fun x => by show ((wtN x : Int)).toNat = wtN x; omega
  refine ⟨h.good.src, h.gk.rise, h.gk.len, by rw [List.length_map]; omega, fun y hy => ?_, ⟨hd.src.2.1, hd.src.2.2.1⟩, hd.le_, fun y hy hf => ?_, fun us h0 hc => ?_⟩
  · have h1 := hg.wt y hy
    obtain ⟨x, hx, rfl⟩ := List.mem_map.1 hy
    obtain ⟨e1, e2⟩ := h.good.ends x hx
    exact ⟨e1, e2, h1⟩
  · obtain ⟨x, hx, rfl⟩ := List.mem_map.1 hy
    obtain ⟨e1, e2⟩ := h.good.ends x hx
    have hm : wayOf ys x ∈ wyF ys es (plc ys x.2.1) := mem_wyF.2 ⟨plc_lt e1, x, hx, rfl, rfl⟩
    obtain ⟨j, hj⟩ := List.mem_iff_getElem?.1 hm
    have := hd.han _ (hd.all hf) j _ hj (fun e => by have := plc_lt e1; have e' : plc ys x.2.1 = ys.length := e; omega)
    rw [hwt]
    exact this
  · have key : ∀ (k q : Nat), ord.idxOf q = k → farAt ds q = false → uA us q ≤ bitsAt ds q := by
      intro k
      induction k using Nat.strongRecOn with
      | _ k ih =>
        intro q hk hf
        by_cases e : q = plc ys s
        · rw [e, h0]; exact Nat.zero_le _
        · have hq := hd.all hf
          obtain ⟨p2, hp, y, hy, y1, y2, y3, -, y5⟩ := hd.hang q (hd.oin q hq).1 hf e
          obtain ⟨-, x, m1, m2, m3⟩ := mem_wyF.1 hy
          have hi := ih (ord.idxOf p2) (by have := y5 hq; omega) p2 rfl (hd.oin p2 hp).2.1
          have hle := hd.le_ p2
          have h2 := hc (wEd x) (List.mem_map.2 ⟨x, m1, rfl⟩) (by show uA us (plc ys x.2.1) ≠ _; rw [m2]; omega)
          rw [hwt] at h2
          have h2' : uA us (plc ys x.2.2.1) ≤ M.addC (uA us (plc ys x.2.1)) (wtN x) := h2
          have hqx : plc ys x.2.2.1 = q := by rw [← y1, ← m3]; rfl
          rw [hqx, m2] at h2'
          refine Nat.le_trans h2' ?_
          rw [y3, ← m3]
          exact M.addC_mono (by omega) hle (by have := wtN_le x; show wtN x ≤ _; omega) hi
    exact fun q hq hf => key _ q rfl hf
end
end

section
open Go.RowKit Go.Maps
theorem infoTP : (Try.prog.info? 27).map (fun i => (i.methods.find? (·.name == "Path")).map (fun m => (m.path.toList, m.func))) = some (some ([], some (21, true))) := by kernel_rfl
theorem nilAheadT (k : Nat) (a : Addr) (y : World) : (nilAhead (k + 1) 27 (.pointer (some a)) "Path").run Try.prog y = .ok (some false) y := by
  have h := infoTP
  cases hi : Try.prog.info? 27 with
  | none => rw [hi] at h; cases h
  | some i =>
    rw [hi] at h
    have h : Option.map (fun m => (m.path.toList, m.func)) (i.methods.find? (·.name == "Path")) = some ([], some (21, true)) := Option.some.inj h
    cases hm : i.methods.find? (·.name == "Path") with
    | none => rw [hm] at h; cases h
    | some m =>
      rw [hm] at h
      have h := Option.some.inj h
      have h1 : m.path.toList = [] := congrArg Prod.fst h
      have h2 : m.func = some (21, true) := congrArg Prod.snd h
      simp [nilAhead, typeInfo, hi, hm, h1, h2, followBlind]
/-- What is so of the last edge of a path. -/
theorem TreeAt.hangs {B : Nat} {W : World} {p : Nat} {s : Int} {ys : List Int} {es : List EdV} {ds : List DiV} {fs : List Int} (h : TreeAt B W p s ys es ds fs) {q : Nat} (hq : farAt ds q = false) {e : Int} {l : List Int} (hb : Back ds fs q (e :: l)) :
    ∃ (x : EdV) (k : Nat), (es.map wEd)[k]? = some (wEd x) ∧ x.1 = e ∧ edgeAt ds q = e ∧ askC ys ds x.2.1 = 0 ∧ Back ds fs (plc ys x.2.1) l := by
  obtain ⟨h1, h2, p2, h3, h4⟩ := hb
  obtain ⟨x, m1, m2, m3, m4, m5, m6⟩ := h.last hq (by rw [← h1]; exact h2)
  have hp : p2 = plc ys x.2.1 := by rw [h3] at m6; have := Option.some.inj m6; exact_mod_cast this
  subst hp
  obtain ⟨k, hk⟩ := List.mem_iff_getElem?.1 m1
  exact ⟨x, k, by rw [List.getElem?_map, hk]; rfl, by rw [m2, h1], h1.symm, ask_ok.2 ⟨(h.good.ends x m1).1, m4⟩, h4⟩
set_option maxHeartbeats 4000000 in
set_option maxRecDepth 100000 in
theorem hangsR {B : Nat} {w : World} {p : Nat} {s : Int} {ys : List Int} {es : List EdV} {ds : List DiV} {fs : List Int} {vv ev pv : Value} {rd wr0 last : Int} {q : Nat} {l : List Int} (hT : TreeAt B w p s ys es ds fs) (hE : ERow 0 w ev (es.map wEd)) (hl : es.length ≤ 1000) (hq : farAt ds q = false) (hb : Back ds fs q l) (hp : NRow w pv l.reverse) (hll : l.length ≤ 1001) (hlast : last = edgeAt ds q) :
    Calls Try.prog 33 #[.iface 27 (.pointer (some ⟨p, 0, none⟩)), .agg #[vv, ev, .int .i64 rd, .int .i64 wr0], pv, .int .i64 last] w fun e w' => e = .returned (.bool true) ∧ Hid (Below w.heap.size w w') := by
  have hbn := below_new w (oGr vv ev rd wr0)
  have hbx := heap_alloc_new w (oGr vv ev rd wr0)
  obtain ⟨gb, hgb⟩ : ∃ gb, gb = w.heap.size := ⟨_, rfl⟩
  obtain ⟨pa, pc, rfl, -⟩ := brow_shape hp
  rw [List.length_reverse] at hp ⊢
  cases l with
  | nil =>
    have hz : edgeAt ds q = 0 := hb
    have HB := hide hbn
    rw [hlast, hz]
    clear hT hE hl hq hb hp hll hlast hz hbx hgb
    go_enter Try.func33, Try.ntmps33
    unfold oGr at HB
    go_wp2_with fail
    go_ret
    exact ⟨rfl, HB⟩
  | cons e l =>
    obtain ⟨x, k, m1, m2, m3, m4, m5⟩ := hT.hangs hq hb
    have hg := gok hT.good hl
    have hm3 : last = x.1 := by rw [hlast, m3, m2]
    obtain ⟨gp, rfl⟩ := brow_some hp (by simp)
    obtain ⟨ea, ec, rfl⟩ := rrow_shape hE
    obtain ⟨ge, rfl⟩ := rrow_some hE (by have := (List.getElem?_eq_some_iff.1 m1).1; omega)
    obtain ⟨m, hm⟩ : ∃ m, m = (es.map wEd).length := ⟨_, rfl⟩
    rw [← hm] at hE hbn hbx ⊢
    obtain ⟨n, hn⟩ : ∃ n, n = l.length := ⟨_, rfl⟩
    have hkm : k < m := by rw [hm]; exact (List.getElem?_eq_some_iff.1 m1).1
    obtain ⟨W1, hW1⟩ : ∃ W1, W1 = w.alloc (oGr vv (.slice (some ⟨ge, 0, none⟩) m ec) rd wr0) := ⟨_, rfl⟩
    rw [← hW1] at hbn hbx
    rw [← hgb] at hbx
    have hgl : gb < W1.heap.size := (Array.getElem?_eq_some_iff.1 hbx).1
    have hrev : (e :: l).reverse = l.reverse ++ [e] := List.reverse_cons
    have hlen : (e :: l).length = n + 1 := by rw [hn]; rfl
    rw [hlen] at hp ⊢
    have HX : Hid (∀ W, Below W1.heap.size W1 W → ((W.cell? ⟨gb, 0, none⟩ = some vv ∧ W.cell? ⟨gb, 1, none⟩ = some (.slice (some ⟨ge, 0, none⟩) m ec) ∧ W.cell? ⟨gb, 2, none⟩ = some (.int .i64 rd) ∧ W.cell? ⟨gb, 3, none⟩ = some (.int .i64 wr0)) ∧ W.cell? ⟨ge, k * 4 + 1, none⟩ = some (.int .i64 x.2.1)) ∧ W.cell? ⟨gp, n, none⟩ = some (.int .i64 x.1) ∧ NRow W (.slice (some ⟨gp, 0, none⟩) n pc) l.reverse ∧ Below w.heap.size w W ∧ TreeAt B W p s ys es ds fs ∧ Calls Try.prog 62 #[.agg #[vv, .slice (some ⟨ge, 0, none⟩) m ec, .int .i64 rd, .int .i64 wr0], .int .i64 x.1] W fun r w' => r = .returned (.int .i64 (k : Nat)) ∧ Hid (Below W.heap.size W w')) := fun W hW => by
      obtain ⟨c0, c1, c2, c3, -⟩ := cellsGr ((hW.block gb hgl).trans hbx)
      have hB := hbn.trans (hW.mono hbn.size)
      have hE' := rrow_below hE hB
      have hp' := nrow_below hp hB
      obtain ⟨-, q1, -, -⟩ := erow_at hE' m1
      have ha := atR (vv := vv) (rd := rd) (wr := wr0) (e := x.1) hE' (by have := hg.len; omega)
      have ha2 : atOf (es.map wEd) (wEd x).1 = (k : Int) := atOf_some hg.nd m1
      have ha3 : atOf (es.map wEd) x.1 = (k : Int) := ha2
      rw [ha3] at ha
      have ht := brow_take hp' (m := n) (by omega)
      rw [hrev, List.take_left' (by rw [List.length_reverse, hn])] at ht
      have hq1 := brow_at hp' (j := n) (e := e) (by rw [hrev, List.getElem?_append_right (by rw [List.length_reverse]; omega), List.length_reverse, hn, Nat.sub_self]; rfl)
      exact ⟨⟨⟨c0, c1, c2, c3⟩, q1⟩, by rw [m2]; exact hq1, ht, hB, hT.below hB, ha⟩
    have HP : Hid (∀ W, Below W1.heap.size W1 W → Calls Try.prog 21 #[.pointer (some ⟨p, 0, none⟩), .int .i64 x.2.1] W fun e w' => ∃ a n c, e = .returned (.tuple #[.slice a n c, .int .i64 0]) ∧ Hid (NRow w' (.slice a n c) l.reverse ∧ Below W.heap.size W w')) := fun W hW => by
      have h1 := pathT (unhide HX W hW).2.2.2.2.1 x.2.1
      rw [m4] at h1
      refine h1.mono ?_
      rintro r w' ⟨a, n, c, rfl, H⟩
      obtain ⟨b1, -, b3⟩ := unhide H
      obtain ⟨l2, b4, b5, -, -⟩ := b3 m4
      have e2 := back_one b4 m5
      subst e2
      exact ⟨a, n, c, rfl, brow_at0 b5, b1⟩
    have HN : Hid (n = l.length ∧ n ≤ 1001) := ⟨hn, by simp at hll; omega⟩
    have hcap : n + 1 ≤ pc := by
      rcases hp.2 with ⟨e, -⟩ | ⟨g', cap, cur, e, -, -, hc, -⟩
      · cases e
      · injection e with e1 e2 e3
        simp at hc; omega
    have z0 : (((n + 1 : Nat) : Int) == 0) = false := by simpa using (by omega : ¬ ((n : Int) + 1 = 0))
    obtain ⟨n1, hn1⟩ : ∃ n1, n1 = n + 1 := ⟨_, rfl⟩
    rw [← hn1] at z0 hcap ⊢
    have zm : wrap64 ((n1 : Int) - 1) = (n : Int) := by have := (unhide HN).2; unfold wrap64; omega
    have z1 : (n : Int) < (n1 : Int) := by omega
    have z2 : (n : Int) ≤ (pc : Int) := by omega
    have z3 : (k : Int) < (m : Int) := by omega
    have ea : (if pc = 0 then some (⟨gp, 0, none⟩ : Addr) else some (Addr.add ⟨gp, 0, none⟩ 0)) = some ⟨gp, 0, none⟩ := by simp [Addr.add]
    obtain ⟨⟨⟨c0, c1, c2, c3⟩, q1⟩, q2, -, -, -, hA⟩ := unhide HX W1 (Below.refl _ _)
    have hna : ∀ y : World, (nilAhead 262 27 (.pointer (some ⟨p, 0, none⟩)) "Path").run Try.prog y = .ok (some false) y := fun y => nilAheadT 261 _ y
    have HW1 := hide hW1
    have HGB := hide hgb
    rw [hm3]
    clear hT hE hl hq hb hp hll hlast hbn hbx hgb m1 m2 m3 m4 m5 hg hm3 hm hn hkm hW1 hgl hrev hlen hcap hn1 hA
    go_enter Try.func33, Try.ntmps33
    go_upto_region 1 with fail
    rw [show w.alloc (.cells #[vv, .slice (some ⟨ge, 0, none⟩) m ec, .int .i64 rd, .int .i64 wr0] 34 (0, 0)) = W1 from (unhide HW1).symm, ← unhide HGB]
    clear HW1 HGB
    go_upto_region 4 with fail
    have HZ := hide (And.intro zm (And.intro z1 (And.intro z2 ea)))
    clear zm z1 z2 ea
    refine wp_region_noPanic ?_
    refine regionL [] (fun y => (y.cell? ⟨gb, 0, none⟩ = some vv ∧ y.cell? ⟨gb, 1, none⟩ = some (.slice (some ⟨ge, 0, none⟩) m ec) ∧ y.cell? ⟨gb, 2, none⟩ = some (.int .i64 rd) ∧ y.cell? ⟨gb, 3, none⟩ = some (.int .i64 wr0)) ∧ y.cell? ⟨ge, k * 4 + 1, none⟩ = some (.int .i64 x.2.1)) (by kernel_rfl) ⟨⟨c0, c1, c2, c3⟩, q1⟩ (fun hHeld => ?_)
    refine takeL (i := 0) (v := ?t2v0) (some 19) rfl rfl (by kernel_rfl) (by kernel_rfl) (by kernel_rfl) (by kernel_rfl) (by kernel_rfl) (fun _ _ _ h => h) (Or.inl ⟨by rfl, ?t2h0⟩) (by assumption) ?t2r0
    case t2h0 => (intro y hSu; (try dsimp only at hSu); go_simp; first | done | with_reducible rfl)
    (try simp only [Act.put, List.setIfInBounds_toArray, List.set_cons_zero, List.set_cons_succ])
    refine takeL (i := 1) (v := ?t2v1) (some 20) rfl rfl (by kernel_rfl) (by kernel_rfl) (by kernel_rfl) (by kernel_rfl) (by kernel_rfl) (fun _ _ _ h => h) (Or.inl ⟨by rfl, ?t2h1⟩) (by assumption) ?t2r1
    case t2h1 => (intro y hSu; (try dsimp only at hSu); go_simp; first | done | with_reducible rfl)
    (try simp only [Act.put, List.setIfInBounds_toArray, List.set_cons_zero, List.set_cons_succ])
    refine takeL (i := 2) (v := ?t2v2) (some 21) rfl rfl (by kernel_rfl) (by kernel_rfl) (by kernel_rfl) (by kernel_rfl) (by kernel_rfl) (fun _ _ _ h => h) (Or.inl ⟨by rfl, ?t2h2⟩) (by assumption) ?t2r2
    case t2h2 => (intro y hSu; (try dsimp only at hSu); go_simp; first | done | with_reducible rfl)
    (try simp only [Act.put, List.setIfInBounds_toArray, List.set_cons_zero, List.set_cons_succ])
    refine takeL (i := 3) (v := ?t2v3) (some 22) rfl rfl (by kernel_rfl) (by kernel_rfl) (by kernel_rfl) (by kernel_rfl) (by kernel_rfl) (fun _ _ _ h => h) (Or.inl ⟨by rfl, ?t2h3⟩) (by assumption) ?t2r3
    case t2h3 => (intro y hSu; (try dsimp only at hSu); go_simp; first | done | with_reducible rfl)
    (try simp only [Act.put, List.setIfInBounds_toArray, List.set_cons_zero, List.set_cons_succ])
    refine takeL (i := 4) (v := ?t2v4) (some 23) rfl rfl (by kernel_rfl) (by kernel_rfl) (by kernel_rfl) (by kernel_rfl) (by kernel_rfl) (fun _ _ _ h => h) (Or.inl ⟨by rfl, ?t2h4⟩) (by assumption) ?t2r4
    case t2h4 => (intro y hSu; (try dsimp only at hSu); go_simp; first | done | with_reducible rfl)
    (try simp only [Act.put, List.setIfInBounds_toArray, List.set_cons_zero, List.set_cons_succ])
    refine takeL (i := 9) (v := ?t3v9) (some 28) rfl rfl (by kernel_rfl) (by kernel_rfl) (by kernel_rfl) (by kernel_rfl) (by kernel_rfl) (fun _ _ _ h => h) (Or.inl ⟨by rfl, ?t3h9⟩) (by assumption) ?t3r9
    case t3h9 => (intro y hSu; (try dsimp only at hSu); go_simp; first | done | with_reducible rfl)
    (try simp only [Act.put, List.setIfInBounds_toArray, List.set_cons_zero, List.set_cons_succ])
    refine takeL (i := 10) (v := ?t3v10) (some 29) rfl rfl (by kernel_rfl) (by kernel_rfl) (by kernel_rfl) (by kernel_rfl) (by kernel_rfl) (fun _ _ _ h => h) (Or.inl ⟨by rfl, ?t3h10⟩) (by assumption) ?t3r10
    case t3h10 => (intro y hSu; (try dsimp only at hSu); go_simp; first | done | with_reducible rfl)
    (try simp only [Act.put, List.setIfInBounds_toArray, List.set_cons_zero, List.set_cons_succ])
    refine takeL (i := 11) (v := ?t3v11) (some 30) rfl rfl (by kernel_rfl) (by kernel_rfl) (by kernel_rfl) (by kernel_rfl) (by kernel_rfl) (fun _ _ _ h => h) (Or.inl ⟨by rfl, ?t3h11⟩) (by assumption) ?t3r11
    case t3h11 => (intro y hSu; (try dsimp only at hSu); go_simp; first | done | with_reducible rfl)
    (try simp only [Act.put, List.setIfInBounds_toArray, List.set_cons_zero, List.set_cons_succ])
    refine readyL (i := 5) (by kernel_rfl) rfl (fun K hK => ?_)
    go_simp
    refine (unhide HX _ (below_drewN (Below.refl _ _) 1)).2.2.2.2.2.mono ?_
    rintro e1 w2 ⟨rfl, hb2⟩
    have HB2 : Hid (Below W1.heap.size W1 w2) := (below_drewN (Below.refl W1.heap.size W1) 1).trans ((unhide hb2).mono (below_drewN (Below.refl W1.heap.size W1) 1).size)
    clear hb2
    have HO := hide (unhide HX w2 (unhide HB2)).1
    (try dsimp only)
    refine hK.out _ _ (fun _ => (unhide HO)) ?_
    clear hK K
    (try simp only [Act.put, List.setIfInBounds_toArray, List.set_cons_zero, List.set_cons_succ])
    have hH5 := (unhide HO)
    refine takeL (i := 6) (v := ?t6v6) (some 25) rfl rfl (by kernel_rfl) (by kernel_rfl) (by kernel_rfl) (by kernel_rfl) (by kernel_rfl) (fun _ _ _ h => h) (Or.inl ⟨by rfl, ?t6h6⟩) (by assumption) ?t6r6
    case t6h6 => (intro y hSu; (try dsimp only at hSu); go_simp; first | done | with_reducible rfl)
    (try simp only [Act.put, List.setIfInBounds_toArray, List.set_cons_zero, List.set_cons_succ])
    refine takeL (i := 7) (v := ?t6v7) (some 26) rfl rfl (by kernel_rfl) (by kernel_rfl) (by kernel_rfl) (by kernel_rfl) (by kernel_rfl) (fun _ _ _ h => h) (Or.inl ⟨by rfl, ?t6h7⟩) (by assumption) ?t6r7
    case t6h7 => (intro y hSu; (try dsimp only at hSu); go_simp; first | done | with_reducible rfl)
    (try simp only [Act.put, List.setIfInBounds_toArray, List.set_cons_zero, List.set_cons_succ])
    refine takeL (i := 8) (v := ?t6v8) (some 27) rfl rfl (by kernel_rfl) (by kernel_rfl) (by kernel_rfl) (by kernel_rfl) (by kernel_rfl) (fun _ _ _ h => h) (Or.inl ⟨by rfl, ?t6h8⟩) (by assumption) ?t6r8
    case t6h8 => (intro y hSu; (try dsimp only at hSu); go_simp; first | done | with_reducible rfl)
    (try simp only [Act.put, List.setIfInBounds_toArray, List.set_cons_zero, List.set_cons_succ])
    refine readyL (i := 12) (by kernel_rfl) rfl (fun K hK => ?_)
    go_simp
    go_invoke
    go_simp
    refine (unhide HP w2 (unhide HB2)).mono ?_
    rintro e1 w3 ⟨a3, n3, c3', rfl, H3⟩
    have HB3 : Hid (Below W1.heap.size W1 w3) := (unhide HB2).trans ((unhide H3).2.mono (unhide HB2).size)
    have HO3 := hide (unhide HX w3 (unhide HB3))
    (try dsimp only)
    refine hK.out _ _ (fun _ => (unhide HO3).1) ?_
    clear hK K
    (try simp only [Act.put, List.setIfInBounds_toArray, List.set_cons_zero, List.set_cons_succ])
    have hH8 := (unhide HO3).1
    refine takeL (i := 13) (v := ?t9v13) (some 18) rfl rfl (by kernel_rfl) (by kernel_rfl) (by kernel_rfl) (by kernel_rfl) (by kernel_rfl) (fun _ _ _ h => h) (Or.inl ⟨by rfl, ?t9h13⟩) (by assumption) ?t9r13
    case t9h13 => (intro y hSu; (try dsimp only at hSu); go_simp; first | done | with_reducible rfl)
    (try simp only [Act.put, List.setIfInBounds_toArray, List.set_cons_zero, List.set_cons_succ])
    refine takeL (i := 14) (v := ?t9v14) (some 32) rfl rfl (by kernel_rfl) (by kernel_rfl) (by kernel_rfl) (by kernel_rfl) (by kernel_rfl) (fun _ _ _ h => h) (Or.inl ⟨by rfl, ?t9h14⟩) (by assumption) ?t9r14
    case t9h14 => (intro y hSu; (try dsimp only at hSu); go_simp; first | done | with_reducible rfl)
    (try simp only [Act.put, List.setIfInBounds_toArray, List.set_cons_zero, List.set_cons_succ])
    refine takeL (i := 15) (v := ?t9v15) (some 33) rfl rfl (by kernel_rfl) (by kernel_rfl) (by kernel_rfl) (by kernel_rfl) (by kernel_rfl) (fun _ _ _ h => h) (Or.inl ⟨by rfl, ?t9h15⟩) (by assumption) ?t9r15
    case t9h15 => (intro y hSu; (try dsimp only at hSu); go_simp; first | done | with_reducible rfl)
    (try simp only [Act.put, List.setIfInBounds_toArray, List.set_cons_zero, List.set_cons_succ])
    refine takeL (i := 16) (v := ?t9v16) (some 10) rfl rfl (by kernel_rfl) (by kernel_rfl) (by kernel_rfl) (by kernel_rfl) (by kernel_rfl) (fun _ _ _ h => h) (Or.inl ⟨by rfl, ?t9h16⟩) (by assumption) ?t9r16
    case t9h16 => (intro y hSu; (try dsimp only at hSu); go_simp; first | done | with_reducible rfl)
    (try simp only [Act.put, List.setIfInBounds_toArray, List.set_cons_zero, List.set_cons_succ])
    refine takeL (i := 17) (v := ?t9v17) (some 11) rfl rfl (by kernel_rfl) (by kernel_rfl) (by kernel_rfl) (by kernel_rfl) (by kernel_rfl) (fun _ _ _ h => h) (Or.inl ⟨by rfl, ?t9h17⟩) (by assumption) ?t9r17
    case t9h17 => (intro y hSu; (try dsimp only at hSu); go_simp; first | done | with_reducible rfl)
    (try simp only [Act.put, List.setIfInBounds_toArray, List.set_cons_zero, List.set_cons_succ])
    refine doneL (by kernel_rfl) ?_ _
    refine NoPanic.normal ?_
    clear hHeld c0 c1 c2 c3 q1 q2 HO
    obtain ⟨zm, z1, z2, ea⟩ := unhide HZ
    obtain ⟨-, q2, hr, hB, -, -⟩ := unhide HO3
    have CS := hide (sameInts9 (unhide H3).1 hr (by rw [List.length_reverse]; have := unhide HN; omega))
    rw [decide_eq_true rfl] at CS
    have HB := hide hB
    clear HO3 HX HP H3 hr hB HB2 HB3 HZ hna
    go_wp2_with fail
    refine (unhide CS).mono ?_
    rintro e1 w4 ⟨rfl, q4, hw4⟩
    have HB4 : Hid (Below w.heap.size w w4) := by
      show Below w.heap.size w w4
      rw [hw4]; exact below_drewN (unhide HB) q4
    clear CS hw4
    go_wp2_with fail
    go_ret
    exact ⟨rfl, HB4⟩
end

end Go.Proofs.Ytijgeoegeeejcaa
