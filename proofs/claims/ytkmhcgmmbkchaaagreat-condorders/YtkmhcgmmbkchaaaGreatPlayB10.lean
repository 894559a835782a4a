/- Play, kind 2: DropVertex. -/
import Derived.Test.YtkmhcgmmbkchaaaGreatAsk10
import Derived.Test.YtkmhcgmmbkchaaaGreatR106
namespace Go.Proofs.YtkmhcgmmbkchaaaGreat

section
open Go.RowKit Go.Maps T9
/-- A call, in a box. -/
def oOp (k e u v : Int) : Obj := .cells #[.int .i64 k, .int .i64 e, .int .i64 u, .int .i64 v] 33 (0, 0)
theorem cellsOp {w : World} {b : Nat} {k e u v : Int} (h : w.heap[b]? = some (oOp k e u v)) : w.cell? ⟨b, 0, none⟩ = some (.int .i64 k) ∧ w.cell? ⟨b, 1, none⟩ = some (.int .i64 e) ∧ w.cell? ⟨b, 2, none⟩ = some (.int .i64 u) ∧ w.cell? ⟨b, 3, none⟩ = some (.int .i64 v) :=
  ⟨(cell_of_row _ _ 0 _ _ (0, 0) h).trans rfl, (cell_of_row _ _ 1 _ _ (0, 0) h).trans rfl, (cell_of_row _ _ 2 _ _ (0, 0) h).trans rfl, (cell_of_row _ _ 3 _ _ (0, 0) h).trans rfl⟩
/-- The three boxes of Play: the graph, the call, the answer. -/
structure PG (L0 : Nat → Nat) (w : World) (bb : Nat) (vv ev : Value) (rd wr k e u v : Int) (L : Nat → Nat) (W : World) : Prop where
  ch : Ch L0 w L W
  box : W.heap[bb]? = some (oG vv ev rd wr)
  op : W.heap[bb + 1]? = some (oOp k e u v)
  res : W.heap[bb + 2]? = some oZ
  l0 : L bb = 0
  l1 : L (bb + 1) = 0
  l2 : L (bb + 2) = 0
  sz : bb = w.heap.size
/-- The graph's lists: nobody else's blocks. -/
structure RS (bb : Nat) (vv0 ev0 vv ev : Value) (V : List Int) (es : List EdV) (L : Nat → Nat) (W : World) : Prop where
  vs : NRow W vv V
  es_ : GRow 0 W ev es
  lv : ∀ b, vv.ownBlock = some b → L b = 0 ∧ (b < bb ∨ bb + 2 < b) ∧ (vv0.ownBlock = some b ∨ bb ≤ b)
  le : ∀ b, ev.ownBlock = some b → L b = 0 ∧ (b < bb ∨ bb + 2 < b) ∧ (ev0.ownBlock = some b ∨ bb ≤ b)
section
variable {L0 L L' : Nat → Nat} {w W W' : World} {bb : Nat} {vv0 ev0 vv ev : Value} {rd wr k e u v : Int} {V : List Int} {es : List EdV}
theorem PG.next (h : PG L0 w bb vv ev rd wr k e u v L W) (hc : Ch L W L' W') : PG L0 w bb vv ev rd wr k e u v L' W' := by
  have q0 := heap_lt h.box
  have q1 := heap_lt h.op
  have q2 := heap_lt h.res
  exact ⟨h.ch.trans hc, (hc.tur.block _ q0 (fun z => z h.l0)).trans h.box, (hc.tur.block _ q1 (fun z => z h.l1)).trans h.op, (hc.tur.block _ q2 (fun z => z h.l2)).trans h.res, (hc.lab_ _ q0).trans h.l0, (hc.lab_ _ q1).trans h.l1, (hc.lab_ _ q2).trans h.l2, h.sz⟩
theorem PG.setG (h : PG L0 w bb vv ev rd wr k e u v L W) (v1 e1 : Value) (rd1 wr1 : Int) : PG L0 w bb v1 e1 rd1 wr1 k e u v L (set4 W bb v1 e1 (.int .i64 rd1) (.int .i64 wr1)) := by
  have hsz := h.sz
  refine ⟨⟨h.ch.lab_, ?_⟩, set4G_at h.box _ _ _ _, (set4_other (by omega) _ _ _ _).trans h.op, (set4_other (by omega) _ _ _ _).trans h.res, h.l0, h.l1, h.l2, h.sz⟩
  have ht := h.ch.tur
  have hb := set4_below (Below.refl bb W) (Nat.le_refl bb) v1 e1 (.int .i64 rd1) (.int .i64 wr1)
  exact ⟨hb.os.trans ht.os, hb.tape.trans ht.tape, hb.output.trans ht.output, Nat.le_trans ht.size hb.size, fun b hl hn => (hb.block b (by omega)).trans (ht.block b hl hn)⟩
theorem RS.next (h : RS bb vv0 ev0 vv ev V es L W) (hc : Ch L W L' W') : RS bb vv0 ev0 vv ev V es L' W' :=
  ⟨nrow_kept h.vs (fun b e => hc.tur.block b (h.vs.lt b e).2 (fun z => z (h.lv b e).1)), grow_kept h.es_ (fun b e => hc.tur.block b (h.es_.lt b e).2 (fun z => z (h.le b e).1)), fun b e => ⟨(hc.lab_ b (h.vs.lt b e).2).trans (h.lv b e).1, (h.lv b e).2⟩, fun b e => ⟨(hc.lab_ b (h.es_.lt b e).2).trans (h.le b e).1, (h.le b e).2⟩⟩
theorem RS.set {g : Nat} (h : RS bb vv0 ev0 vv ev V es L W) (h1 : bb ≤ g) (h2 : g ≤ bb + 2) (a b c d : Value) : RS bb vv0 ev0 vv ev V es L (set4 W g a b c d) :=
  ⟨nrow_kept h.vs (fun x e => set4_other (by have := (h.lv x e).2.1; omega) _ _ _ _), grow_kept h.es_ (fun x e => set4_other (by have := (h.le x e).2.1; omega) _ _ _ _), h.lv, h.le⟩
theorem ch_set {g : Nat} (h : Ch L0 w L W) (hg : w.heap.size ≤ g) (a b c d : Value) : Ch L0 w L (set4 W g a b c d) := by
  have ht := h.tur
  have hb := set4_below (Below.refl g W) (Nat.le_refl g) a b c d
  exact ⟨h.lab_, ⟨hb.os.trans ht.os, hb.tape.trans ht.tape, hb.output.trans ht.output, Nat.le_trans ht.size hb.size, fun x hl hn => (hb.block x (by omega)).trans (ht.block x hl hn)⟩⟩
end
theorem KSt.kept {L : Nat → Nat} {w w' : World} {c p m ma ml me : Nat} {lk : Int} {V : List Int} {es : List EdV} {N : Nat} (h : KSt L w c p m ma ml me lk V es N) (hk : ∀ b, b < w.heap.size → L b ≠ 0 → w'.heap[b]? = w.heap[b]?) : KSt L w' c p m ma ml me lk V es N := by
  obtain ⟨S, h1, h2⟩ := h
  exact ⟨S, h1.kept hk, h2⟩
theorem KSt.set {L : Nat → Nat} {w : World} {c p m ma ml me : Nat} {lk : Int} {V : List Int} {es : List EdV} {N : Nat} {g : Nat} (h : KSt L w c p m ma ml me lk V es N) (hg : L g = 0) (x y z t : Value) : KSt L (set4 w g x y z t) c p m ma ml me lk V es N := h.kept (fun b _ hl => set4_other (fun e => hl (by rw [e]; exact hg)) _ _ _ _)
theorem KSt.named {L : Nat → Nat} {w : World} {c p m ma ml me : Nat} {lk : Int} {V : List Int} {es : List EdV} {N : Nat} (h : KSt L w c p m ma ml me lk V es N) (k : Nat) : KSt (lab L w.heap.size k) w c p m ma ml me lk V es N := by
  obtain ⟨S, h1, h2⟩ := h
  exact ⟨S, h1.named k, h2⟩
theorem KSt.mono {L : Nat → Nat} {w : World} {c p m ma ml me : Nat} {lk : Int} {V : List Int} {es : List EdV} {N M : Nat} (h : KSt L w c p m ma ml me lk V es N) (hm : N ≤ M) : KSt L w c p m ma ml me lk V es M := by
  obtain ⟨S, h1, h2⟩ := h
  exact ⟨S, h1.mono hm, h2⟩
theorem KGo.mono {L : Nat → Nat} {w w' : World} {c p m ma ml me : Nat} {lk : Int} {V : List Int} {es : List EdV} {N M : Nat} (h : KGo L w c p m ma ml me lk V es N w') (hm : N ≤ M) : KGo L w c p m ma ml me lk V es M w' := by
  obtain ⟨L', h1, h2⟩ := h
  exact ⟨L', h1.mono hm, h2⟩
theorem three_boxesP (w : World) (o o2 : Obj) : (((w.alloc o).alloc o2).alloc oZ).heap[w.heap.size]? = some o ∧ (((w.alloc o).alloc o2).alloc oZ).heap[w.heap.size + 1]? = some o2 ∧ (((w.alloc o).alloc o2).alloc oZ).heap[w.heap.size + 2]? = some oZ ∧ Below w.heap.size w (((w.alloc o).alloc o2).alloc oZ) ∧ (((w.alloc o).alloc o2).alloc oZ).heap.size = w.heap.size + 3 := by
  have s1 : (w.alloc o).heap.size = w.heap.size + 1 := by simp
  have s2 : ((w.alloc o).alloc o2).heap.size = w.heap.size + 2 := by simp
  have s3 : (((w.alloc o).alloc o2).alloc oZ).heap.size = w.heap.size + 3 := by simp
  have b1 := below_new w o
  have b2 := below_new (w.alloc o) o2
  have b3 := below_new ((w.alloc o).alloc o2) oZ
  have n1 := heap_alloc_new w o
  have n2 := heap_alloc_new (w.alloc o) o2
  have n3 := heap_alloc_new ((w.alloc o).alloc o2) oZ
  rw [s1] at n2
  rw [s2] at n3
  exact ⟨(b3.block _ (by omega)).trans ((b2.block _ (by omega)).trans n1), (b3.block _ (by omega)).trans n2, n3, b1.trans ((b2.mono (by omega)).trans (b3.mono (by omega))), s3⟩
/-- What is looked at, as the law asks it. -/
def Bd (k e u v : Int) (V : List Int) (es : List EdV) (lk : Int) (es' : List EdV) (lk' : Int) : Prop :=
  (es'.length = es.length ∧ lk' = lk) ∨
  (k = 3 ∧ es'.length = es.length + 1 ∧ u ∈ V ∧ v ∈ V ∧ ∃ d : Nat, lk' = (d : Int) ∧ (Mut (AE es) u v → d = 0) ∧ d ≤ 2 * V.length) ∨
  (k = 4 ∧ ∃ (i : Nat) (u' v' b : Int), es[i]? = some (e, u', v', b) ∧ es'.length + 1 = es.length ∧ ∃ d : Nat, lk' = (d : Int) ∧ (u' = v' ∨ ¬ Mut (AE es) u' v' → d = 0) ∧ ∀ zs : List Int, (∀ z, z ∈ V → Mut (AE es) u' z → z ∈ zs) → d ≤ 2 * zs.length)
/-- What Play answers. -/
def PlayAns (L : Nat → Nat) (w : World) (c p m ma ml me : Nat) (lk : Int) (V : List Int) (es : List EdV) (N : Nat) (vv ev : Value) (rd wr k e u v : Int) (r : Ending) (w' : World) : Prop :=
  ∃ vv' ev' wr' V' es' lk' L', r = .returned (.tuple #[.agg #[vv', ev', .int .i64 rd, .int .i64 wr'], .bool true]) ∧ KSt L' w' c p m ma ml me lk' V' es' (N + 3) ∧ GOk V' es' (N + 3) ∧ Ch L w L' w' ∧ NRow w' vv' V' ∧ GRow 0 w' ev' es' ∧ (∀ b, vv'.ownBlock = some b → L' b = 0 ∧ (vv.ownBlock = some b ∨ w.heap.size ≤ b)) ∧ (∀ b, ev'.ownBlock = some b → L' b = 0 ∧ (ev.ownBlock = some b ∨ w.heap.size ≤ b)) ∧ wr ≤ wr' ∧ wr' ≤ wr + 1 ∧ Bd k e u v V es lk es' lk'
/-- What the reference's call and then the index's call do, in one word. -/
def Pair (_L : Nat → Nat) (c p m ma ml me : Nat) (lk : Int) (V : List Int) (es : List EdV) (N : Nat) (wr k e u v : Int) (vv ev : Value) (W : World) (C : (Ending → World → Prop) → World → Prop) (x : Value) (v1 e1 : Value) (wr1 : Int) (w2 : World) : Prop :=
  ∃ V' es', NRow w2 v1 V' ∧ GRow 0 w2 e1 es' ∧ Below W.heap.size W w2 ∧ Apt W vv v1 ∧ Apt W ev e1 ∧ wr ≤ wr1 ∧ wr1 ≤ wr + 1 ∧ GOk V' es' (N + 3) ∧
    ∀ L2 W2, KSt L2 W2 c p m ma ml me lk V es N → C (fun r w' => r = .returned x ∧ Hid (∃ lk', KGo L2 W2 c p m ma ml me lk' V' es' (N + 3) w' ∧ Bd k e u v V es lk es' lk')) W2
/-- Behind all: the answer. -/
theorem play_end {L L2 L4 : Nat → Nat} {w w3 w4 : World} {c p m ma ml me : Nat} {lk lk' : Int} {V V' : List Int} {es es' : List EdV} {N bb : Nat} {rd wr wr1 k e u v : Int} {vv ev v1 e1 : Value} {a b c' d : Value} (hP : PG L w bb v1 e1 rd wr1 k e u v L2 w3) (hR : RS bb vv ev v1 e1 V' es' L2 w3) (hK : KSt L4 w4 c p m ma ml me lk' V' es' (N + 3)) (hC : Ch L2 w3 L4 w4) (hG : GOk V' es' (N + 3)) (hw1 : wr ≤ wr1) (hw2 : wr1 ≤ wr + 1) (hB : Bd k e u v V es lk es' lk') :
    PlayAns L w c p m ma ml me lk V es N vv ev rd wr k e u v (.returned (.tuple #[.agg #[v1, e1, .int .i64 rd, .int .i64 wr1], .bool true])) (set4 w4 (bb + 2) a b c' d) := by
  have P4 := hP.next hC
  have R4 := (hR.next hC).set (g := bb + 2) (by omega) (by omega) a b c' d
  exact ⟨v1, e1, wr1, V', es', lk', L4, rfl, hK.set P4.l2 _ _ _ _, hG, ch_set P4.ch (by have := P4.sz; omega) _ _ _ _, R4.vs, R4.es_, fun x hx => ⟨(R4.lv x hx).1, by rw [← P4.sz]; exact (R4.lv x hx).2.2⟩, fun x hx => ⟨(R4.le x hx).1, by rw [← P4.sz]; exact (R4.le x hx).2.2⟩, hw1, hw2, hB⟩
/-- The boxes and the rows behind the reference's call. -/
theorem play_mid {L : Nat → Nat} {w w2 : World} {bb : Nat} {vv ev v1 e1 : Value} {rd wr wr1 k e u v : Int} {V' : List Int} {es' : List EdV} {wb : World} {Lz : Nat → Nat} (hLz : Lz = lab L w.heap.size 0) (hP : PG L w bb vv ev rd wr k e u v Lz wb) (hv : ∀ b, vv.ownBlock = some b → L b = 0 ∧ b < w.heap.size) (he : ∀ b, ev.ownBlock = some b → L b = 0 ∧ b < w.heap.size) (hsz : wb.heap.size = bb + 3) (n1 : NRow w2 v1 V') (n2 : GRow 0 w2 e1 es') (hb : Below wb.heap.size wb w2) (a1 : Apt wb vv v1) (a2 : Apt wb ev e1) :
    PG L w bb v1 e1 rd wr1 k e u v Lz (set4 w2 bb v1 e1 (.int .i64 rd) (.int .i64 wr1)) ∧ RS bb vv ev v1 e1 V' es' Lz (set4 w2 bb v1 e1 (.int .i64 rd) (.int .i64 wr1)) := by
  subst hLz
  have P2 := hP.next (Ch.below hb)
  have hs := hP.sz
  refine ⟨P2.setG v1 e1 rd wr1, RS.set (bb := bb) (g := bb) ⟨n1, n2, fun b q => ?_, fun b q => ?_⟩ (Nat.le_refl _) (by omega) _ _ _ _⟩
  · rcases a1 b q with z | z
    · have := hv b z
      exact ⟨(if_pos this.2).trans this.1, by omega, .inl z⟩
    · exact ⟨if_neg (by omega), by omega, .inr (by omega)⟩
  · rcases a2 b q with z | z
    · have := he b z
      exact ⟨(if_pos this.2).trans this.1, by omega, .inl z⟩
    · exact ⟨if_neg (by omega), by omega, .inr (by omega)⟩
end

section
open Go.RowKit Go.Maps T9
set_option maxHeartbeats 4000000 in
set_option maxRecDepth 100000 in
theorem play1 {L : Nat → Nat} {w : World} {c p m ma ml me : Nat} {lk : Int} {V : List Int} {es : List EdV} {N : Nat} {vv ev : Value} {rd wr_0 e u v : Int} {t : Bool} (hK : KSt L w c p m ma ml me lk V es N) (hvv : NRow w vv V) (hev : GRow 0 w ev es) (lv : ∀ b, vv.ownBlock = some b → L b = 0) (le : ∀ b, ev.ownBlock = some b → L b = 0)
    (HR : ∀ W, Below w.heap.size w W → Calls Tryz.prog 24 #[.agg #[vv, ev, .int .i64 rd, .int .i64 wr_0], .int .i64 v] W fun r w2 => ∃ va vn vc ea en ec wr1, r = .returned (.tuple #[.agg #[.slice va vn vc, .slice ea en ec, .int .i64 rd, .int .i64 wr1], .bool t]) ∧ Hid (Pair L c p m ma ml me lk V es N wr_0 1 e u v vv ev W (fun Q W2 => Calls Tryz.prog 13 #[.pointer (some ⟨c, 0, none⟩), .int .i64 v] W2 Q) (.bool t) (.slice va vn vc) (.slice ea en ec) wr1 w2)) :
    Calls Tryz.prog 9 #[.pointer (some ⟨c, 0, none⟩), .agg #[vv, ev, .int .i64 rd, .int .i64 wr_0], .agg #[.int .i64 1, .int .i64 e, .int .i64 u, .int .i64 v]] w fun r w' => Hid (PlayAns L w c p m ma ml me lk V es N vv ev rd wr_0 1 e u v r w') := by
  obtain ⟨t1, t2, t3, t4, t5⟩ := three_boxesP w (oG vv ev rd wr_0) (oOp 1 e u v)
  have hL : ∀ b, w.heap.size ≤ b → lab L w.heap.size 0 b = 0 := fun b hb => if_neg (by omega)
  have P0 : PG L w w.heap.size vv ev rd wr_0 1 e u v (lab L w.heap.size 0) (((w.alloc (oG vv ev rd wr_0)).alloc (oOp 1 e u v)).alloc oZ) := ⟨(Ch.named L w 0).trans (Ch.below t4), t1, t2, t3, hL _ (by omega), hL _ (by omega), hL _ (by omega), rfl⟩
  have K0 := (hK.named 0).below t4
  obtain ⟨c0, c1, c2, c3, cf⟩ := cellsG t1
  obtain ⟨p0, p1, p2, p3⟩ := cellsOp t2
  obtain ⟨Lz, hLz⟩ : ∃ Lz, Lz = lab L w.heap.size 0 := ⟨_, rfl⟩
  rw [← hLz] at P0 K0
  have HLZ := hide hLz
  have CR := hide (HR _ t4)
  have HP0 := hide P0
  have HK0 := hide K0
  have HLV : Hid ((∀ b, vv.ownBlock = some b → L b = 0 ∧ b < w.heap.size) ∧ (∀ b, ev.ownBlock = some b → L b = 0 ∧ b < w.heap.size) ∧ (((w.alloc (oG vv ev rd wr_0)).alloc (oOp 1 e u v)).alloc oZ).heap.size = w.heap.size + 3) := ⟨fun b q => ⟨lv b q, (hvv.lt b q).2⟩, fun b q => ⟨le b q, (hev.lt b q).2⟩, t5⟩
  obtain ⟨va0, vc0, hv0, -⟩ := brow_shape hvv
  obtain ⟨vn0, hv0'⟩ : ∃ vn0, vv = .slice va0 vn0 vc0 := ⟨_, hv0⟩
  obtain ⟨ea0, en0, ec0, he0⟩ := grow_shape hev
  clear t1 t2 t3 t4 t5 hL P0 K0 hLz hK hvv hev lv le HR hv0
  subst hv0' he0
  go_enter Tryz.func9, Tryz.ntmps9
  go_upto_region 1 with fail
  change Code.wp _ _ _ _ (((w.alloc (oG (.slice va0 vn0 vc0) (.slice ea0 en0 ec0) rd wr_0)).alloc (oOp 1 e u v)).alloc oZ)
  generalize ((w.alloc (oG (.slice va0 vn0 vc0) (.slice ea0 en0 ec0) rd wr_0)).alloc (oOp 1 e u v)).alloc oZ = wb at *
  obtain ⟨bb, hbb⟩ : ∃ bb, bb = w.heap.size := ⟨_, rfl⟩
  have HBB := hide hbb
  rw [← hbb] at c0 c1 c2 c3 cf p0 p1 p2 p3 HP0
  rw [← hbb]
  clear hbb
  go_wp2_with fail
  refine (unhide CR).mono ?_
  rintro r w2 ⟨va, vn, vc, ea, en, ec, wr1, rfl, HQ⟩
  clear CR c0 c1 c2 c3 cf p0 p1 p2 p3
  obtain ⟨V', es', n1, n2, hb, a1, a2, w1, w2', hG', hC⟩ := unhide HQ
  have hsz : wb.heap.size = bb + 3 := by rw [unhide HBB]; exact (unhide HLV).2.2
  obtain ⟨P3, R3⟩ := play_mid (wr1 := wr1) (rd := rd) (unhide HLZ) (unhide HP0) (unhide HLV).1 (unhide HLV).2.1 hsz n1 n2 hb a1 a2
  have P2 := (unhide HP0).next (Ch.below hb)
  have K3 := ((unhide HK0).below hb).set P2.l0 (.slice va vn vc) (.slice ea en ec) (.int .i64 rd) (.int .i64 wr1)
  obtain ⟨c0, c1, c2, c3, cf⟩ := cellsG P2.box
  obtain ⟨w3, hw3⟩ : ∃ w3, w3 = set4 w2 bb (.slice va vn vc) (.slice ea en ec) (.int .i64 rd) (.int .i64 wr1) := ⟨_, rfl⟩
  rw [← hw3] at P3 R3 K3
  have CC := hide (hC _ (w3.drewN 1) (K3.below (below_drewN (Below.refl _ _) 1)))
  have HP3 := hide P3
  have HR3 := hide R3
  have HG : Hid (GOk V' es' (N + 3) ∧ wr_0 ≤ wr1 ∧ wr1 ≤ wr_0 + 1) := ⟨hG', w1, w2'⟩
  have HC3 : Hid (Ch Lz w3 Lz (w3.drewN 1)) := Ch.below (below_drewN (Below.refl _ _) 1)
  obtain ⟨g0, g1, g2, g3, gf⟩ := cellsG P3.box
  obtain ⟨o0, o1, o2, o3⟩ := cellsOp P3.op
  obtain ⟨pp0, pp1, pp2, pp3⟩ := cellsOp P2.op
  have HW3 := hide hw3
  clear HQ n1 n2 hb a1 a2 w1 w2' hG' hC hsz P2 P3 R3 K3 HP0 HK0 HLV
  go_upto_region 5 with fail
  (try rw [show (((w2.setCell ⟨bb, 0, none⟩ (.slice va vn vc)).setCell ⟨bb, 1, none⟩ (.slice ea en ec)).setCell ⟨bb, 2, none⟩ (.int .i64 rd)).setCell ⟨bb, 3, none⟩ (.int .i64 wr1) = w3 from (unhide HW3).symm])
  clear c0 c1 c2 c3 cf pp0 pp1 pp2 pp3 hw3 HW3
  refine wp_region_noPanic ?_
  refine regionL [] (fun y => y.cell? ⟨bb, 0, none⟩ = some (.slice va vn vc) ∧ y.cell? ⟨bb, 1, none⟩ = some (.slice ea en ec) ∧ y.cell? ⟨bb, 2, none⟩ = some (.int .i64 rd) ∧ y.cell? ⟨bb, 3, none⟩ = some (.int .i64 wr1) ∧ y.cell? ⟨bb + 1, 3, none⟩ = some (.int .i64 v)) (by kernel_rfl) ⟨g0, g1, g2, g3, o3⟩ (fun hHeld => ?_)
  refine takeL (i := 0) (v := ?t2v0) (some 21) rfl rfl (by kernel_rfl) (by kernel_rfl) (by kernel_rfl) (by kernel_rfl) (by kernel_rfl) (fun _ _ _ h => h) (Or.inl ⟨by rfl, ?t2h0⟩) (by assumption) ?t2r0
  case t2h0 => (intro y hSu; (try dsimp only at hSu); go_simp; first | done | with_reducible rfl)
  (try simp only [Act.put, List.setIfInBounds_toArray, List.set_cons_zero, List.set_cons_succ])
  refine takeL (i := 1) (v := ?t2v1) (some 22) rfl rfl (by kernel_rfl) (by kernel_rfl) (by kernel_rfl) (by kernel_rfl) (by kernel_rfl) (fun _ _ _ h => h) (Or.inl ⟨by rfl, ?t2h1⟩) (by assumption) ?t2r1
  case t2h1 => (intro y hSu; (try dsimp only at hSu); go_simp; first | done | with_reducible rfl)
  (try simp only [Act.put, List.setIfInBounds_toArray, List.set_cons_zero, List.set_cons_succ])
  refine takeL (i := 2) (v := ?t2v2) (some 23) rfl rfl (by kernel_rfl) (by kernel_rfl) (by kernel_rfl) (by kernel_rfl) (by kernel_rfl) (fun _ _ _ h => h) (Or.inl ⟨by rfl, ?t2h2⟩) (by assumption) ?t2r2
  case t2h2 => (intro y hSu; (try dsimp only at hSu); go_simp; first | done | with_reducible rfl)
  (try simp only [Act.put, List.setIfInBounds_toArray, List.set_cons_zero, List.set_cons_succ])
  refine takeL (i := 3) (v := ?t2v3) (some 24) rfl rfl (by kernel_rfl) (by kernel_rfl) (by kernel_rfl) (by kernel_rfl) (by kernel_rfl) (fun _ _ _ h => h) (Or.inl ⟨by rfl, ?t2h3⟩) (by assumption) ?t2r3
  case t2h3 => (intro y hSu; (try dsimp only at hSu); go_simp; first | done | with_reducible rfl)
  (try simp only [Act.put, List.setIfInBounds_toArray, List.set_cons_zero, List.set_cons_succ])
  refine takeL (i := 5) (v := ?t2v5) (some 26) rfl rfl (by kernel_rfl) (by kernel_rfl) (by kernel_rfl) (by kernel_rfl) (by kernel_rfl) (fun _ _ _ h => h) (Or.inl ⟨by rfl, ?t2h5⟩) (by assumption) ?t2r5
  case t2h5 => (intro y hSu; (try dsimp only at hSu); go_simp; first | done | with_reducible rfl)
  (try simp only [Act.put, List.setIfInBounds_toArray, List.set_cons_zero, List.set_cons_succ])
  refine readyL (i := 4) (by kernel_rfl) rfl (fun K hK => ?_)
  go_simp
  refine (unhide CC).mono ?_
  rintro r w4 ⟨rfl, HQ⟩
  obtain ⟨lk', ⟨L4, K4, ch4⟩, hB⟩ := unhide HQ
  have HC4 : Hid (Ch Lz w3 L4 w4) := (unhide HC3).trans ch4
  have P4 := (unhide HP3).next (unhide HC4)
  have HK4 : Hid (KSt L4 w4 c p m ma ml me lk' V' es' (N + 3) ∧ Bd 1 e u v V es lk es' lk') := ⟨K4, hB⟩
  obtain ⟨h0, h1, h2, h3, hf⟩ := cellsG P4.box
  obtain ⟨q0, q1, q2, q3⟩ := cellsOp P4.op
  obtain ⟨d0, d1, d2, d3, df⟩ := cellsG (vv := .slice none 0 0) (ev := .slice none 0 0) (rd := 0) (wr := 0) P4.res
  have HE : Hid (w4.cell? ⟨bb, 0, none⟩ = some (.slice va vn vc) ∧ w4.cell? ⟨bb, 1, none⟩ = some (.slice ea en ec) ∧ w4.cell? ⟨bb, 2, none⟩ = some (.int .i64 rd) ∧ w4.cell? ⟨bb, 3, none⟩ = some (.int .i64 wr1) ∧ w4.cell? ⟨bb + 1, 3, none⟩ = some (.int .i64 v)) := ⟨h0, h1, h2, h3, q3⟩
  have hset : ∀ b, b ≠ bb + 2 → (set4 w4 (bb + 2) (.slice va vn vc) (.slice ea en ec) (.int .i64 rd) (.int .i64 wr1)).heap[b]? = w4.heap[b]? := fun b hb => set4_other hb _ _ _ _
  have hS21 : (set4 w4 (bb + 2) (.slice va vn vc) (.slice ea en ec) (.int .i64 rd) (.int .i64 wr1)).cell? ⟨bb, 0, none⟩ = some (.slice va vn vc) ∧ (set4 w4 (bb + 2) (.slice va vn vc) (.slice ea en ec) (.int .i64 rd) (.int .i64 wr1)).cell? ⟨bb, 1, none⟩ = some (.slice ea en ec) ∧ (set4 w4 (bb + 2) (.slice va vn vc) (.slice ea en ec) (.int .i64 rd) (.int .i64 wr1)).cell? ⟨bb, 2, none⟩ = some (.int .i64 rd) ∧ (set4 w4 (bb + 2) (.slice va vn vc) (.slice ea en ec) (.int .i64 rd) (.int .i64 wr1)).cell? ⟨bb, 3, none⟩ = some (.int .i64 wr1) ∧ (set4 w4 (bb + 2) (.slice va vn vc) (.slice ea en ec) (.int .i64 rd) (.int .i64 wr1)).cell? ⟨bb + 1, 3, none⟩ = some (.int .i64 v) := by
    obtain ⟨z0, z1, z2, z3, -⟩ := cellsG ((hset bb (by omega)).trans P4.box)
    obtain ⟨y0, y1, y2, y3⟩ := cellsOp ((hset (bb + 1) (by omega)).trans P4.op)
    exact ⟨z0, z1, z2, z3, y3⟩
  unfold set4 at hS21
  have HRES := hide P4.res
  clear CC HQ P4 K4 ch4 hB HC3 hset h0 h1 h2 h3 hf q0 q1 q2 q3
  (try dsimp only)
  refine hK.out _ _ (fun _ => (unhide HE)) ?_
  clear hK K
  (try simp only [Act.put, List.setIfInBounds_toArray, List.set_cons_zero, List.set_cons_succ])
  have hH4 := (unhide HE)
  refine takeL (i := 6) (v := ?t5v6) (some 27) rfl rfl (by kernel_rfl) (by kernel_rfl) (by kernel_rfl) (by kernel_rfl) (by kernel_rfl) (fun _ _ _ h => h) (Or.inl ⟨by rfl, ?t5h6⟩) (by assumption) ?t5r6
  case t5h6 => (intro y hSu; (try dsimp only at hSu); go_simp; first | done | with_reducible rfl)
  (try simp only [Act.put, List.setIfInBounds_toArray, List.set_cons_zero, List.set_cons_succ])
  refine readyL (i := 7) (by kernel_rfl) rfl (fun K hK => ?_)
  go_simp
  refine hK.out _ _ (fun _ => hS21) ?_
  clear hK K
  (try simp only [Act.put, List.setIfInBounds_toArray, List.set_cons_zero, List.set_cons_succ])
  have hH7 := hS21
  refine takeL (i := 8) (v := ?t8v8) (some 7) rfl rfl (by kernel_rfl) (by kernel_rfl) (by kernel_rfl) (by kernel_rfl) (by kernel_rfl) (fun _ _ _ h => h) (Or.inl ⟨by rfl, ?t8h8⟩) (by assumption) ?t8r8
  case t8h8 => (intro y hSu; (try dsimp only at hSu); go_simp; first | done | with_reducible rfl)
  (try simp only [Act.put, List.setIfInBounds_toArray, List.set_cons_zero, List.set_cons_succ])
  refine doneL (by kernel_rfl) ?_ _
  refine NoPanic.normal ?_
  clear hS21 HE d0 d1 d2 d3 df g0 g1 g2 g3 gf o0 o1 o2 o3
  go_wp2_with fail
  (try simp only [Exit.inBlock, Exit.then])
  change bodyPost _ _ _ _ _ (set4 w4 (bb + 2) _ _ _ _)
  refine bodyPost_ret (resG rfl _ _ (bb + 2) _ _ _ _ rfl (set4G_at (unhide HRES) _ _ _ _)) rfl ?_
  exact play_end (unhide HP3) (unhide HR3) (unhide HK4).1 (unhide HC4) (unhide HG).1 (unhide HG).2.1 (unhide HG).2.2 (unhide HK4).2
end

section
open Go.RowKit Go.Maps T9
set_option maxHeartbeats 4000000 in
set_option maxRecDepth 100000 in
theorem play2 {L : Nat → Nat} {w : World} {c p m ma ml me : Nat} {lk : Int} {V : List Int} {es : List EdV} {N : Nat} {vv ev : Value} {rd wr_0 e u v : Int} {t : Bool} (hK : KSt L w c p m ma ml me lk V es N) (hvv : NRow w vv V) (hev : GRow 0 w ev es) (lv : ∀ b, vv.ownBlock = some b → L b = 0) (le : ∀ b, ev.ownBlock = some b → L b = 0)
    (HR : ∀ W, Below w.heap.size w W → Calls Tryz.prog 25 #[.agg #[vv, ev, .int .i64 rd, .int .i64 wr_0], .int .i64 v] W fun r w2 => ∃ va vn vc ea en ec wr1, r = .returned (.tuple #[.agg #[.slice va vn vc, .slice ea en ec, .int .i64 rd, .int .i64 wr1], .bool t]) ∧ Hid (Pair L c p m ma ml me lk V es N wr_0 2 e u v vv ev W (fun Q W2 => Calls Tryz.prog 26 #[.pointer (some ⟨c, 0, none⟩), .int .i64 v] W2 Q) (.bool t) (.slice va vn vc) (.slice ea en ec) wr1 w2)) :
    Calls Tryz.prog 9 #[.pointer (some ⟨c, 0, none⟩), .agg #[vv, ev, .int .i64 rd, .int .i64 wr_0], .agg #[.int .i64 2, .int .i64 e, .int .i64 u, .int .i64 v]] w fun r w' => Hid (PlayAns L w c p m ma ml me lk V es N vv ev rd wr_0 2 e u v r w') := by
  obtain ⟨t1, t2, t3, t4, t5⟩ := three_boxesP w (oG vv ev rd wr_0) (oOp 2 e u v)
  have hL : ∀ b, w.heap.size ≤ b → lab L w.heap.size 0 b = 0 := fun b hb => if_neg (by omega)
  have P0 : PG L w w.heap.size vv ev rd wr_0 2 e u v (lab L w.heap.size 0) (((w.alloc (oG vv ev rd wr_0)).alloc (oOp 2 e u v)).alloc oZ) := ⟨(Ch.named L w 0).trans (Ch.below t4), t1, t2, t3, hL _ (by omega), hL _ (by omega), hL _ (by omega), rfl⟩
  have K0 := (hK.named 0).below t4
  obtain ⟨c0, c1, c2, c3, cf⟩ := cellsG t1
  obtain ⟨p0, p1, p2, p3⟩ := cellsOp t2
  obtain ⟨Lz, hLz⟩ : ∃ Lz, Lz = lab L w.heap.size 0 := ⟨_, rfl⟩
  rw [← hLz] at P0 K0
  have HLZ := hide hLz
  have CR := hide (HR _ t4)
  have HP0 := hide P0
  have HK0 := hide K0
  have HLV : Hid ((∀ b, vv.ownBlock = some b → L b = 0 ∧ b < w.heap.size) ∧ (∀ b, ev.ownBlock = some b → L b = 0 ∧ b < w.heap.size) ∧ (((w.alloc (oG vv ev rd wr_0)).alloc (oOp 2 e u v)).alloc oZ).heap.size = w.heap.size + 3) := ⟨fun b q => ⟨lv b q, (hvv.lt b q).2⟩, fun b q => ⟨le b q, (hev.lt b q).2⟩, t5⟩
  obtain ⟨va0, vc0, hv0, -⟩ := brow_shape hvv
  obtain ⟨vn0, hv0'⟩ : ∃ vn0, vv = .slice va0 vn0 vc0 := ⟨_, hv0⟩
  obtain ⟨ea0, en0, ec0, he0⟩ := grow_shape hev
  clear t1 t2 t3 t4 t5 hL P0 K0 hLz hK hvv hev lv le HR hv0
  subst hv0' he0
  go_enter Tryz.func9, Tryz.ntmps9
  go_upto_region 1 with fail
  change Code.wp _ _ _ _ (((w.alloc (oG (.slice va0 vn0 vc0) (.slice ea0 en0 ec0) rd wr_0)).alloc (oOp 2 e u v)).alloc oZ)
  generalize ((w.alloc (oG (.slice va0 vn0 vc0) (.slice ea0 en0 ec0) rd wr_0)).alloc (oOp 2 e u v)).alloc oZ = wb at *
  obtain ⟨bb, hbb⟩ : ∃ bb, bb = w.heap.size := ⟨_, rfl⟩
  have HBB := hide hbb
  rw [← hbb] at c0 c1 c2 c3 cf p0 p1 p2 p3 HP0
  rw [← hbb]
  clear hbb
  go_wp2_with fail
  refine (unhide CR).mono ?_
  rintro r w2 ⟨va, vn, vc, ea, en, ec, wr1, rfl, HQ⟩
  clear CR c0 c1 c2 c3 cf p0 p1 p2 p3
  obtain ⟨V', es', n1, n2, hb, a1, a2, w1, w2', hG', hC⟩ := unhide HQ
  have hsz : wb.heap.size = bb + 3 := by rw [unhide HBB]; exact (unhide HLV).2.2
  obtain ⟨P3, R3⟩ := play_mid (wr1 := wr1) (rd := rd) (unhide HLZ) (unhide HP0) (unhide HLV).1 (unhide HLV).2.1 hsz n1 n2 hb a1 a2
  have P2 := (unhide HP0).next (Ch.below hb)
  have K3 := ((unhide HK0).below hb).set P2.l0 (.slice va vn vc) (.slice ea en ec) (.int .i64 rd) (.int .i64 wr1)
  obtain ⟨c0, c1, c2, c3, cf⟩ := cellsG P2.box
  obtain ⟨w3, hw3⟩ : ∃ w3, w3 = set4 w2 bb (.slice va vn vc) (.slice ea en ec) (.int .i64 rd) (.int .i64 wr1) := ⟨_, rfl⟩
  rw [← hw3] at P3 R3 K3
  have CC := hide (hC _ (w3.drewN 1) (K3.below (below_drewN (Below.refl _ _) 1)))
  have HP3 := hide P3
  have HR3 := hide R3
  have HG : Hid (GOk V' es' (N + 3) ∧ wr_0 ≤ wr1 ∧ wr1 ≤ wr_0 + 1) := ⟨hG', w1, w2'⟩
  have HC3 : Hid (Ch Lz w3 Lz (w3.drewN 1)) := Ch.below (below_drewN (Below.refl _ _) 1)
  obtain ⟨g0, g1, g2, g3, gf⟩ := cellsG P3.box
  obtain ⟨o0, o1, o2, o3⟩ := cellsOp P3.op
  obtain ⟨pp0, pp1, pp2, pp3⟩ := cellsOp P2.op
  have HW3 := hide hw3
  clear HQ n1 n2 hb a1 a2 w1 w2' hG' hC hsz P2 P3 R3 K3 HP0 HK0 HLV
  go_upto_region 8 with fail
  (try rw [show (((w2.setCell ⟨bb, 0, none⟩ (.slice va vn vc)).setCell ⟨bb, 1, none⟩ (.slice ea en ec)).setCell ⟨bb, 2, none⟩ (.int .i64 rd)).setCell ⟨bb, 3, none⟩ (.int .i64 wr1) = w3 from (unhide HW3).symm])
  clear c0 c1 c2 c3 cf pp0 pp1 pp2 pp3 hw3 HW3
  refine wp_region_noPanic ?_
  refine regionL [] (fun y => y.cell? ⟨bb, 0, none⟩ = some (.slice va vn vc) ∧ y.cell? ⟨bb, 1, none⟩ = some (.slice ea en ec) ∧ y.cell? ⟨bb, 2, none⟩ = some (.int .i64 rd) ∧ y.cell? ⟨bb, 3, none⟩ = some (.int .i64 wr1) ∧ y.cell? ⟨bb + 1, 3, none⟩ = some (.int .i64 v)) (by kernel_rfl) ⟨g0, g1, g2, g3, o3⟩ (fun hHeld => ?_)
  refine takeL (i := 0) (v := ?t2v0) (some 37) rfl rfl (by kernel_rfl) (by kernel_rfl) (by kernel_rfl) (by kernel_rfl) (by kernel_rfl) (fun _ _ _ h => h) (Or.inl ⟨by rfl, ?t2h0⟩) (by assumption) ?t2r0
  case t2h0 => (intro y hSu; (try dsimp only at hSu); go_simp; first | done | with_reducible rfl)
  (try simp only [Act.put, List.setIfInBounds_toArray, List.set_cons_zero, List.set_cons_succ])
  refine takeL (i := 1) (v := ?t2v1) (some 38) rfl rfl (by kernel_rfl) (by kernel_rfl) (by kernel_rfl) (by kernel_rfl) (by kernel_rfl) (fun _ _ _ h => h) (Or.inl ⟨by rfl, ?t2h1⟩) (by assumption) ?t2r1
  case t2h1 => (intro y hSu; (try dsimp only at hSu); go_simp; first | done | with_reducible rfl)
  (try simp only [Act.put, List.setIfInBounds_toArray, List.set_cons_zero, List.set_cons_succ])
  refine takeL (i := 2) (v := ?t2v2) (some 39) rfl rfl (by kernel_rfl) (by kernel_rfl) (by kernel_rfl) (by kernel_rfl) (by kernel_rfl) (fun _ _ _ h => h) (Or.inl ⟨by rfl, ?t2h2⟩) (by assumption) ?t2r2
  case t2h2 => (intro y hSu; (try dsimp only at hSu); go_simp; first | done | with_reducible rfl)
  (try simp only [Act.put, List.setIfInBounds_toArray, List.set_cons_zero, List.set_cons_succ])
  refine takeL (i := 3) (v := ?t2v3) (some 40) rfl rfl (by kernel_rfl) (by kernel_rfl) (by kernel_rfl) (by kernel_rfl) (by kernel_rfl) (fun _ _ _ h => h) (Or.inl ⟨by rfl, ?t2h3⟩) (by assumption) ?t2r3
  case t2h3 => (intro y hSu; (try dsimp only at hSu); go_simp; first | done | with_reducible rfl)
  (try simp only [Act.put, List.setIfInBounds_toArray, List.set_cons_zero, List.set_cons_succ])
  refine takeL (i := 5) (v := ?t2v5) (some 42) rfl rfl (by kernel_rfl) (by kernel_rfl) (by kernel_rfl) (by kernel_rfl) (by kernel_rfl) (fun _ _ _ h => h) (Or.inl ⟨by rfl, ?t2h5⟩) (by assumption) ?t2r5
  case t2h5 => (intro y hSu; (try dsimp only at hSu); go_simp; first | done | with_reducible rfl)
  (try simp only [Act.put, List.setIfInBounds_toArray, List.set_cons_zero, List.set_cons_succ])
  refine readyL (i := 4) (by kernel_rfl) rfl (fun K hK => ?_)
  go_simp
  refine (unhide CC).mono ?_
  rintro r w4 ⟨rfl, HQ⟩
  obtain ⟨lk', ⟨L4, K4, ch4⟩, hB⟩ := unhide HQ
  have HC4 : Hid (Ch Lz w3 L4 w4) := (unhide HC3).trans ch4
  have P4 := (unhide HP3).next (unhide HC4)
  have HK4 : Hid (KSt L4 w4 c p m ma ml me lk' V' es' (N + 3) ∧ Bd 2 e u v V es lk es' lk') := ⟨K4, hB⟩
  obtain ⟨h0, h1, h2, h3, hf⟩ := cellsG P4.box
  obtain ⟨q0, q1, q2, q3⟩ := cellsOp P4.op
  obtain ⟨d0, d1, d2, d3, df⟩ := cellsG (vv := .slice none 0 0) (ev := .slice none 0 0) (rd := 0) (wr := 0) P4.res
  have HE : Hid (w4.cell? ⟨bb, 0, none⟩ = some (.slice va vn vc) ∧ w4.cell? ⟨bb, 1, none⟩ = some (.slice ea en ec) ∧ w4.cell? ⟨bb, 2, none⟩ = some (.int .i64 rd) ∧ w4.cell? ⟨bb, 3, none⟩ = some (.int .i64 wr1) ∧ w4.cell? ⟨bb + 1, 3, none⟩ = some (.int .i64 v)) := ⟨h0, h1, h2, h3, q3⟩
  have hset : ∀ b, b ≠ bb + 2 → (set4 w4 (bb + 2) (.slice va vn vc) (.slice ea en ec) (.int .i64 rd) (.int .i64 wr1)).heap[b]? = w4.heap[b]? := fun b hb => set4_other hb _ _ _ _
  have hS21 : (set4 w4 (bb + 2) (.slice va vn vc) (.slice ea en ec) (.int .i64 rd) (.int .i64 wr1)).cell? ⟨bb, 0, none⟩ = some (.slice va vn vc) ∧ (set4 w4 (bb + 2) (.slice va vn vc) (.slice ea en ec) (.int .i64 rd) (.int .i64 wr1)).cell? ⟨bb, 1, none⟩ = some (.slice ea en ec) ∧ (set4 w4 (bb + 2) (.slice va vn vc) (.slice ea en ec) (.int .i64 rd) (.int .i64 wr1)).cell? ⟨bb, 2, none⟩ = some (.int .i64 rd) ∧ (set4 w4 (bb + 2) (.slice va vn vc) (.slice ea en ec) (.int .i64 rd) (.int .i64 wr1)).cell? ⟨bb, 3, none⟩ = some (.int .i64 wr1) ∧ (set4 w4 (bb + 2) (.slice va vn vc) (.slice ea en ec) (.int .i64 rd) (.int .i64 wr1)).cell? ⟨bb + 1, 3, none⟩ = some (.int .i64 v) := by
    obtain ⟨z0, z1, z2, z3, -⟩ := cellsG ((hset bb (by omega)).trans P4.box)
    obtain ⟨y0, y1, y2, y3⟩ := cellsOp ((hset (bb + 1) (by omega)).trans P4.op)
    exact ⟨z0, z1, z2, z3, y3⟩
  unfold set4 at hS21
  have HRES := hide P4.res
  clear CC HQ P4 K4 ch4 hB HC3 hset h0 h1 h2 h3 hf q0 q1 q2 q3
  (try dsimp only)
  refine hK.out _ _ (fun _ => (unhide HE)) ?_
  clear hK K
  (try simp only [Act.put, List.setIfInBounds_toArray, List.set_cons_zero, List.set_cons_succ])
  have hH4 := (unhide HE)
  refine takeL (i := 6) (v := ?t5v6) (some 43) rfl rfl (by kernel_rfl) (by kernel_rfl) (by kernel_rfl) (by kernel_rfl) (by kernel_rfl) (fun _ _ _ h => h) (Or.inl ⟨by rfl, ?t5h6⟩) (by assumption) ?t5r6
  case t5h6 => (intro y hSu; (try dsimp only at hSu); go_simp; first | done | with_reducible rfl)
  (try simp only [Act.put, List.setIfInBounds_toArray, List.set_cons_zero, List.set_cons_succ])
  refine readyL (i := 7) (by kernel_rfl) rfl (fun K hK => ?_)
  go_simp
  refine hK.out _ _ (fun _ => hS21) ?_
  clear hK K
  (try simp only [Act.put, List.setIfInBounds_toArray, List.set_cons_zero, List.set_cons_succ])
  have hH7 := hS21
  refine takeL (i := 8) (v := ?t8v8) (some 7) rfl rfl (by kernel_rfl) (by kernel_rfl) (by kernel_rfl) (by kernel_rfl) (by kernel_rfl) (fun _ _ _ h => h) (Or.inl ⟨by rfl, ?t8h8⟩) (by assumption) ?t8r8
  case t8h8 => (intro y hSu; (try dsimp only at hSu); go_simp; first | done | with_reducible rfl)
  (try simp only [Act.put, List.setIfInBounds_toArray, List.set_cons_zero, List.set_cons_succ])
  refine doneL (by kernel_rfl) ?_ _
  refine NoPanic.normal ?_
  clear hS21 HE d0 d1 d2 d3 df g0 g1 g2 g3 gf o0 o1 o2 o3
  go_wp2_with fail
  (try simp only [Exit.inBlock, Exit.then])
  change bodyPost _ _ _ _ _ (set4 w4 (bb + 2) _ _ _ _)
  refine bodyPost_ret (resG rfl _ _ (bb + 2) _ _ _ _ rfl (set4G_at (unhide HRES) _ _ _ _)) rfl ?_
  exact play_end (unhide HP3) (unhide HR3) (unhide HK4).1 (unhide HC4) (unhide HG).1 (unhide HG).2.1 (unhide HG).2.2 (unhide HK4).2
end

end Go.Proofs.YtkmhcgmmbkchaaaGreat
