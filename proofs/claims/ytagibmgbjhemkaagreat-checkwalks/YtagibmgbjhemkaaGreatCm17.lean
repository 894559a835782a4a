/- Claim. -/
import Derived.Test.YtagibmgbjhemkaaGreatHo17
import Derived.Test.YtagibmgbjhemkaaGreatDe16
namespace Go.Proofs.YtagibmgbjhemkaaGreat

section
open Go.RowKit Go.Maps
open W16 (WtV Lies u8v i64v dec decV DecAns decodeS)
def chkA (V : Int → Bool) (ps : List (EdgeV × Bool)) (bs : List Nat) : WtV × Nat × Int :=
  match dec bs with
  | none => ((0, 0, 0, []), 0, 160)
  | some x => if (holdA (V x.1) (V x.2.1) (trip ps x.1 x.2.2.2) x.1 x.2.1 x.2.2.1).2 = 0 then (x, 0, 0) else ((0, 0, 0, []), (holdA (V x.1) (V x.2.1) (trip ps x.1 x.2.2.2) x.1 x.2.1 x.2.2.1).1, (holdA (V x.1) (V x.2.1) (trip ps x.1 x.2.2.2) x.1 x.2.1 x.2.2.1).2)
def ChkAns [Inhabited EntI] (w : World) (X : Sto) (n : Nat) (r : WtV × Nat × Int) (e : Ending) (w' : World) : Prop :=
  ∃ ev, e = .returned (.tuple #[.agg #[.int .i64 r.1.1, .int .i64 r.1.2.1, .int .u32 (r.1.2.2.1 : Nat), ev], .int .i64 (r.2.1 : Nat), .int .i64 r.2.2]) ∧ W16.NRow w.heap.size w' ev r.1.2.2.2 ∧ RdT w X n w'
theorem results_cell_tmp2 {fn : Func} {p u v : Tmp} {ty : TypeId} (h : fn.results = #[.cell p ty, .tmp u, .tmp v]) (tmps : Array Value) (P : Program) (w : World) (x : Addr) (vx : Value) (hp : tmps.getD p undef = .pointer (some x)) (hx : (loadVar ty x).run P w = .ok vx w) :
    (results fn tmps).run P w = .ok (.tuple #[vx, tmps.getD u undef, tmps.getD v undef]) w := by
  have hp' : tmps[p]?.getD undef = .pointer (some x) := by simpa using hp
  simp only [results, h]; simp [hp', asAddr, hx]
theorem srow_of {w : World} {v : Value} {ks : List Int} (h : Lies i64v w v ks) : SRow w v ks := by
  obtain ⟨a, c, rfl, h1, h2, h3⟩ := h; refine ⟨a, c, rfl, fun j k hj => ?_⟩
  rcases h3 with rfl | ⟨b, off, rfl, h4⟩
  · cases hj
  · exact ⟨b, off, rfl, h4 j k hj⟩
theorem nrow16_blk {B : Nat} {w : World} {v : Value} {ks : List Int} (h : W16.NRow B w v ks) {b : Nat} (hb : blkOf v = some b) : v.ownBlock = some b := by
  rcases h.2 with ⟨e, -⟩ | ⟨g, cap, cur, e, -⟩
  · rw [e] at hb; cases hb
  · rw [e] at hb ⊢; have : g = b := by injection hb
    rw [this]; rfl
theorem dec_oks {bs : List Nat} {x : WtV} (hb : ∀ y ∈ bs, y < 256) (h : dec bs = some x) : okN x.1 ∧ okN x.2.1 ∧ (∀ e ∈ x.2.2.2, okN e) ∧ x.2.2.2.length ≤ 1024 ∧ x.2.2.1 < 4294967296 := by
  obtain ⟨g1, g2, g3, g4, g5⟩ := (W16.dec_some hb h).1; exact ⟨okN_of g2.1 g2.2, okN_of g3.1 g3.2, fun e he => okN_of (by have := g5 e he; omega) (by have := g5 e he; omega), g1, g4⟩
theorem decV_none {bs : List Nat} (h : dec bs = none) : decV bs = ((0, 0, 0, []), 160) := by unfold W16.decV; rw [h]
theorem decV_some {bs : List Nat} {x : WtV} (h : dec bs = some x) : decV bs = (x, 0) := by unfold W16.decV; rw [h]
theorem oWt_fz {w : World} {b : Nat} {F T : Int} {u : Nat} {ev : Value} (h : w.heap[b]? = some (oWt F T u ev)) : ∀ o, w.frozen? ⟨b, o, none⟩ = false := fun o => frozen_of_row _ _ o _ _ h
theorem nil16 (B : Nat) (w : World) : W16.NRow B w (.slice none 0 0) [] := ⟨rfl, .inl ⟨rfl, rfl⟩⟩
theorem load_set4 {w : World} {b : Nat} {F T : Int} {u : Nat} {ev : Value} (h : w.heap[b]? = some (oWt F T u ev)) (x0 x1 x2 x3 : Value) : (loadVar 35 ⟨b, 0, none⟩).run Tryz.prog (Go.Proofs.YtagibmgbjhemkaaGreat.set4 w b x0 x1 x2 x3) = .ok (.agg #[x0, x1, x2, x3]) (Go.Proofs.YtagibmgbjhemkaaGreat.set4 w b x0 x1 x2 x3) :=
  W16.loadW _ _ _ _ _ _ (W16.set4_at h x0 x1 x2 x3)
set_option maxHeartbeats 4000000 in
set_option maxRecDepth 100000 in
theorem checkS [Inhabited EntI] {w : World} {X : Sto} {v : Value} {bs : List Nat} (h : StAt w X) (hv : Lies u8v w v bs) (hb : ∀ x ∈ bs, x < 256) (hl : bs.length ≤ 140737488355328) (ho : ∀ g, v.ownBlock = some g → g < w.heap.size) (hx0 : 0 ≤ X.rd) (hx1 : X.rd ≤ 100000000)
    (hQ : ∀ (i : Nat) (x : EdgeV), X.ps[i]? = some (x, true) → Wt x) :
    Calls Tryz.prog 11 #[.iface 24 (.pointer (some ⟨X.s, 0, none⟩)), v] w fun e w' => Hid (ChkAns w X (decV bs).1.2.2.2.length (chkA (fun k => (X.f k).isSome) X.ps bs) e w') := by
  have hb0 := below_new w (oWt 0 0 0 (.slice none 0 0)); have hs0 : (w.alloc (oWt 0 0 0 (.slice none 0 0))).heap.size = w.heap.size + 1 := by simp
  have CD := hide (decodeS (W16.lies_below hv hb0) hb hl (fun g e => by have := ho g e; omega))
  have HL0 : X.L w.heap.size = none := h.mem.new (Nat.le_refl _); have hg0 : (w.alloc (oWt 0 0 0 (.slice none 0 0))).heap[w.heap.size]? = some (oWt 0 0 0 (.slice none 0 0)) := heap_alloc_new _ _
  cases hd : dec bs with
  | none =>
    have e1 : chkA (fun k => (X.f k).isSome) X.ps bs = ((0, 0, 0, []), 0, 160) := by unfold chkA; rw [hd]
    rw [e1]; rw [decV_none hd] at CD ⊢; have HE : Hid (∀ w2 F T u ev x0 x1 x2 x3, Below (w.alloc (oWt 0 0 0 (.slice none 0 0))).heap.size (w.alloc (oWt 0 0 0 (.slice none 0 0))) w2 → (w2.alloc (oWt F T u ev)).heap[w.heap.size]? = some (oWt 0 0 0 (.slice none 0 0)) ∧ RdT w X 0 (Go.Proofs.YtagibmgbjhemkaaGreat.set4 (w2.alloc (oWt F T u ev)) w.heap.size x0 x1 x2 x3)) := fun w2 F T u ev x0 x1 x2 x3 hw2 => by
      have h3 := below_new w2 (oWt F T u ev); have hB : Below w.heap.size w (w2.alloc (oWt F T u ev)) := (hb0.trans (hw2.mono (by omega))).trans (h3.mono (by have := hw2.size; omega))
      refine ⟨(h3.block _ (by have := hw2.size; omega)).trans ((hw2.block _ (by omega)).trans hg0), ?_⟩
      obtain ⟨k, k1, k2⟩ := RdT.zero (n := 0) h hB; exact ⟨k, k1, k2.set4 HL0 (Nat.le_refl _) _ _ _ _⟩
    obtain ⟨va, vc, hva⟩ := W16.lies_shape hv; clear hb0 hs0 hg0 HL0 h hv hb ho hx0 hx1 hQ hd e1; subst hva; generalize X.s = s at *; generalize bs.length = bn at *; unfold oWt at CD
    go_enter Tryz.func11, Tryz.ntmps11
    go_wp2_with fail
    refine (unhide CD).mono ?_; intro e w2 H2; obtain ⟨ev, rfl, g1, g2⟩ := unhide H2; obtain ⟨ea, ec, hev⟩ := W16.rrow_shape g1; have hev2 : ev = .slice ea 0 ec := hev; clear hev; subst hev2; generalize hev : Value.slice ea 0 ec = ev at *; obtain ⟨j1, -⟩ := unhide HE w2 0 0 0 ev undef undef undef undef g2; obtain ⟨y0, y1, y2, y3⟩ := oWt_cells j1; have yf := oWt_fz j1; have HJ := hide j1; have HF : Hid (∀ x0 x1 x2 x3, RdT w X 0 (Go.Proofs.YtagibmgbjhemkaaGreat.set4 (w2.alloc (oWt 0 0 0 ev)) w.heap.size x0 x1 x2 x3)) := fun x0 x1 x2 x3 => (unhide HE w2 0 0 0 ev x0 x1 x2 x3 g2).2
    clear HE H2 g1 g2 CD j1; subst hev
    go_upto_region 2 with fail
    change Code.wp _ _ _ _ (w2.alloc (oWt 0 0 0 (.slice ea 0 ec))); generalize w2.alloc (oWt 0 0 0 (.slice ea 0 ec)) = w3 at *; generalize hbb : w.heap.size = b at *
    go_wp2_with fail
    (try simp only [Exit.inBlock, Exit.then])
    change bodyPost _ _ _ _ _ (Go.Proofs.YtagibmgbjhemkaaGreat.set4 w3 b _ _ _ _); refine bodyPost_ret (results_cell_tmp2 rfl _ _ _ ⟨b, 0, none⟩ _ rfl (load_set4 (unhide HJ) _ _ _ _)) rfl ?_; exact ⟨_, rfl, nil16 _ _, unhide HF _ _ _ _⟩
  | some x =>
    obtain ⟨F, T, u, es⟩ := x; obtain ⟨o1, o2, o3, o4, -⟩ := dec_oks hb hd; obtain ⟨r, hr⟩ : ∃ r, r = holdA (X.f F).isSome (X.f T).isSome (trip X.ps F es) F T u := ⟨_, rfl⟩; have e1 : chkA (fun k => (X.f k).isSome) X.ps bs = if r.2 = 0 then ((F, T, u, es), 0, 0) else ((0, 0, 0, []), r.1, r.2) := by rw [hr]; unfold chkA; rw [hd]
    rw [e1]; rw [decV_some hd] at CD ⊢; have HH : Hid (∀ w2 ev, W16.NRow (w.alloc (oWt 0 0 0 (.slice none 0 0))).heap.size w2 ev es → Below (w.alloc (oWt 0 0 0 (.slice none 0 0))).heap.size (w.alloc (oWt 0 0 0 (.slice none 0 0))) w2 →
        (w2.alloc (oWt F T u ev)).heap[w2.heap.size]? = some (oWt F T u ev) ∧ Calls Tryz.prog 33 #[.iface 24 (.pointer (some ⟨X.s, 0, none⟩)), .agg #[.int .i64 F, .int .i64 T, .int .u32 (u : Nat), ev]] (w2.alloc (oWt F T u ev)) fun e w' => e = .returned (.tuple #[.int .i64 (r.1 : Nat), .int .i64 r.2]) ∧ Hid (w'.heap[w.heap.size]? = some (oWt 0 0 0 (.slice none 0 0)) ∧ w'.heap[w2.heap.size]? = some (oWt F T u ev) ∧ ∀ x0 x1 x2 x3, RdT w X es.length (Go.Proofs.YtagibmgbjhemkaaGreat.set4 w' w.heap.size x0 x1 x2 x3) ∧ W16.NRow w.heap.size (Go.Proofs.YtagibmgbjhemkaaGreat.set4 w' w.heap.size x0 x1 x2 x3) ev es)) := fun w2 ev g1 hw2 => by
      have h3 := below_new w2 (oWt F T u ev); have hz2 := hw2.size; have hs3 : (w2.alloc (oWt F T u ev)).heap.size = w2.heap.size + 1 := by simp
      have hB : Below w.heap.size w (w2.alloc (oWt F T u ev)) := (hb0.trans (hw2.mono (by omega))).trans (h3.mono (by omega))
      have hblk : ∀ b, ev.ownBlock = some b → w.heap.size < b ∧ b < w2.heap.size ∧ X.L b = none := fun b e => by
        have := g1.lt b e; exact ⟨by omega, this.2, h.mem.new (by omega)⟩
      refine ⟨heap_alloc_new _ _, ?_⟩; have hc := holdS F T u (h.below hB) (srow_of (W16.lies_below (W16.nrow_lies g1) h3)) o1 o2 o3 (Nat.le_trans o4 (by decide)) hx0 hx1 hQ (fun b e => by
        obtain ⟨q1, q2, q3⟩ := hblk b (nrow16_blk g1 e); exact ⟨by omega, q3⟩)
      rw [← hr] at hc; refine hc.mono ?_
      rintro e w4 ⟨rfl, hh⟩
      obtain ⟨k, k1, k2⟩ := unhide hh; have hold : ∀ b, b < (w2.alloc (oWt F T u ev)).heap.size → X.L b = none → w4.heap[b]? = (w2.alloc (oWt F T u ev)).heap[b]? := fun b q1 q2 => (k2.2.2.old q1 q2).1
      refine ⟨rfl, (hold _ (by omega) HL0).trans ((h3.block _ (by omega)).trans ((hw2.block _ (by omega)).trans hg0)), (hold _ (by omega) (h.mem.new (by omega))).trans (heap_alloc_new _ _), fun x0 x1 x2 x3 => ⟨⟨k, k1, ((Step.below h hB).trans k2).set4 HL0 (Nat.le_refl _) _ _ _ _⟩, ?_⟩⟩
      refine W16.rrow_low (W16.rrow_kept g1 (fun b e => ?_)) (by omega)
      obtain ⟨q1, q2, q3⟩ := hblk b e; exact (W16.set4_other (by omega) _ _ _ _).trans ((hold b (by omega) q3).trans (h3.block b q2))
    obtain ⟨va, vc, hva⟩ := W16.lies_shape hv; clear hb0 hs0 hg0 HL0 h hv hb ho hx0 hx1 hQ hd e1 hr o1 o2 o3; subst hva; generalize X.s = s at *; generalize bs.length = bn at *; obtain ⟨r1, r2⟩ := r
    by_cases hc : r2 = 0
    · subst hc; rw [if_pos rfl]; unfold oWt at CD
      go_enter Tryz.func11, Tryz.ntmps11
      go_wp2_with fail
      refine (unhide CD).mono ?_; intro e w2 H2; obtain ⟨ev, rfl, g1, g2⟩ := unhide H2; obtain ⟨ea, ec, hev⟩ := W16.rrow_shape g1; simp only at hev g1 ⊢; obtain ⟨n, hn⟩ : ∃ n, n = es.length := ⟨_, rfl⟩; rw [← hn] at hev; clear hn; obtain ⟨j1, j2⟩ := unhide HH w2 ev g1 g2; have CH := hide j2; obtain ⟨y0, y1, y2, y3⟩ := oWt_cells j1; clear HH H2 g1 g2 CD j1 j2; subst hev
      go_upto_region 2 with fail
      change Code.wp _ _ _ _ (w2.alloc (oWt F T u (.slice ea n ec))); generalize w2.alloc (oWt F T u (.slice ea n ec)) = w3 at *; generalize hbb : w.heap.size = b at *; generalize w2.heap.size = b7 at *
      go_wp2_with fail
      refine (unhide CH).mono ?_
      rintro e w4 ⟨rfl, H4⟩
      obtain ⟨j1, j2, HF⟩ := unhide H4
      replace HF := hide HF
      obtain ⟨x0, x1, x2, x3⟩ := oWt_cells j2; obtain ⟨z0, z1, zz2, z3⟩ := oWt_cells j1; have zf := oWt_fz j1; have HJ := hide j1; clear CH H4 j1 j2 y0 y1 y2 y3
      go_upto_region 5 with fail
      go_wp2_with fail
      (try simp only [Exit.inBlock, Exit.then])
      change bodyPost _ _ _ _ _ (Go.Proofs.YtagibmgbjhemkaaGreat.set4 w4 b _ _ _ _); refine bodyPost_ret (results_cell_tmp2 rfl _ _ _ ⟨b, 0, none⟩ _ rfl (load_set4 (unhide HJ) _ _ _ _)) rfl ?_; exact ⟨_, rfl, by rw [hbb]; exact (unhide HF _ _ _ _).2, (unhide HF _ _ _ _).1⟩
    · rw [if_neg hc]; have z2 : (r2 == 0) = false := by simpa using hc
      unfold oWt at CD
      go_enter Tryz.func11, Tryz.ntmps11
      go_wp2_with fail
      refine (unhide CD).mono ?_; intro e w2 H2; obtain ⟨ev, rfl, g1, g2⟩ := unhide H2; obtain ⟨ea, ec, hev⟩ := W16.rrow_shape g1; simp only at hev g1 ⊢; obtain ⟨n, hn⟩ : ∃ n, n = es.length := ⟨_, rfl⟩; rw [← hn] at hev; clear hn; obtain ⟨j1, j2⟩ := unhide HH w2 ev g1 g2; have CH := hide j2; obtain ⟨y0, y1, y2, y3⟩ := oWt_cells j1; clear HH H2 g1 g2 CD j1 j2; subst hev
      go_upto_region 2 with fail
      change Code.wp _ _ _ _ (w2.alloc (oWt F T u (.slice ea n ec))); generalize w2.alloc (oWt F T u (.slice ea n ec)) = w3 at *; generalize hbb : w.heap.size = b at *; generalize w2.heap.size = b7 at *
      go_wp2_with fail
      refine (unhide CH).mono ?_
      rintro e w4 ⟨rfl, H4⟩
      obtain ⟨j1, j2, HF⟩ := unhide H4
      replace HF := hide HF
      obtain ⟨x0, x1, x2, x3⟩ := oWt_cells j2; obtain ⟨z0, z1, zz2, z3⟩ := oWt_cells j1; have zf := oWt_fz j1; have HJ := hide j1; clear CH H4 j1 j2 y0 y1 y2 y3
      go_upto_region 5 with fail
      go_wp2_with fail
      (try simp only [Exit.inBlock, Exit.then])
      change bodyPost _ _ _ _ _ (Go.Proofs.YtagibmgbjhemkaaGreat.set4 w4 b _ _ _ _); refine bodyPost_ret (results_cell_tmp2 rfl _ _ _ ⟨b, 0, none⟩ _ rfl (load_set4 (unhide HJ) _ _ _ _)) rfl ?_; exact ⟨_, rfl, nil16 _ _, (unhide HF _ _ _ _).1⟩
end

section
open Go.RowKit Go.Maps
open W16 (WtV Lies u8v i64v dec decV DecAns decodeS)
def clmA (V : Int → Bool) (ps : List (EdgeV × Bool)) (bs : List Nat) (f t : Int) (u : Nat) : Nat × Int :=
  match dec bs with
  | none => (0, 160)
  | some x => if x.1 = f ∧ x.2.1 = t ∧ x.2.2.1 = u then holdA (V x.1) (V x.2.1) (trip ps x.1 x.2.2.2) x.1 x.2.1 x.2.2.1 else (0, 172)
set_option maxHeartbeats 4000000 in
set_option maxRecDepth 100000 in
theorem claimS [Inhabited EntI] {w : World} {X : Sto} {v : Value} {bs : List Nat} (f t : Int) (b : Nat) (h : StAt w X) (hv : Lies u8v w v bs) (hb : ∀ x ∈ bs, x < 256) (hl : bs.length ≤ 140737488355328) (ho : ∀ g, v.ownBlock = some g → g < w.heap.size) (hx0 : 0 ≤ X.rd) (hx1 : X.rd ≤ 100000000)
    (hQ : ∀ (i : Nat) (x : EdgeV), X.ps[i]? = some (x, true) → Wt x) :
    Calls Tryz.prog 16 #[.iface 24 (.pointer (some ⟨X.s, 0, none⟩)), .int .i64 f, .int .i64 t, .int .u32 (b : Nat), v] w fun e w' => e = .returned (.tuple #[.int .i64 ((clmA (fun k => (X.f k).isSome) X.ps bs f t b).1 : Nat), .int .i64 (clmA (fun k => (X.f k).isSome) X.ps bs f t b).2]) ∧ Hid (RdT w X (decV bs).1.2.2.2.length w') := by
  have CD := hide (decodeS hv hb hl ho)
  cases hd : dec bs with
  | none =>
    have e1 : clmA (fun k => (X.f k).isSome) X.ps bs f t b = (0, 160) := by unfold clmA; rw [hd]
    rw [e1]; rw [decV_none hd] at CD ⊢; have HE : Hid (∀ w2 F T u ev, Below w.heap.size w w2 → RdT w X 0 (w2.alloc (oWt F T u ev))) := fun w2 F T u ev hw2 => RdT.zero h (hw2.trans ((below_new w2 (oWt F T u ev)).mono hw2.size))
    obtain ⟨va, vc, hva⟩ := W16.lies_shape hv; clear h hv hb ho hx0 hx1 hQ hd e1; subst hva; generalize X.s = s at *; generalize bs.length = bn at *
    go_enter Tryz.func16, Tryz.ntmps16
    go_wp2_with fail
    refine (unhide CD).mono ?_; intro e w2 H2; obtain ⟨ev, rfl, g1, g2⟩ := unhide H2; obtain ⟨ea, ec, hev⟩ := W16.rrow_shape g1; have hev2 : ev = .slice ea 0 ec := hev; clear hev; have HF := hide (unhide HE w2 0 0 0 ev g2); subst hev2; clear HE H2 g1 g2 CD
    go_upto_region 2 with fail
    change Code.wp _ _ _ _ (w2.alloc (oWt 0 0 0 (.slice ea 0 ec))); generalize w2.alloc (oWt 0 0 0 (.slice ea 0 ec)) = w3 at *
    go_wp2_with fail
    go_ret2
    exact ⟨rfl, unhide HF⟩
  | some x =>
    obtain ⟨F, T, u, es⟩ := x; obtain ⟨o1, o2, o3, o4, -⟩ := dec_oks hb hd; obtain ⟨r, hr⟩ : ∃ r, r = holdA (X.f F).isSome (X.f T).isSome (trip X.ps F es) F T u := ⟨_, rfl⟩; have e1 : clmA (fun k => (X.f k).isSome) X.ps bs f t b = if F = f ∧ T = t ∧ u = b then r else (0, 172) := by rw [hr]; unfold clmA; rw [hd]
    rw [e1]; rw [decV_some hd] at CD ⊢; have HH : Hid (∀ w2 ev, W16.NRow w.heap.size w2 ev es → Below w.heap.size w w2 →
        (w2.alloc (oWt F T u ev)).heap[w2.heap.size]? = some (oWt F T u ev) ∧ RdT w X es.length (w2.alloc (oWt F T u ev)) ∧ Calls Tryz.prog 33 #[.iface 24 (.pointer (some ⟨X.s, 0, none⟩)), .agg #[.int .i64 F, .int .i64 T, .int .u32 (u : Nat), ev]] (w2.alloc (oWt F T u ev)) fun e w' => e = .returned (.tuple #[.int .i64 (r.1 : Nat), .int .i64 r.2]) ∧ Hid (RdT w X es.length w')) := fun w2 ev g1 hw2 => by
      have h3 := below_new w2 (oWt F T u ev); have hz2 := hw2.size; have hs3 : (w2.alloc (oWt F T u ev)).heap.size = w2.heap.size + 1 := by simp
      have hB : Below w.heap.size w (w2.alloc (oWt F T u ev)) := hw2.trans (h3.mono hz2); refine ⟨heap_alloc_new _ _, RdT.zero h hB, ?_⟩; have hc := holdS F T u (h.below hB) (srow_of (W16.lies_below (W16.nrow_lies g1) h3)) o1 o2 o3 (Nat.le_trans o4 (by decide)) hx0 hx1 hQ (fun b e => by
        have := g1.lt b (nrow16_blk g1 e); exact ⟨by omega, h.mem.new (by omega)⟩)
      rw [← hr] at hc; refine hc.mono ?_
      rintro e w4 ⟨rfl, hh⟩
      obtain ⟨k, k1, k2⟩ := unhide hh; exact ⟨rfl, k, k1, (Step.below h hB).trans k2⟩
    obtain ⟨va, vc, hva⟩ := W16.lies_shape hv; clear h hv hb ho hx0 hx1 hQ hd e1 hr o1 o2 o3; subst hva; generalize X.s = s at *; generalize bs.length = bn at *; obtain ⟨r1, r2⟩ := r
    by_cases z0 : F = f
    · by_cases z1 : T = t
      · by_cases z2 : u = b
        · rw [if_pos ⟨z0, z1, z2⟩]; subst z0 z1 z2
          go_enter Tryz.func16, Tryz.ntmps16
          go_wp2_with fail
          refine (unhide CD).mono ?_; intro e w2 H2; obtain ⟨ev, rfl, g1, g2⟩ := unhide H2; obtain ⟨ea, ec, hev⟩ := W16.rrow_shape g1; simp only at hev g1 ⊢; obtain ⟨n, hn⟩ : ∃ n, n = es.length := ⟨_, rfl⟩; rw [← hn] at hev; clear hn; obtain ⟨j1, j3, j2⟩ := unhide HH w2 ev g1 g2; have CH := hide j2; have HF := hide j3; obtain ⟨y0, y1, y2, y3⟩ := oWt_cells j1; clear HH H2 g1 g2 CD j1 j2 j3; subst hev
          go_upto_region 2 with fail
          change Code.wp _ _ _ _ (w2.alloc (oWt F T u (.slice ea n ec))); generalize w2.alloc (oWt F T u (.slice ea n ec)) = w3 at *; generalize w2.heap.size = b7 at *
          go_wp2_with fail
          refine (unhide CH).mono ?_
          rintro e w4 ⟨rfl, H4⟩
          go_wp2_with fail
          go_ret2
          exact ⟨rfl, unhide H4⟩
        · rw [if_neg (fun z => z2 z.2.2)]
          have z3 : ((u : Int) == (b : Int)) = false := by simp; omega
          subst z0 z1
          go_enter Tryz.func16, Tryz.ntmps16
          go_wp2_with fail
          refine (unhide CD).mono ?_; intro e w2 H2; obtain ⟨ev, rfl, g1, g2⟩ := unhide H2; obtain ⟨ea, ec, hev⟩ := W16.rrow_shape g1; simp only at hev g1 ⊢; obtain ⟨n, hn⟩ : ∃ n, n = es.length := ⟨_, rfl⟩; rw [← hn] at hev; clear hn; obtain ⟨j1, j3, j2⟩ := unhide HH w2 ev g1 g2; have CH := hide j2; have HF := hide j3; obtain ⟨y0, y1, y2, y3⟩ := oWt_cells j1; clear HH H2 g1 g2 CD j1 j2 j3; subst hev
          go_upto_region 2 with fail
          change Code.wp _ _ _ _ (w2.alloc (oWt F T u (.slice ea n ec))); generalize w2.alloc (oWt F T u (.slice ea n ec)) = w3 at *; generalize w2.heap.size = b7 at *
          go_wp2_with fail
          go_ret2
          exact ⟨rfl, unhide HF⟩
      · rw [if_neg (fun z => z1 z.2.1)]
        have z3 : (T == t) = false := by simpa using z1
        subst z0
        go_enter Tryz.func16, Tryz.ntmps16
        go_wp2_with fail
        refine (unhide CD).mono ?_; intro e w2 H2; obtain ⟨ev, rfl, g1, g2⟩ := unhide H2; obtain ⟨ea, ec, hev⟩ := W16.rrow_shape g1; simp only at hev g1 ⊢; obtain ⟨n, hn⟩ : ∃ n, n = es.length := ⟨_, rfl⟩; rw [← hn] at hev; clear hn; obtain ⟨j1, j3, j2⟩ := unhide HH w2 ev g1 g2; have CH := hide j2; have HF := hide j3; obtain ⟨y0, y1, y2, y3⟩ := oWt_cells j1; clear HH H2 g1 g2 CD j1 j2 j3; subst hev
        go_upto_region 2 with fail
        change Code.wp _ _ _ _ (w2.alloc (oWt F T u (.slice ea n ec))); generalize w2.alloc (oWt F T u (.slice ea n ec)) = w3 at *; generalize w2.heap.size = b7 at *
        go_wp2_with fail
        go_ret2
        exact ⟨rfl, unhide HF⟩
    · rw [if_neg (fun z => z0 z.1)]
      have z3 : (F == f) = false := by simpa using z0
      go_enter Tryz.func16, Tryz.ntmps16
      go_wp2_with fail
      refine (unhide CD).mono ?_; intro e w2 H2; obtain ⟨ev, rfl, g1, g2⟩ := unhide H2; obtain ⟨ea, ec, hev⟩ := W16.rrow_shape g1; simp only at hev g1 ⊢; obtain ⟨n, hn⟩ : ∃ n, n = es.length := ⟨_, rfl⟩; rw [← hn] at hev; clear hn; obtain ⟨j1, j3, j2⟩ := unhide HH w2 ev g1 g2; have CH := hide j2; have HF := hide j3; obtain ⟨y0, y1, y2, y3⟩ := oWt_cells j1; clear HH H2 g1 g2 CD j1 j2 j3; subst hev
      go_upto_region 2 with fail
      change Code.wp _ _ _ _ (w2.alloc (oWt F T u (.slice ea n ec))); generalize w2.alloc (oWt F T u (.slice ea n ec)) = w3 at *; generalize w2.heap.size = b7 at *
      go_wp2_with fail
      go_ret2
      exact ⟨rfl, unhide HF⟩
end

end Go.Proofs.YtagibmgbjhemkaaGreat
