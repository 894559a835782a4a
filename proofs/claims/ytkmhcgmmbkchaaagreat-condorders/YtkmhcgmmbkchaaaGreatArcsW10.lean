/- arcsWithin, walked. -/
import Derived.Test.YtkmhcgmmbkchaaaGreatComp9
import Derived.Test.YtkmhcgmmbkchaaaGreatFwd10
namespace Go.Proofs.YtkmhcgmmbkchaaaGreat

section
open Go.RowKit Go.Maps T9
/-- Amid a round: the list of the place's head stands at idx. -/
def CMid (w0 : World) (V : List Int) (wh hvv : Value) (h : Nat → Nat) (k idx : Nat) (lv : Value) (w : World) : Prop := ∃ f L lvs xss ks, CM w0 V.length wh hvv h f L lv lvs xss w ∧ f (h k) = (idx : Nat) ∧ xss[idx]? = some ks ∧ ks.length ≤ 1000000 ∧ xss.set idx (ks ++ [V.getD k 0]) = compsV V h (k + 1) ∧ ∀ m, m < k + 1 → h m = m → f m = ((headsTo h m).length : Nat)
theorem cmid_old {w0 w : World} {V : List Int} {wh hvv lv : Value} {h : Nat → Nat} {k : Nat} (hC : CMk w0 V wh hvv h k lv w) (hle : ∀ p, h p ≤ p) (hk : h k ≠ k) (hh : h (h k) = h k) (hb : k ≤ 1000000) : CMid w0 V wh hvv h k (headsTo h (h k)).length lv w := by
  obtain ⟨f, L, lvs, hM, hf⟩ := hC
  obtain ⟨e1, e2⟩ := compsV_old (V := V) hle hk hh
  refine ⟨f, L, lvs, _, _, hM, hf (h k) (by have := hle k; omega) hh, e1, ?_, e2, fun m hm hmm => ?_⟩
  · unfold cv; rw [List.length_map]; exact Nat.le_trans (partTo_le _ _ _) hb
  · by_cases e : m = k
    · rw [e] at hmm; exact absurd hmm hk
    · exact hf m (by omega) hmm
/-- .. a head: its place told, and a list opened. -/
theorem cmid_new {w0 w : World} {V : List Int} {hvv : Value} {h : Nat → Nat} {k lm lc gw wn wc : Nat} {lx : Option Addr} (hC : CMk w0 V (.slice (some ⟨gw, 0, none⟩) wn wc) hvv h k (.slice lx lm lc) w) (hle : ∀ p, h p ≤ p) (hk : h k = k) (hkn : k < wn) (hb : k ≤ 1000000) :
    lm = (headsTo h k).length ∧ ∃ x m c w', (∀ ty, (Builtin.append_ #[71, 71] ty #[.slice lx lm lc, .slice (some ⟨(w.setCell ⟨gw, h k, none⟩ (.int .i64 (lm : Nat))).heap.size, 0, none⟩) 1 1]).run Tryz.prog ((w.setCell ⟨gw, h k, none⟩ (.int .i64 (lm : Nat))).alloc (.cells #[.slice none 0 0] 25)) = .ok (.slice x m c) w') ∧ CMid w0 V (.slice (some ⟨gw, 0, none⟩) wn wc) hvv h k lm (.slice x m c) w' := by
  obtain ⟨f, L, lvs, hM, hf⟩ := hC
  have hlm : lm = (headsTo h k).length := by
    obtain ⟨_, _, e2, -⟩ := hM.ll.shape
    injection e2 with _ e3 _
    rw [e3, compsV_len]
  obtain ⟨x, m, c, w', r, h2⟩ := (hM.setW rfl hkn (lm : Nat)).push (by rw [compsV_len]; exact Nat.le_trans (headsTo_le _ _) hb)
  refine ⟨hlm, x, m, c, w', by rw [hk]; exact r, _, _, _, _, [], h2, ?_, ?_, by simp, ?_, fun j hj hjj => ?_⟩
  · show (if h k = k then ((lm : Nat) : Int) else f (h k)) = _; rw [if_pos hk]
  · rw [List.getElem?_append_right (by rw [compsV_len, ← hlm]; exact Nat.le_refl _), compsV_len, ← hlm, Nat.sub_self]; rfl
  · rw [hlm]; exact compsV_new hle hk
  · show (if j = k then ((lm : Nat) : Int) else f j) = _
    by_cases e : j = k
    · rw [if_pos e, e, hlm]
    · rw [if_neg e]; exact hf j (by omega) hjj
/-- What components leaves. -/
def CoAns (w : World) (V : List Int) (nx : Nat → List Nat) (v : Value) (w' : World) : Prop := ∃ h, Heads nx V.length h ∧ (∀ p, h p ≤ p) ∧ LLs w v (compsV V h V.length) w' ∧ Below w.heap.size w w'
set_option maxHeartbeats 8000000 in
set_option maxRecDepth 100000 in
theorem componentsS {w : World} {gb : Nat} {vv nv : Value} {V : List Int} {nx : Nat → List Nat} (hG : GAt w gb vv nv V nx) (hnx : ∀ p, p < V.length → ∀ q ∈ nx p, q < V.length) (hn : V.length ≤ 100000) (hl : ∀ p, p < V.length → (nx p).length ≤ 1000000) :
    Calls Tryz.prog 79 #[.pointer (some ⟨gb, 0, none⟩)] w fun e w' => Hid (∃ v, e = .returned v ∧ CoAns w V nx v w') := by
  obtain ⟨n, hne⟩ : ∃ n, n = V.length := ⟨_, rfl⟩
  have HNE := hide hne
  have hmk := @mkI n (by omega)
  have HB : Hid (n ≤ 100000) := by show n ≤ 100000; omega
  obtain ⟨xvv, xcv, hve, -⟩ := brow_shape hG.vr
  rw [← hne] at hve
  subst hve
  obtain ⟨c0, c1, -⟩ := cellsG9 hG.box
  have hb1 := below_new w (.cells (madeCells #[.int .i64 0] n) 3)
  have hG1 := hG.below hb1
  have CH : Hid (Calls Tryz.prog 95 #[nv] (w.alloc (.cells (madeCells #[.int .i64 0] n) 3)) fun e w' => Hid (∃ hv, e = .returned hv ∧ HeadsAns (w.alloc (.cells (madeCells #[.int .i64 0] n) 3)) nx n hv w')) := by
    have h2 := hG1.nx
    rw [← hne] at h2 hnx hl
    exact headsOfS h2 hnx (by omega) hl
  have HRW : Hid (BRow w.heap.size (w.alloc (.cells (madeCells #[.int .i64 0] n) 3)) (.slice (some ⟨w.heap.size, 0, none⟩) n n) (rowI n (fun _ => 0))) := by
    show BRow w.heap.size (w.alloc (.cells (madeCells #[.int .i64 0] n) 3)) (.slice (some ⟨w.heap.size, 0, none⟩) n n) (rowI n (fun _ => 0))
    rw [← rep_rowI]; exact brow_made n (by omega) w
  obtain ⟨e1, e2, -⟩ := cellsG9 hG1.box
  have HG := hide hG
  have HX := hide (And.intro hnx hl)
  have HB1 := hide hb1
  clear hG hnx hn hl hne hG1 hb1
  go_enter Tryz.func79, Tryz.ntmps79
  go_upto_region 3 with fail
  clear hmk c0 c1
  generalize w.alloc (.cells (madeCells #[.int .i64 0] n) 3) = w1 at *
  obtain ⟨gw, hgw⟩ : ∃ gw, gw = w.heap.size := ⟨_, rfl⟩
  rw [← hgw] at HRW ⊢
  have HGW := hide hgw
  clear hgw
  go_wp2_with fail
  refine (unhide CH).mono ?_
  intro r w2 hh
  obtain ⟨hvv, rfl, h, hH, hle, hB2, hr2⟩ := unhide hh
  clear CH hh e1 e2
  obtain ⟨hx, hc, rfl, -⟩ := brow_shape hr2
  rw [rowI_len] at hr2 ⊢
  have HST : Hid (CMk w V (.slice (some ⟨gw, 0, none⟩) n n) (.slice hx n hc) h 0 (.slice none 0 0) w2) := by
    have h1 := unhide HRW
    have hsz := (unhide HB1).size
    rw [unhide HGW] at h1 ⊢
    have hne := unhide HNE
    refine ⟨fun _ => 0, fun b => if b = w.heap.size then 2 else 3, [], ⟨⟨⟨rfl, .inl ⟨rfl, rfl⟩⟩, fun i x ks e => (by cases e), fun b e => (by cases e), fun i x b e => (by cases e)⟩, ?_, ?_, ?_, ?_, (unhide HB1).trans (hB2.mono hsz)⟩, fun m hm => absurd hm (Nat.not_lt_zero _)⟩
    · rw [← hne]; exact brow_kept h1 (fun b e => hB2.block b (h1.lt b e).2)
    · rw [← hne]; exact brow_low hr2 hsz
    · intro b e; exact if_pos (own_eq e).symm
    · intro b e
      have h5 := (hr2.lt b e).1
      have h6 := (h1.lt w.heap.size rfl).2
      exact if_neg (by omega)
  have HH := hide (And.intro hH hle)
  clear hH hle hB2 hr2 HRW HB1 HGW
  go_upto_region 4 with fail
  go_loopw [20, 3] (fun s20 s3 wr => ∃ (k : Nat) (lx : Option Addr) (lm lc : Nat), s20 = .int .i64 (k : Nat) ∧ s3 = .slice lx lm lc ∧ k ≤ n ∧ Hid (CMk w V (.slice (some ⟨gw, 0, none⟩) n n) (.slice hx n hc) h k (.slice lx lm lc) wr)) (fun s20 _ _ => n - (intOf s20).toNat)
  case atStart => exact ⟨0, none, 0, 0, rfl, rfl, Nat.zero_le _, HST⟩
  case round =>
    obtain ⟨k, lx, lm, lc, rfl, rfl, hkn, hC⟩ := hrel
    have hne := unhide HNE
    by_cases hlt : k < n
    · obtain ⟨f0, L0, lv0, hM, -⟩ := id (unhide hC)
      have hM2 := hM
      rw [← hne] at hM2
      obtain ⟨gh, hgh⟩ := brow_some hM2.hr (by rw [rowI_len]; omega)
      subst hgh
      have hG := unhide HG
      obtain ⟨gx, hgx⟩ := brow_some hG.vr (by omega)
      subst hgx
      have hd1 := brow_at hM2.hr (rowI_at (fun p => ((h p : Nat) : Int)) hlt)
      obtain ⟨hH, hle⟩ := unhide HH
      have hhk : h k < n := by have := hle k; omega
      have z0 : (k : Int) < (n : Int) := by omega
      have hM3 := hM2
      obtain ⟨f3, hf3⟩ : ∃ f3, f3 = f0 := ⟨_, rfl⟩
      rw [← hf3] at hM3
      clear hM hM2 hG hf3
      by_cases hkk : h k = k
      · have hz : (((h k : Nat) : Int) == (k : Int)) = true := by simp [hkk]
        obtain ⟨hlm, lx', lm', lc', w4, r4, hMid⟩ := cmid_new (unhide hC) hle hkk hlt (by have := unhide HB; omega)
        have HR4 := hide r4
        have wf : (∀ o, wr.frozen? ⟨gw, o, none⟩ = false) ∧ ∃ x0 : Int, wr.cell? ⟨gw, h k, none⟩ = some (.int .i64 x0) := ⟨(brow_set hM3.wr (k := 0) 0 (by omega)).1, _, brow_at hM3.wr (rowI_at f3 hhk)⟩
        obtain ⟨wf1, x0, wf2⟩ := wf
        have zh : ((h k : Nat) : Int) < (n : Int) := by omega
        have HMID := hide hMid
        have HKK := hide hkk
        have HLT := hide (And.intro hlt hhk)
        clear r4 hMid hlm hH hle hhk HST hC hkk hlt hkn hM3 hne
        go_upto_region 8 with fail
        clear wf1 wf2
        generalize wr.setCell ⟨gw, h k, none⟩ (.int .i64 (lm : Nat)) = w3 at *
        go_upto_region 9 with (at_builtin; refine Lib.wpList_append_run _ rfl _ _ 71 71 rfl _ _ rfl rfl _ _ (unhide HR4 _) ?_)
        clear HR4 hz hd1 zh z0
        obtain ⟨idx, hidx⟩ : ∃ idx, idx = lm := ⟨_, rfl⟩
        rw [← hidx] at HMID
        clear hidx
        obtain ⟨hlt, hhk⟩ := unhide HLT
        obtain ⟨fq, Lq, lvq, xsq, ks, hCq, hfq, hxq, hlq, hsq, hwq⟩ := unhide HMID
        obtain ⟨gl, hgl⟩ : ∃ gl, lx' = some ⟨gl, 0, none⟩ := hCq.ll.some_ (by have := (List.getElem?_eq_some_iff.1 hxq).1; omega)
        subst hgl
        have hml : idx < lm' := by
          obtain ⟨_, _, e2, -⟩ := hCq.ll.shape
          injection e2 with _ e3 _
          have := (List.getElem?_eq_some_iff.1 hxq).1; omega
        have whr := brow_at hCq.wr (rowI_at (p := h k) fq (by have := unhide HNE; omega))
        rw [hfq] at whr
        obtain ⟨x, xn, xc, x', xn', xc', w8, k6, r8, k7, k8, f8, B8, hG⟩ := (hCq.drew 1).put hxq hlq (V.getD k 0)
        have hGd := (unhide HG).below ((hCq.drew 1).below)
        have hGd8 := (unhide HG).below B8
        have B7 : Below w.heap.size w (w4.drew.alloc (.cells #[.int .i64 (V.getD k 0)] 3)) := (hCq.drew 1).below.alloc (hCq.drew 1).below.size _
        have hGd7 := (unhide HG).below B7
        have k6' : w4.drew.cell? ⟨gl, idx, none⟩ = some (.slice x xn xc) := k6
        have k7' : (w4.drew.alloc (.cells #[.int .i64 (V.getD k 0)] 3)).cell? ⟨gl, idx, none⟩ = some (.slice x xn xc) := k7
        have HR8 : Hid (∀ ty, (Builtin.append_ #[25, 25] ty #[.slice x xn xc, .slice (some ⟨w4.drew.heap.size, 0, none⟩) 1 1]).run Tryz.prog (w4.drew.alloc (.cells #[.int .i64 (V.getD k 0)] 3)) = .ok (.slice x' xn' xc') w8) := r8
        have hvk : V[k]? = some (V.getD k 0) := by rw [List.getD_eq_getElem?_getD, List.getElem?_eq_getElem (by have := unhide HNE; omega)]; rfl
        have v6 : w4.drew.cell? ⟨gx, k, none⟩ = some (.int .i64 (V.getD k 0)) := brow_at hGd.vr hvk
        have v7 : (w4.drew.alloc (.cells #[.int .i64 (V.getD k 0)] 3)).cell? ⟨gx, k, none⟩ = some (.int .i64 (V.getD k 0)) := brow_at hGd7.vr hvk
        have v8 : w8.cell? ⟨gx, k, none⟩ = some (.int .i64 (V.getD k 0)) := brow_at hGd8.vr hvk
        have b6 : w4.drew.cell? ⟨gb, 0, none⟩ = some (.slice (some ⟨gx, 0, none⟩) n xcv) := (cellsG9 hGd.box).1
        have b7 : (w4.drew.alloc (.cells #[.int .i64 (V.getD k 0)] 3)).cell? ⟨gb, 0, none⟩ = some (.slice (some ⟨gx, 0, none⟩) n xcv) := (cellsG9 hGd7.box).1
        have b8 : w8.cell? ⟨gb, 0, none⟩ = some (.slice (some ⟨gx, 0, none⟩) n xcv) := (cellsG9 hGd8.box).1
        have HJ : Hid (CMk w V (.slice (some ⟨gw, 0, none⟩) n n) (.slice (some ⟨gh, 0, none⟩) n hc) h (k + 1) (.slice (some ⟨gl, 0, none⟩) lm' lc') (w8.setCell ⟨gl, idx, none⟩ (.slice x' xn' xc')) ∧ k + 1 ≤ n ∧ n - (k + 1) < n - k) := by
          obtain ⟨L', lvs', hC'⟩ := hG
          rw [hsq] at hC'
          exact ⟨⟨fq, L', lvs', hC', hwq⟩, by omega, by omega⟩
        have zi : (idx : Int) < (lm' : Int) := by omega
        have zh : ((h k : Nat) : Int) < (n : Int) := by omega
        have zk : (k : Int) < (n : Int) := by omega
        obtain ⟨k1, hk1⟩ : ∃ k1, k1 = k + 1 := ⟨_, rfl⟩
        have zw : Hid (wrap64 ((k : Int) + 1) = (k1 : Int)) := by have := unhide HB; show wrap64 ((k : Int) + 1) = (k1 : Int); unfold wrap64; omega
        rw [← hk1] at HJ
        generalize V.getD k 0 = vk at *
        generalize h k = hk at *
        clear hCq hfq hxq hlq hsq hwq r8 hG hGd hGd7 hGd8 B7 B8 k6 k7 hvk HMID hlt hhk hml hk1
        go_upto_region 10 with fail
        clear whr zi
        refine wp_region_noPanic ?_
        refine regionL [14] (fun y => y.cell? ⟨gl, idx, none⟩ = some (.slice x xn xc) ∧ y.cell? ⟨gb, 0, none⟩ = some (.slice (some ⟨gx, 0, none⟩) n xcv) ∧ y.cell? ⟨gx, k, none⟩ = some (.int .i64 vk)) (by kernel_rfl) ⟨k6', b6, v6⟩ (fun hHeld => ?_)
        refine takeL (i := 0) (v := ?t2v0) (some 42) rfl rfl (by kernel_rfl) (by kernel_rfl) (by kernel_rfl) (by kernel_rfl) (by kernel_rfl) (fun _ _ _ h => h) (Or.inl ⟨by rfl, ?t2h0⟩) (by assumption) ?t2r0
        case t2h0 => (intro y hSu; (try dsimp only at hSu); go_simp; first | done | with_reducible rfl)
        (try simp only [Act.put, List.setIfInBounds_toArray, List.set_cons_zero, List.set_cons_succ])
        refine takeL (i := 1) (v := ?t2v1) (some 43) rfl rfl (by kernel_rfl) (by kernel_rfl) (by kernel_rfl) (by kernel_rfl) (by kernel_rfl) (fun _ _ _ h => h) (Or.inl ⟨by rfl, ?t2h1⟩) (by assumption) ?t2r1
        case t2h1 => (intro y hSu; (try dsimp only at hSu); go_simp; first | done | with_reducible rfl)
        (try simp only [Act.put, List.setIfInBounds_toArray, List.set_cons_zero, List.set_cons_succ])
        refine takeL (i := 2) (v := ?t2v2) (some 44) rfl rfl (by kernel_rfl) (by kernel_rfl) (by kernel_rfl) (by kernel_rfl) (by kernel_rfl) (fun _ _ _ h => h) (Or.inl ⟨by rfl, ?t2h2⟩) (by assumption) ?t2r2
        case t2h2 => (intro y hSu; (try dsimp only at hSu); go_simp; first | done | with_reducible rfl)
        (try simp only [Act.put, List.setIfInBounds_toArray, List.set_cons_zero, List.set_cons_succ])
        refine takeL (i := 3) (v := ?t2v3) (some 45) rfl rfl (by kernel_rfl) (by kernel_rfl) (by kernel_rfl) (by kernel_rfl) (by kernel_rfl) (fun _ _ _ h => h) (Or.inl ⟨by rfl, ?t2h3⟩) (by assumption) ?t2r3
        case t2h3 => (intro y hSu; (try dsimp only at hSu); go_simp; first | done | with_reducible rfl)
        (try simp only [Act.put, List.setIfInBounds_toArray, List.set_cons_zero, List.set_cons_succ])
        refine takeL (i := 4) (v := ?t2v4) (some 46) rfl rfl (by kernel_rfl) (by kernel_rfl) (by kernel_rfl) (by kernel_rfl) (by kernel_rfl) (fun _ _ _ h => h) (Or.inl ⟨by rfl, ?t2h4⟩) (by assumption) ?t2r4
        case t2h4 => (intro y hSu; (try dsimp only at hSu); go_simp; first | done | with_reducible rfl)
        (try simp only [Act.put, List.setIfInBounds_toArray, List.set_cons_zero, List.set_cons_succ])
        refine takeL (i := 5) (v := ?t2v5) (some 47) rfl rfl (by kernel_rfl) (by kernel_rfl) (by kernel_rfl) (by kernel_rfl) (by kernel_rfl) (fun _ _ _ h => h) (Or.inl ⟨by rfl, ?t2h5⟩) (by assumption) ?t2r5
        case t2h5 => (intro y hSu; (try dsimp only at hSu); go_simp; first | done | with_reducible rfl)
        (try simp only [Act.put, List.setIfInBounds_toArray, List.set_cons_zero, List.set_cons_succ])
        refine takeL (i := 6) (v := ?t2v6) (some 48) rfl rfl (by kernel_rfl) (by kernel_rfl) (by kernel_rfl) (by kernel_rfl) (by kernel_rfl) (fun _ _ _ h => h) (Or.inl ⟨by rfl, ?t2h6⟩) (by assumption) ?t2r6
        case t2h6 => (intro y hSu; (try dsimp only at hSu); go_simp; first | done | with_reducible rfl)
        (try simp only [Act.put, List.setIfInBounds_toArray, List.set_cons_zero, List.set_cons_succ])
        refine takeL (i := 7) (v := ?t2v7) (some 49) rfl rfl (by kernel_rfl) (by kernel_rfl) (by kernel_rfl) (by kernel_rfl) (by kernel_rfl) (fun _ _ _ h => h) (Or.inl ⟨by rfl, ?t2h7⟩) (by assumption) ?t2r7
        case t2h7 => (intro y hSu; (try dsimp only at hSu); go_simp; first | done | with_reducible rfl)
        (try simp only [Act.put, List.setIfInBounds_toArray, List.set_cons_zero, List.set_cons_succ])
        refine takeL (i := 8) (v := ?t2v8) (some 50) rfl rfl (by kernel_rfl) (by kernel_rfl) (by kernel_rfl) (by kernel_rfl) (by kernel_rfl) (fun _ _ _ h => h) (Or.inl ⟨by rfl, ?t2h8⟩) (by assumption) ?t2r8
        case t2h8 => (intro y hSu; (try dsimp only at hSu); go_simp; first | done | with_reducible rfl)
        (try simp only [Act.put, List.setIfInBounds_toArray, List.set_cons_zero, List.set_cons_succ])
        refine takeL (i := 9) (v := ?t2v9) (some 51) rfl rfl (by kernel_rfl) (by kernel_rfl) (by kernel_rfl) (by kernel_rfl) (by kernel_rfl) (fun _ _ _ h => h) (Or.inl ⟨by rfl, ?t2h9⟩) (by assumption) ?t2r9
        case t2h9 => (intro y hSu; (try dsimp only at hSu); go_simp; first | done | with_reducible rfl)
        (try simp only [Act.put, List.setIfInBounds_toArray, List.set_cons_zero, List.set_cons_succ])
        refine takeL (i := 10) (v := ?t2v10) (some 52) rfl rfl (by kernel_rfl) (by kernel_rfl) (by kernel_rfl) (by kernel_rfl) (by kernel_rfl) (fun _ _ _ h => h) (Or.inl ⟨by rfl, ?t2h10⟩) (by assumption) ?t2r10
        case t2h10 => (intro y hSu; (try dsimp only at hSu); go_simp; first | done | with_reducible rfl)
        (try simp only [Act.put, List.setIfInBounds_toArray, List.set_cons_zero, List.set_cons_succ])
        refine readyL (i := 11) (by kernel_rfl) rfl (fun K hK => ?_)
        go_simp
        refine hK.out _ _ (fun _ => (And.intro k7' (And.intro b7 v7))) ?_
        clear hK K
        (try simp only [Act.put, List.setIfInBounds_toArray, List.set_cons_zero, List.set_cons_succ])
        have hH4 := (And.intro k7' (And.intro b7 v7))
        refine readyL (i := 12) (by kernel_rfl) rfl (fun K hK => ?_)
        refine step_append_run rfl (.tmp 45) (.tmp 53) 25 rfl _ _ (by simp [Act.eval]) (by simp [Act.eval]) _ _ (unhide HR8 _) ?_
        refine hK.out _ _ (fun _ => (And.intro k8 (And.intro b8 v8))) ?_
        clear hK K
        (try simp only [Act.put, List.setIfInBounds_toArray])
        have hH5 := (And.intro k8 (And.intro b8 v8))
        refine takeL (i := 13) (v := ?t6v13) (some 55) rfl rfl (by kernel_rfl) (by kernel_rfl) (by kernel_rfl) (by kernel_rfl) (by kernel_rfl) (fun _ _ _ h => h) (Or.inl ⟨by rfl, ?t6h13⟩) (by assumption) ?t6r13
        case t6h13 => (intro y hSu; (try dsimp only at hSu); go_simp; first | done | with_reducible rfl)
        (try simp only [Act.put])
        refine readyL (i := 14) (by kernel_rfl) rfl (fun K hK => ?_)
        go_simp
        refine hK.out _ _ (fun h => by cases h) ?_
        clear hK K
        (try simp only [Act.put, List.setIfInBounds_toArray, List.set_cons_zero, List.set_cons_succ])
        refine doneL (by kernel_rfl) ?_ _
        refine NoPanic.normal ?_
        go_wp2_with fail
        rw [unhide zw]
        exact ⟨⟨k1, _, _, _, rfl, rfl, (unhide HJ).2.1, (unhide HJ).1⟩, by have := (unhide HJ).2.2; simp [intOf]; omega⟩
      · have hz : (((h k : Nat) : Int) == (k : Int)) = false := by simp; omega
        have hMid := cmid_old (unhide hC) hle hkk (hH.idem (by omega)) (by have := unhide HB; omega)
        have HMID := hide hMid
        have HLT := hide (And.intro hlt hhk)
        obtain ⟨idx, hidx⟩ : ∃ idx, idx = (headsTo h (h k)).length := ⟨_, rfl⟩
        rw [← hidx] at HMID
        clear hMid hH hle hhk HST hC hkk hlt hkn hM3 hne hidx
        go_upto_region 9 with fail
        clear hz hd1 z0
        generalize wr = w4 at *
        obtain ⟨hlt, hhk⟩ := unhide HLT
        obtain ⟨fq, Lq, lvq, xsq, ks, hCq, hfq, hxq, hlq, hsq, hwq⟩ := unhide HMID
        obtain ⟨gl, hgl⟩ : ∃ gl, lx = some ⟨gl, 0, none⟩ := hCq.ll.some_ (by have := (List.getElem?_eq_some_iff.1 hxq).1; omega)
        subst hgl
        have hml : idx < lm := by
          obtain ⟨_, _, e2, -⟩ := hCq.ll.shape
          injection e2 with _ e3 _
          have := (List.getElem?_eq_some_iff.1 hxq).1; omega
        have whr := brow_at hCq.wr (rowI_at (p := h k) fq (by have := unhide HNE; omega))
        rw [hfq] at whr
        obtain ⟨x, xn, xc, x', xn', xc', w8, k6, r8, k7, k8, f8, B8, hG⟩ := (hCq.drew 1).put hxq hlq (V.getD k 0)
        have hGd := (unhide HG).below ((hCq.drew 1).below)
        have hGd8 := (unhide HG).below B8
        have B7 : Below w.heap.size w (w4.drew.alloc (.cells #[.int .i64 (V.getD k 0)] 3)) := (hCq.drew 1).below.alloc (hCq.drew 1).below.size _
        have hGd7 := (unhide HG).below B7
        have k6' : w4.drew.cell? ⟨gl, idx, none⟩ = some (.slice x xn xc) := k6
        have k7' : (w4.drew.alloc (.cells #[.int .i64 (V.getD k 0)] 3)).cell? ⟨gl, idx, none⟩ = some (.slice x xn xc) := k7
        have HR8 : Hid (∀ ty, (Builtin.append_ #[25, 25] ty #[.slice x xn xc, .slice (some ⟨w4.drew.heap.size, 0, none⟩) 1 1]).run Tryz.prog (w4.drew.alloc (.cells #[.int .i64 (V.getD k 0)] 3)) = .ok (.slice x' xn' xc') w8) := r8
        have hvk : V[k]? = some (V.getD k 0) := by rw [List.getD_eq_getElem?_getD, List.getElem?_eq_getElem (by have := unhide HNE; omega)]; rfl
        have v6 : w4.drew.cell? ⟨gx, k, none⟩ = some (.int .i64 (V.getD k 0)) := brow_at hGd.vr hvk
        have v7 : (w4.drew.alloc (.cells #[.int .i64 (V.getD k 0)] 3)).cell? ⟨gx, k, none⟩ = some (.int .i64 (V.getD k 0)) := brow_at hGd7.vr hvk
        have v8 : w8.cell? ⟨gx, k, none⟩ = some (.int .i64 (V.getD k 0)) := brow_at hGd8.vr hvk
        have b6 : w4.drew.cell? ⟨gb, 0, none⟩ = some (.slice (some ⟨gx, 0, none⟩) n xcv) := (cellsG9 hGd.box).1
        have b7 : (w4.drew.alloc (.cells #[.int .i64 (V.getD k 0)] 3)).cell? ⟨gb, 0, none⟩ = some (.slice (some ⟨gx, 0, none⟩) n xcv) := (cellsG9 hGd7.box).1
        have b8 : w8.cell? ⟨gb, 0, none⟩ = some (.slice (some ⟨gx, 0, none⟩) n xcv) := (cellsG9 hGd8.box).1
        have HJ : Hid (CMk w V (.slice (some ⟨gw, 0, none⟩) n n) (.slice (some ⟨gh, 0, none⟩) n hc) h (k + 1) (.slice (some ⟨gl, 0, none⟩) lm lc) (w8.setCell ⟨gl, idx, none⟩ (.slice x' xn' xc')) ∧ k + 1 ≤ n ∧ n - (k + 1) < n - k) := by
          obtain ⟨L', lvs', hC'⟩ := hG
          rw [hsq] at hC'
          exact ⟨⟨fq, L', lvs', hC', hwq⟩, by omega, by omega⟩
        have zi : (idx : Int) < (lm : Int) := by omega
        have zh : ((h k : Nat) : Int) < (n : Int) := by omega
        have zk : (k : Int) < (n : Int) := by omega
        obtain ⟨k1, hk1⟩ : ∃ k1, k1 = k + 1 := ⟨_, rfl⟩
        have zw : Hid (wrap64 ((k : Int) + 1) = (k1 : Int)) := by have := unhide HB; show wrap64 ((k : Int) + 1) = (k1 : Int); unfold wrap64; omega
        rw [← hk1] at HJ
        generalize V.getD k 0 = vk at *
        generalize h k = hk at *
        clear hCq hfq hxq hlq hsq hwq r8 hG hGd hGd7 hGd8 B7 B8 k6 k7 hvk HMID hlt hhk hml hk1
        go_upto_region 10 with fail
        clear whr zi
        refine wp_region_noPanic ?_
        refine regionL [14] (fun y => y.cell? ⟨gl, idx, none⟩ = some (.slice x xn xc) ∧ y.cell? ⟨gb, 0, none⟩ = some (.slice (some ⟨gx, 0, none⟩) n xcv) ∧ y.cell? ⟨gx, k, none⟩ = some (.int .i64 vk)) (by kernel_rfl) ⟨k6', b6, v6⟩ (fun hHeld => ?_)
        refine takeL (i := 0) (v := ?t11v0) (some 42) rfl rfl (by kernel_rfl) (by kernel_rfl) (by kernel_rfl) (by kernel_rfl) (by kernel_rfl) (fun _ _ _ h => h) (Or.inl ⟨by rfl, ?t11h0⟩) (by assumption) ?t11r0
        case t11h0 => (intro y hSu; (try dsimp only at hSu); go_simp; first | done | with_reducible rfl)
        (try simp only [Act.put, List.setIfInBounds_toArray, List.set_cons_zero, List.set_cons_succ])
        refine takeL (i := 1) (v := ?t11v1) (some 43) rfl rfl (by kernel_rfl) (by kernel_rfl) (by kernel_rfl) (by kernel_rfl) (by kernel_rfl) (fun _ _ _ h => h) (Or.inl ⟨by rfl, ?t11h1⟩) (by assumption) ?t11r1
        case t11h1 => (intro y hSu; (try dsimp only at hSu); go_simp; first | done | with_reducible rfl)
        (try simp only [Act.put, List.setIfInBounds_toArray, List.set_cons_zero, List.set_cons_succ])
        refine takeL (i := 2) (v := ?t11v2) (some 44) rfl rfl (by kernel_rfl) (by kernel_rfl) (by kernel_rfl) (by kernel_rfl) (by kernel_rfl) (fun _ _ _ h => h) (Or.inl ⟨by rfl, ?t11h2⟩) (by assumption) ?t11r2
        case t11h2 => (intro y hSu; (try dsimp only at hSu); go_simp; first | done | with_reducible rfl)
        (try simp only [Act.put, List.setIfInBounds_toArray, List.set_cons_zero, List.set_cons_succ])
        refine takeL (i := 3) (v := ?t11v3) (some 45) rfl rfl (by kernel_rfl) (by kernel_rfl) (by kernel_rfl) (by kernel_rfl) (by kernel_rfl) (fun _ _ _ h => h) (Or.inl ⟨by rfl, ?t11h3⟩) (by assumption) ?t11r3
        case t11h3 => (intro y hSu; (try dsimp only at hSu); go_simp; first | done | with_reducible rfl)
        (try simp only [Act.put, List.setIfInBounds_toArray, List.set_cons_zero, List.set_cons_succ])
        refine takeL (i := 4) (v := ?t11v4) (some 46) rfl rfl (by kernel_rfl) (by kernel_rfl) (by kernel_rfl) (by kernel_rfl) (by kernel_rfl) (fun _ _ _ h => h) (Or.inl ⟨by rfl, ?t11h4⟩) (by assumption) ?t11r4
        case t11h4 => (intro y hSu; (try dsimp only at hSu); go_simp; first | done | with_reducible rfl)
        (try simp only [Act.put, List.setIfInBounds_toArray, List.set_cons_zero, List.set_cons_succ])
        refine takeL (i := 5) (v := ?t11v5) (some 47) rfl rfl (by kernel_rfl) (by kernel_rfl) (by kernel_rfl) (by kernel_rfl) (by kernel_rfl) (fun _ _ _ h => h) (Or.inl ⟨by rfl, ?t11h5⟩) (by assumption) ?t11r5
        case t11h5 => (intro y hSu; (try dsimp only at hSu); go_simp; first | done | with_reducible rfl)
        (try simp only [Act.put, List.setIfInBounds_toArray, List.set_cons_zero, List.set_cons_succ])
        refine takeL (i := 6) (v := ?t11v6) (some 48) rfl rfl (by kernel_rfl) (by kernel_rfl) (by kernel_rfl) (by kernel_rfl) (by kernel_rfl) (fun _ _ _ h => h) (Or.inl ⟨by rfl, ?t11h6⟩) (by assumption) ?t11r6
        case t11h6 => (intro y hSu; (try dsimp only at hSu); go_simp; first | done | with_reducible rfl)
        (try simp only [Act.put, List.setIfInBounds_toArray, List.set_cons_zero, List.set_cons_succ])
        refine takeL (i := 7) (v := ?t11v7) (some 49) rfl rfl (by kernel_rfl) (by kernel_rfl) (by kernel_rfl) (by kernel_rfl) (by kernel_rfl) (fun _ _ _ h => h) (Or.inl ⟨by rfl, ?t11h7⟩) (by assumption) ?t11r7
        case t11h7 => (intro y hSu; (try dsimp only at hSu); go_simp; first | done | with_reducible rfl)
        (try simp only [Act.put, List.setIfInBounds_toArray, List.set_cons_zero, List.set_cons_succ])
        refine takeL (i := 8) (v := ?t11v8) (some 50) rfl rfl (by kernel_rfl) (by kernel_rfl) (by kernel_rfl) (by kernel_rfl) (by kernel_rfl) (fun _ _ _ h => h) (Or.inl ⟨by rfl, ?t11h8⟩) (by assumption) ?t11r8
        case t11h8 => (intro y hSu; (try dsimp only at hSu); go_simp; first | done | with_reducible rfl)
        (try simp only [Act.put, List.setIfInBounds_toArray, List.set_cons_zero, List.set_cons_succ])
        refine takeL (i := 9) (v := ?t11v9) (some 51) rfl rfl (by kernel_rfl) (by kernel_rfl) (by kernel_rfl) (by kernel_rfl) (by kernel_rfl) (fun _ _ _ h => h) (Or.inl ⟨by rfl, ?t11h9⟩) (by assumption) ?t11r9
        case t11h9 => (intro y hSu; (try dsimp only at hSu); go_simp; first | done | with_reducible rfl)
        (try simp only [Act.put, List.setIfInBounds_toArray, List.set_cons_zero, List.set_cons_succ])
        refine takeL (i := 10) (v := ?t11v10) (some 52) rfl rfl (by kernel_rfl) (by kernel_rfl) (by kernel_rfl) (by kernel_rfl) (by kernel_rfl) (fun _ _ _ h => h) (Or.inl ⟨by rfl, ?t11h10⟩) (by assumption) ?t11r10
        case t11h10 => (intro y hSu; (try dsimp only at hSu); go_simp; first | done | with_reducible rfl)
        (try simp only [Act.put, List.setIfInBounds_toArray, List.set_cons_zero, List.set_cons_succ])
        refine readyL (i := 11) (by kernel_rfl) rfl (fun K hK => ?_)
        go_simp
        refine hK.out _ _ (fun _ => (And.intro k7' (And.intro b7 v7))) ?_
        clear hK K
        (try simp only [Act.put, List.setIfInBounds_toArray, List.set_cons_zero, List.set_cons_succ])
        have hH13 := (And.intro k7' (And.intro b7 v7))
        refine readyL (i := 12) (by kernel_rfl) rfl (fun K hK => ?_)
        refine step_append_run rfl (.tmp 45) (.tmp 53) 25 rfl _ _ (by simp [Act.eval]) (by simp [Act.eval]) _ _ (unhide HR8 _) ?_
        refine hK.out _ _ (fun _ => (And.intro k8 (And.intro b8 v8))) ?_
        clear hK K
        (try simp only [Act.put, List.setIfInBounds_toArray])
        have hH14 := (And.intro k8 (And.intro b8 v8))
        refine takeL (i := 13) (v := ?t15v13) (some 55) rfl rfl (by kernel_rfl) (by kernel_rfl) (by kernel_rfl) (by kernel_rfl) (by kernel_rfl) (fun _ _ _ h => h) (Or.inl ⟨by rfl, ?t15h13⟩) (by assumption) ?t15r13
        case t15h13 => (intro y hSu; (try dsimp only at hSu); go_simp; first | done | with_reducible rfl)
        (try simp only [Act.put])
        refine readyL (i := 14) (by kernel_rfl) rfl (fun K hK => ?_)
        go_simp
        refine hK.out _ _ (fun h => by cases h) ?_
        clear hK K
        (try simp only [Act.put, List.setIfInBounds_toArray, List.set_cons_zero, List.set_cons_succ])
        refine doneL (by kernel_rfl) ?_ _
        refine NoPanic.normal ?_
        go_wp2_with fail
        rw [unhide zw]
        exact ⟨⟨k1, _, _, _, rfl, rfl, (unhide HJ).2.1, (unhide HJ).1⟩, by have := (unhide HJ).2.2; simp [intOf]; omega⟩
    · have z0 : ¬ (k : Int) < (n : Int) := by omega
      obtain rfl : k = n := by omega
      obtain ⟨f, L, lvs, hM, -⟩ := unhide hC
      have HGO : Hid (CoAns w V nx (.slice lx lm lc) wr) := by
        obtain ⟨hH, hle⟩ := unhide HH
        rw [hne] at hH hM
        exact ⟨h, hH, hle, ⟨L, lvs, hM.ll⟩, hM.below⟩
      clear hM hC hlt hkn HST hne
      go_wp2_with fail
      go_ret
      exact ⟨_, rfl, unhide HGO⟩
end

section
open Go.RowKit Go.Maps T9
/-- What the three calls answer: P of what is read, or an error with the zero value. -/
def ApAns (w : World) (vs : List Int) (arcs : List (Int × Int)) (zero : Value) (P : List Int → (Nat → List Nat) → Value → World → Prop) (e : Ending) (w' : World) : Prop :=
  Below w.heap.size w w' ∧ ((¬ vs.Nodup ∧ e = .returned (.tuple #[zero, .int .i64 2])) ∨ (vs.Nodup ∧ ¬ okArcs vs arcs ∧ e = .returned (.tuple #[zero, .int .i64 5])) ∨
    (vs.Nodup ∧ okArcs vs arcs ∧ ∃ v V, e = .returned (.tuple #[v, .int .i64 0]) ∧ V.Perm vs ∧ V.Pairwise (· < ·) ∧ P V (nextOf V arcs) v w'))
def OfP (w : World) (V : List Int) (nx : Nat → List Nat) (v : Value) (w' : World) : Prop := ∃ h, Heads nx V.length h ∧ (∀ p, h p ≤ p) ∧ LLs w v (compsV V h V.length) w'
theorem arcsOf_few {h : Nat → Nat} {nx : Nat → List Nat} {c : Nat} : ∀ {n : Nat}, (∀ p, p < n → (nx p).length ≤ c) → (arcsOf h nx n).length ≤ n * c
  | 0, _ => by simp [arcsOf]
  | n + 1, hc => by
    have ih := arcsOf_few (h := h) (n := n) (fun p hp => hc p (by omega))
    have e : arcsOf h nx (n + 1) = arcsOf h nx n ++ ((nx n).map (fun q => (h n, h q))).filter (fun a => decide (a.1 ≠ a.2)) := by
      unfold arcsOf
      rw [List.range_succ, List.flatMap_append]
      simp
    have h1 : (((nx n).map (fun q => (h n, h q))).filter (fun a => decide (a.1 ≠ a.2))).length ≤ c := Nat.le_trans (List.length_filter_le _ _) (by rw [List.length_map]; exact hc n (Nat.lt_succ_self n))
    rw [e, List.length_append, Nat.succ_mul]; omega
/-- What the inner calls ask of what was read. -/
theorem read_good {vs V : List Int} {arcs : List (Int × Int)} (hp : V.Perm vs) (hok : okArcs vs arcs) (hn : vs.length ≤ 1000) (hm : arcs.length ≤ 1000) :
    (∀ p, p < V.length → ∀ q ∈ nextOf V arcs p, q < V.length) ∧ V.length ≤ 100000 ∧ (∀ p, p < V.length → (nextOf V arcs p).length ≤ 1000000) ∧ ∀ h, (arcsOf h (nextOf V arcs) V.length).length ≤ 1000000 := by
  have hl := hp.length_eq
  refine ⟨fun p _ q hq => nextOf_lt (fun a ha => hp.mem_iff.2 (hok a ha).2) q hq, by omega, fun p _ => by have := nextOf_len V arcs p; omega, fun h => ?_⟩
  have h1 := arcsOf_few (h := h) (nx := nextOf V arcs) (c := arcs.length) (n := V.length) (fun p _ => nextOf_len V arcs p)
  have h2 : V.length * arcs.length ≤ 1000 * 1000 := Nat.mul_le_mul (by omega) hm
  omega
theorem lls_low {w w1 w2 : World} {v : Value} {xss : List (List Int)} (h : LLs w1 v xss w2) (hb : w.heap.size ≤ w1.heap.size) : LLs w v xss w2 := by
  obtain ⟨L, lvs, h⟩ := h
  exact ⟨L, lvs, h.low hb⟩
set_option maxHeartbeats 4000000 in
set_option maxRecDepth 100000 in
theorem ofS {w : World} {v av : Value} {vs : List Int} {arcs : List (Int × Int)} (hv : NRow w v vs) (ha : ARow w av arcs) (hn : vs.length ≤ 1000) (hm : arcs.length ≤ 1000) :
    Calls Tryz.prog 63 #[v, av] w fun e w' => Hid (ApAns w vs arcs (.slice none 0 0) (OfP w) e w') := by
  have CR := hide (readS hv ha (by omega) (by omega))
  have HB2 := hide (And.intro hn hm)
  obtain ⟨xv, cv', hve, -⟩ := brow_shape hv
  obtain ⟨xa, ca, hae, -⟩ := arow_shape ha
  clear hv ha hn hm
  subst hve
  subst hae
  obtain ⟨n, hne⟩ : ∃ n, n = vs.length := ⟨_, rfl⟩
  obtain ⟨m, hme⟩ : ∃ m, m = arcs.length := ⟨_, rfl⟩
  rw [← hne, ← hme] at CR ⊢
  clear hne hme
  go_enter Tryz.func63, Tryz.ntmps63
  go_wp2_with fail
  refine (unhide CR).mono ?_
  intro r w1 hh
  obtain ⟨hb, hcase⟩ := unhide hh
  clear CR hh
  have HBL := hide hb
  clear hb
  rcases hcase with ⟨h1, rfl⟩ | ⟨h1, h2, rfl⟩ | ⟨h1, h2, gb, V, rfl, h3, h4, h5⟩
  · have H1 := hide h1
    clear h1
    go_wp2_with fail
    go_ret2
    exact ⟨unhide HBL, .inl ⟨unhide H1, rfl⟩⟩
  · have H1 := hide (And.intro h1 h2)
    clear h1 h2
    go_wp2_with fail
    go_ret2
    exact ⟨unhide HBL, .inr (.inl ⟨(unhide H1).1, (unhide H1).2, rfl⟩)⟩
  · obtain ⟨vv, nv, hG⟩ := h5.at_
    have H1 := hide (And.intro h1 (And.intro h2 (And.intro h3 h4)))
    obtain ⟨g1, g2, g3, g4⟩ := read_good h3 h2 (unhide HB2).1 (unhide HB2).2
    have CC := hide (componentsS hG g1 g2 g3)
    clear h1 h2 h3 h4 h5 hG g1 g2 g3 g4
    go_wp2_with fail
    refine (unhide CC).mono ?_
    intro r w2 hh
    obtain ⟨x, rfl, h, hH, hle, hL, hb2⟩ := unhide hh
    clear CC hh
    have HL := hide (And.intro hH (And.intro hle (And.intro hL hb2)))
    clear hH hle hL hb2
    go_wp2_with fail
    go_ret2
    obtain ⟨h1, h2, h3, h4⟩ := unhide H1
    obtain ⟨hH, hle, hL, hb2⟩ := unhide HL
    exact ⟨(unhide HBL).trans (hb2.mono (unhide HBL).size), .inr (.inr ⟨h1, h2, x, V, rfl, h3, h4, h, hH, hle, lls_low hL (unhide HBL).size⟩)⟩
end

section
open Go.RowKit Go.Maps
abbrev ABRow (B : Nat) (w : World) (v : Value) (l : List (Int × Int)) : Prop := w.ownsRow B 54 2 v l.length (encA l)
set_option maxHeartbeats 1000000 in
set_option maxRecDepth 100000 in
theorem infoAR : (Tryz.prog.info? 54).map (fun i => (i.zero, i.size, i.bytes)) = some (some (.agg #[.int .i64 0, .int .i64 0]), 2, 16) := by kernel_rfl
theorem encA_one (l : List (Int × Int)) : ∀ u ∈ encA l, u.oneCell' = true := by
  intro u hu
  simp only [encA, List.mem_flatMap, List.mem_cons, List.not_mem_nil, or_false] at hu
  obtain ⟨r, -, rfl | rfl⟩ := hu <;> rfl
theorem encA_append (a b : List (Int × Int)) : encA (a ++ b) = encA a ++ encA b := by simp [encA]
theorem abrow_kept {B : Nat} {w w' : World} {v : Value} {l : List (Int × Int)} (h : ABRow B w v l) (hk : ∀ b, v.ownBlock = some b → w'.heap[b]? = w.heap[b]?) : ABRow B w' v l := by
  refine ⟨h.1, ?_⟩
  rcases h.2 with hn | ⟨g, cap, cur, e, hb, hgg, rest⟩
  · exact .inl hn
  · exact .inr ⟨g, cap, cur, e, hb, (hk g (by rw [e]; rfl)).trans hgg, rest⟩
theorem abrow_low {B B' : Nat} {w : World} {v : Value} {l : List (Int × Int)} (h : ABRow B' w v l) (hb : B ≤ B') : ABRow B w v l := ⟨h.1, h.2.imp id (fun ⟨g, cap, cur, e, q, r⟩ => ⟨g, cap, cur, e, Nat.le_trans hb q, r⟩)⟩
theorem abrow_shape {B : Nat} {w : World} {v : Value} {l : List (Int × Int)} (h : ABRow B w v l) : ∃ a c, v = .slice a l.length c ∧ l.length ≤ c := by
  rcases h.2 with ⟨e, h0⟩ | ⟨g', cap, cur, e, -, -, hc, -⟩
  · exact ⟨none, 0, by rw [e, h0], by omega⟩
  · exact ⟨_, _, e, hc⟩
/-- Arcs, appended from wherever they lie. -/
theorem run_appA {B : Nat} {w : World} {v : Value} {l l2 : List (Int × Int)} {ad : Addr} {c : Nat} (h : ABRow B w v l) (hB : B ≤ w.heap.size) (hcell : ∀ j u, (encA l2)[j]? = some u → w.cell? (ad.add j) = some u) (hl : l.length + l2.length ≤ 1000000) :
    ∃ a' n' c' w', (∀ ty, (Builtin.append_ #[50, 50] ty #[v, .slice (some ad) l2.length c]).run Tryz.prog w = .ok (.slice a' n' c') w') ∧ ABRow B w' (.slice a' n' c') (l ++ l2) ∧ Turned (fun b => v.ownBlock = some b) w w' ∧ ∀ b, (Value.slice a' n' c').ownBlock = some b → v.ownBlock = some b ∨ w.heap.size ≤ b := by
  obtain ⟨i, hi, hz, hsz, hb⟩ := info_parts infoAR
  obtain ⟨v', w', hr, g1, g2, -, g5⟩ := run_append_own_at (P := Tryz.prog) w B 50 0 54 i _ 2 16 Tryz.underlying50 hi hz hsz hb rfl (by omega) v l.length (encA l) h ad l2.length c (encA l2) (encA_len l2) hcell (encA_one l2) (by unfold maxLen; omega) (by omega) hB
  have e2 : l.length + l2.length = (l ++ l2).length := by simp
  rw [← encA_append, e2] at g1
  have g1' : ABRow B w' v' (l ++ l2) := g1
  obtain ⟨a', c', e, -⟩ := abrow_shape g1'
  subst e
  refine ⟨a', _, c', w', fun ty => hr, g1', ⟨g2.os, g2.tape, g2.output, g2.size, fun k hk hn => g2.block k hk (fun e => hn e.symm)⟩, fun b eb => ?_⟩
  rcases g5 with q | q
  · exact .inl (by rw [← q]; exact eb)
  · have eb2 := Option.some.inj (q.symm.trans eb); exact .inr (by omega)
theorem add_off10 (b off j : Nat) : (⟨b, off, none⟩ : Addr).add j = ⟨b, off + j, none⟩ := by
  unfold Addr.add; split <;> simp_all
/-- arcsWithin in the midst: the box, the arcs told. -/
structure APic (w : World) (c p ma ml me : Nat) (lk : Int) (wv : Value) (l : List (Int × Int)) (W : World) : Prop where
  tur : Turned (fun b => b = c) w W
  box : W.heap[c]? = some (oC p ma ml me lk)
  row : ABRow w.heap.size W wv l
section
variable {w W W' : World} {c p ma ml me : Nat} {lk : Int} {wv : Value} {l : List (Int × Int)}
theorem APic.below (h : APic w c p ma ml me lk wv l W) (hb : Below W.heap.size W W') : APic w c p ma ml me lk wv l W' :=
  ⟨h.tur.trans (turned_of_below hb), (hb.block c (heap_lt h.box)).trans h.box, abrow_kept h.row (fun b e => hb.block b (h.row.lt b e).2)⟩
theorem APic.counted (h : APic w c p ma ml me lk wv l W) (hc : c < w.heap.size) (x : Int) : APic w c p ma ml me x wv l (W.setCell ⟨c, 4, none⟩ (.int .i64 x)) := by
  have ht : Turned (fun b => b = c) W (W.setCell ⟨c, 4, none⟩ (.int .i64 x)) := turned_setCell W ⟨c, 4, none⟩ _ rfl
  exact ⟨h.tur.trans ht, oC_look h.box x, abrow_kept h.row (fun b e => ht.block b (h.row.lt b e).2 (fun q => by have := (h.row.lt b e).1; omega))⟩
theorem APic.grown {r : Nat} (h : APic w c p ma ml me lk wv l W) (hg : W.grownBy W' (some r)) (hr : w.heap.size ≤ r) (hc : c < w.heap.size) (hn : wv.ownBlock ≠ some r) : APic w c p ma ml me lk wv l W' := by
  have hk : ∀ k, k < W.heap.size → k ≠ r → W'.heap[k]? = W.heap[k]? := fun k h1 h2 => hg.block k h1 (fun e => h2 (Option.some.inj e))
  refine ⟨⟨hg.os.trans h.tur.os, hg.tape.trans h.tur.tape, hg.output.trans h.tur.output, Nat.le_trans h.tur.size hg.size, fun k h1 h2 => ?_⟩, (hk c (heap_lt h.box) (by omega)).trans h.box, abrow_kept h.row (fun b e => hk b (h.row.lt b e).2 (fun q => hn (by rw [← q]; exact e)))⟩
  rw [hk k (Nat.lt_of_lt_of_le h1 h.tur.size) (by omega)]
  exact h.tur.block k h1 h2
theorem APic.app (h : APic w c p ma ml me lk wv l W) (hc : c < w.heap.size) (u x : Int) (hl : l.length ≤ 900000) :
    ∃ a' n' c' w', (∀ ty, (Builtin.append_ #[50, 50] ty #[wv, .slice (some ⟨W.heap.size, 0, none⟩) 1 1]).run Tryz.prog (W.alloc (oArc u x)) = .ok (.slice a' n' c') w') ∧ APic w c p ma ml me lk (.slice a' n' c') (l ++ [(u, x)]) w' ∧ W.heap.size ≤ w'.heap.size ∧ (∀ k, k < W.heap.size → wv.ownBlock ≠ some k → w'.heap[k]? = W.heap[k]?) ∧ ∀ b, (Value.slice a' n' c').ownBlock = some b → wv.ownBlock = some b ∨ W.heap.size ≤ b := by
  have hb := below_new W (oArc u x)
  have h2 := h.below hb
  have hcc := cellsArc (heap_alloc_new W (oArc u x))
  obtain ⟨a', n', c', w', r, g1, g2, g3⟩ := run_appA (ad := ⟨W.heap.size, 0, none⟩) (c := 1) (l2 := [(u, x)]) h2.row h2.tur.size (fun j y hj => by
    rw [add_off10, Nat.zero_add]
    match j, hj with
    | 0, hj => injection hj with hj; rw [← hj]; exact hcc.1
    | 1, hj => injection hj with hj; rw [← hj]; exact hcc.2.1
    | j + 2, hj => simp [encA] at hj) (by simp; omega)
  have hs := hb.size
  refine ⟨a', n', c', w', r, ⟨⟨g2.os.trans h2.tur.os, g2.tape.trans h2.tur.tape, g2.output.trans h2.tur.output, Nat.le_trans h2.tur.size g2.size, fun k h1 hk => ?_⟩, (g2.block c (heap_lt h2.box) (fun e => by have := (h2.row.lt c e).1; omega)).trans h2.box, g1⟩, Nat.le_trans hs g2.size, fun k h1 hk => (g2.block k (by omega) hk).trans (hb.block k h1), fun b e => (g3 b e).imp id (fun q => by omega)⟩
  rw [g2.block k (Nat.lt_of_lt_of_le h1 h2.tur.size) (fun e => by have := (h2.row.lt k e).1; omega)]
  exact h2.tur.block k h1 hk
end
/-- Just the arcs that leave one of the first d and stay within its part. -/
def Tells (g : Int → Int → Option Int) (S : List (Part Int)) (ps : List Int) (l : List (Int × Int)) : Prop := ∀ p q, (p, q) ∈ l ↔ p ∈ ps ∧ ArcG g p q ∧ SP S p q
end

section
open Go.RowKit Go.Maps
/-- Behind the first d. -/
def AMid (w : World) (c p ma ml me : Nat) (lk : Int) (g : Int → Int → Option Int) (S : List (Part Int)) (cn : Int → Nat) (ms : List Int) (d : Nat) (wv : Value) (W : World) : Prop :=
  ∃ l, APic w c p ma ml me (lk + (d : Int)) wv l W ∧ Tells g S (ms.take d) l ∧ l.length ≤ ((ms.take d).map cn).sum
/-- In the midst of x's arcs. -/
def AIn (w : World) (c p ma ml me : Nat) (lk : Int) (g : Int → Int → Option Int) (S : List (Part Int)) (cn : Int → Nat) (ms : List Int) (d d1 : Nat) (x : Int) (b r cx : Nat) (wv : Value) (kk : Nat) (W : World) : Prop :=
  ∃ l left, APic w c p ma ml me (lk + (d1 : Int)) wv l W ∧ RangeG edI rdI 0 b r (g x) cx left kk W ∧ wv.ownBlock ≠ some r ∧ r < W.heap.size ∧ (∀ p q, (p, q) ∈ l → (p ∈ ms.take d ∨ p = x) ∧ ArcG g p q ∧ SP S p q) ∧ (∀ p q, p ∈ ms.take d → ArcG g p q → SP S p q → (p, q) ∈ l) ∧ (∀ e q, okN e → left e = false → g x e = some q → SP S x q → (x, q) ∈ l) ∧ l.length + kk ≤ ((ms.take d).map cn).sum + cx
theorem take_one {ms : List Int} {d : Nat} {x : Int} (h : ms[d]? = some x) : ms.take (d + 1) = ms.take d ++ [x] := by rw [List.take_add_one, h]; rfl
theorem sum_one (cn : Int → Nat) (l : List Int) (x : Int) : ((l ++ [x]).map cn).sum = (l.map cn).sum + cn x := by simp
theorem sum_take (cn : Int → Nat) (ms : List Int) (d : Nat) : ((ms.take d).map cn).sum ≤ (ms.map cn).sum := by
  have : ((ms.take d ++ ms.drop d).map cn).sum = (ms.map cn).sum := by rw [List.take_append_drop]
  rw [List.map_append, List.sum_append] at this
  omega
theorem AIn.done {w W : World} {c p ma ml me : Nat} {lk : Int} {g : Int → Int → Option Int} {S : List (Part Int)} {cn : Int → Nat} {ms : List Int} {d : Nat} {x : Int} {l : List (Int × Int)} {wv : Value} (hx : ms[d]? = some x) (hP : APic w c p ma ml me (lk + ((d + 1 : Nat) : Int)) wv l W) (h1 : ∀ p q, (p, q) ∈ l → (p ∈ ms.take d ∨ p = x) ∧ ArcG g p q ∧ SP S p q) (h2 : ∀ p q, p ∈ ms.take d → ArcG g p q → SP S p q → (p, q) ∈ l) (h3 : ∀ q, ArcG g x q → SP S x q → (x, q) ∈ l) (h4 : l.length ≤ ((ms.take d).map cn).sum + cn x) : AMid w c p ma ml me lk g S cn ms (d + 1) wv W := by
  refine ⟨l, hP, fun p q => ?_, ?_⟩
  · rw [take_one hx, List.mem_append, List.mem_singleton]
    refine ⟨h1 p q, fun ⟨k1, k2, k3⟩ => ?_⟩
    rcases k1 with k1 | rfl
    · exact h2 p q k1 k2 k3
    · exact h3 q k2 k3
  · rw [take_one hx, sum_one]; exact h4
/-- What arcsWithin answers. -/
def AwAns (w : World) (c p ma ml me : Nat) (lk : Int) (g : Int → Int → Option Int) (S : List (Part Int)) (cn : Int → Nat) (ms : List Int) (r : Ending) (w' : World) : Prop :=
  ∃ v l, r = .returned v ∧ APic w c p ma ml me (lk + (ms.length : Int)) v l w' ∧ Tells g S ms l ∧ l.length ≤ (ms.map cn).sum
set_option maxHeartbeats 8000000 in
set_option maxRecDepth 100000 in
theorem karcsWithinS {L : Nat → Nat} {a m ml n0 : Nat} {w : World} {f : Int → Option Nat} {g : Int → Int → Option Int} {cn : Int → Nat} {c p ma me : Nat} {lk : Int} {S : List (Part Int)} {ms : List Int} {mv : Value} (h : EndsAt L a w ml f n0 g cn) (hb : w.heap[c]? = some (oC p ma ml me lk)) (hc : L c ≠ a) (hP : PAtN w p m S) (hcf : ¬ FootN p m S c) (hr : NRow w mv ms) (hmc : mv.ownBlock ≠ some c) (hms : ∀ x ∈ ms, okN x) (hV : ∀ p e q, okN p → okN e → g p e = some q → okN q) (hl : 0 ≤ lk) (hl2 : lk ≤ 1000000) (hn : ms.length ≤ 100000) (hcn : (ms.map cn).sum ≤ 800000) :
    Calls Tryz.prog 64 #[.pointer (some ⟨c, 0, none⟩), mv] w fun r w' => Hid (AwAns w c p ma ml me lk g S cn ms r w') := by
  have hcl := heap_lt hb
  obtain ⟨ax, ac, hve, -⟩ := brow_shape hr
  obtain ⟨n, hnn⟩ : ∃ n, n = ms.length := ⟨_, rfl⟩
  have HK : Hid (∀ W, Turned (fun b => b = c) w W → EndsAt L a W ml f n0 g cn ∧ PAtN W p m S ∧ ∀ d x, ms[d]? = some x → ∃ gm, ax = some ⟨gm, 0, none⟩ ∧ W.cell? ⟨gm, d, none⟩ = some (.int .i64 x)) := fun W ht => by
    refine ⟨h.kept (fun b hbl hla => ht.block b hbl (fun e => hc (by rw [← e]; exact hla))), hP.kept (fun k hk => ht.block k (hP.lt hk) (fun e => hcf (by rw [← e]; exact hk))), fun d x hd => ?_⟩
    have hW : NRow W mv ms := nrow_kept hr (fun b e => ht.block b (hr.lt b e).2 (fun q => hmc (by rw [← q]; exact e)))
    have hdl := (List.getElem?_eq_some_iff.1 hd).1
    rcases nrow_shape hW with ⟨-, h0⟩ | ⟨g', c', e⟩
    · rw [h0] at hdl; cases hdl
    · subst hve
      injection e with e1 e2 e3
      subst e1
      refine ⟨g', rfl, ?_⟩
      rw [(nrow_some hW).2.2.2.2 d hdl]
      simp [List.getD, hd]
  have HM0 : Hid (AMid w c p ma ml me lk g S cn ms 0 (.slice none 0 0) w) := ⟨[], ⟨Turned.refl _ _, by rw [show lk + ((0 : Nat) : Int) = lk by omega]; exact hb, ⟨rfl, .inl ⟨rfl, rfl⟩⟩⟩, fun p q => by simp, by simp⟩
  have HX : Hid (L c ≠ a ∧ (∀ x ∈ ms, okN x) ∧ (∀ p e q, okN p → okN e → g p e = some q → okN q) ∧ 0 ≤ lk ∧ lk ≤ 1000000 ∧ n ≤ 100000 ∧ (ms.map cn).sum ≤ 800000 ∧ c < w.heap.size ∧ n = ms.length) := ⟨hc, hms, hV, hl, hl2, by omega, hcn, hcl, hnn⟩
  rw [hve, ← hnn]
  clear h hb hc hP hcf hr hmc hms hV hl hl2 hn hcn hcl hve hnn
  go_enter Tryz.func64, Tryz.ntmps64
  go_upto_region 3 with fail
  go_loopg [5, 12] n (fun kk s5 s12 W => ∃ (d : Nat) (wa : Option Addr) (wn wc : Nat), s12 = .int .i64 d ∧ s5 = .slice wa wn wc ∧ Hid (kk = n - d ∧ d ≤ n ∧ AMid w c p ma ml me lk g S cn ms d (.slice wa wn wc) W))
  case atStart => exact ⟨0, none, 0, 0, rfl, rfl, by omega, Nat.zero_le _, unhide HM0⟩
  case round =>
    obtain ⟨d, wa, wn, wc, rfl, rfl, hR⟩ := hrel
    clear HM0
    obtain ⟨hk, hd, l, hA, hT, hL⟩ := unhide hR
    obtain ⟨x1, x2, x3, x4, x5, x6, x7, x8, x9⟩ := unhide HX
    by_cases hlt : d < n
    · have z1 : (d : Int) < (n : Int) := by omega
      obtain ⟨x, hx⟩ : ∃ x, ms[d]? = some x := ⟨_, List.getElem?_eq_getElem (by omega)⟩
      have hxo := x2 x (List.mem_of_getElem? hx)
      obtain ⟨E1, P1, R1⟩ := unhide HK wr hA.tur
      obtain ⟨gm, rfl, k1⟩ := R1 d x hx
      obtain ⟨-, -, c3, -, -, -⟩ := cellsC hA.box
      obtain ⟨d1, hd1⟩ : ∃ d1, d1 = d + 1 := ⟨_, rfl⟩
      have CL := hide (klookS E1 hA.box x1 hxo (by omega) (by omega))
      have e1 : lk + (d : Int) + 1 = lk + (d1 : Int) := by omega
      rw [e1] at CL
      have hA3 := hA.counted x8 (lk + (d1 : Int))
      obtain ⟨w3, hw3⟩ : ∃ w3, w3 = wr.setCell ⟨c, 4, none⟩ (.int .i64 (lk + (d1 : Int))) := ⟨_, rfl⟩
      rw [← hw3] at CL hA3
      have HI : Hid (APic w c p ma ml me (lk + (d1 : Int)) (.slice wa wn wc) l w3 ∧ Tells g S (ms.take d) l ∧ l.length ≤ ((ms.take d).map cn).sum ∧ ms[d]? = some x ∧ okN x ∧ d1 = d + 1 ∧ gk = n - d ∧ d < n) := ⟨hA3, hT, hL, hx, hxo, hd1, hk, hlt⟩
      have zw : IntKind.i64.wrap ((d : Int) + 1) = (d1 : Int) := by rw [IntKind.wrap_i64]; omega
      clear hR hk hd hA hT hL x1 x2 x3 x4 x5 x6 x7 x8 x9 hlt hx hxo E1 P1 R1 hd1 e1 hA3 hw3
      go_wp2_with fail
      refine (unhide CL).mono ?_
      rintro e w4 ⟨rfl, rfl⟩
      clear CL k1 c3
      cases hf : f x with
      | none =>
        have hrg := run_range_nilMap (P := Tryz.prog) w4 88 3 3 Tryz.underlying88
        have hnx : ∀ ty, (Instr.next (.pointer (some ⟨w4.heap.size, 0, none⟩)) false ty).run Tryz.prog (w4.alloc (.mapIter none 0 #[] 0)) = .ok (.tuple #[.bool false]) (w4.alloc (.mapIter none 0 #[] 0)) := fun ty => run_next_nilMap w4 ty 0 0 #[]
        have HD : Hid (AMid w c p ma ml me lk g S cn ms d1 (.slice wa wn wc) (w4.alloc (.mapIter none 0 #[] 0))) := by
          obtain ⟨q1, q2, q3, q4, q5, rfl, q7, q8⟩ := unhide HI
          refine AIn.done q4 (q1.below (below_new _ _)) (fun p q hm => ⟨.inl ((q2 p q).1 hm).1, ((q2 p q).1 hm).2⟩) (fun p q k1 k2 k3 => (q2 p q).2 ⟨k1, k2, k3⟩) (fun q hq _ => ?_) (by omega)
          obtain ⟨e, he, hge⟩ := hq
          rw [(unhide HK w4 q1.tur).1.non x q5 hf e he] at hge
          cases hge
        have HMS : Hid (n - d1 < gk ∧ d1 ≤ n) := by obtain ⟨q1, q2, q3, q4, q5, q6, q7, q8⟩ := unhide HI; exact ⟨by omega, by omega⟩
        clear hf HI
        go_wp2_with fail
        refine wp_loop_rounds 1 ?_
        rw [rounds_succ]
        go_wp2_with fail
        go_roundg (n - d1)
        case measure => exact (unhide HMS).1
        case rel => exact ⟨d1, _, _, _, rfl, rfl, rfl, (unhide HMS).2, unhide HD⟩
      | some b =>
        obtain ⟨q1, q2, q3, q4, q5, q6, q7, q8⟩ := unhide HI
        have E4 := (unhide HK w4 q1.tur).1
        have hin := E4.inn x b q5 hf
        obtain ⟨w5, hrg, hR5, hgr, hsz⟩ := hin.range (t := 88) (e := 3) Tryz.underlying88
        have hb5 : Below w4.heap.size w4 w5 := ⟨hgr.os, hgr.tape, hgr.output, hgr.size, fun k hk => hgr.block k hk (by simp)⟩
        obtain ⟨r, hr⟩ : ∃ r, r = w4.heap.size := ⟨_, rfl⟩
        rw [← hr] at hrg hR5
        have hbb : b ≠ c ∧ b < r := ⟨fun e => (unhide HX).1 (by rw [← e]; exact E4.lb x b q5 hf), by rw [hr]; exact hin.lt⟩
        have hwb : w.heap.size ≤ r := by rw [hr]; exact q1.tur.size
        have HI0 : Hid (AIn w c p ma ml me lk g S cn ms d d1 x b r (cn x) (.slice wa wn wc) (cn x) w5) := by
          refine ⟨l, _, q1.below hb5, hR5, fun e => ?_, by omega, fun p q hm => ⟨.inl ((q2 p q).1 hm).1, ((q2 p q).1 hm).2⟩, fun p q k1 k2 k3 => (q2 p q).2 ⟨k1, k2, k3⟩, fun e q he hl hg => ?_, by omega⟩
          · have := (q1.row.lt r e).2; omega
          · rw [hg] at hl; cases hl
        have HRS : Hid (okN x ∧ ms[d]? = some x ∧ d1 = d + 1 ∧ b < r ∧ w.heap.size ≤ r ∧ b < w.heap.size) := ⟨q5, q4, q6, hbb.2, hwb, by
          have := ((unhide HK w (Turned.refl _ _)).1.inn x b q5 hf).lt
          exact this⟩
        have HMS : Hid (n - d1 < gk ∧ d1 ≤ n) := ⟨by omega, by omega⟩
        have HHR := hide hr
        clear hf HI q1 q2 q3 q4 q5 q6 q7 q8 E4 hin hR5 hgr hsz hb5 hbb hwb
        rw [hr] at hrg
        clear hr
        generalize hcx : cn x = cx at *
        have HCX := hide hcx
        clear hcx
        go_wp2_with fail
        rw [← unhide HHR]
        clear hrg HHR
        go_loopg [5] cx (fun kk s5 W => ∃ (wa : Option Addr) (wn wc : Nat), s5 = .slice wa wn wc ∧ Hid (AIn w c p ma ml me lk g S cn ms d d1 x b r cx (.slice wa wn wc) kk W))
        case atStart => exact ⟨_, _, _, rfl, unhide HI0⟩
        case round =>
          obtain ⟨wa2, wn2, wc2, rfl, hR⟩ := hrel
          clear HI0
          obtain ⟨l2, left, hA, hRg, hwr, hrl, i1, i2, i3, i4⟩ := unhide hR
          obtain ⟨y1, y2, y3, y4, y5, y6⟩ := unhide HRS
          have y7 := (unhide HX).2.2.2.2.2.2.2.1
          rcases hRg.next kitI 0 with ⟨hc0, hall, hrun⟩ | ⟨e, q, w6, c6, hoe, hle, hge, hrun, hen, hRg6, hlt, hgr, hsz⟩
          · have HD : Hid (AMid w c p ma ml me lk g S cn ms d1 (.slice wa2 wn2 wc2) wr) := by
              subst y3
              refine AIn.done y2 hA i1 i2 (fun q hq hs => ?_) (by have := unhide HCX; omega)
              obtain ⟨e, he, hge⟩ := hq
              exact i3 e q he (hall e he) hge hs
            clear hR hA hRg hwr hrl i1 i2 i3 i4 y1 y2 y3 y4 y5 y6 y7 hall hc0
            go_wp2_with fail
            go_roundg (n - d1)
            case measure => exact (unhide HMS).1
            case rel => exact ⟨d1, _, _, _, rfl, rfl, rfl, (unhide HMS).2, unhide HD⟩
          · replace hrun : (Instr.next (.pointer (some ⟨r, 0, none⟩)) false 0).run Tryz.prog wr = .ok (.tuple #[.bool true, .int .i64 e, .int .i64 q]) w6 := hrun
            replace hen : (Instr.entry (.pointer (some ⟨r, 0, none⟩))).run Tryz.prog w6 = .ok (.tuple #[.int .i64 e, .int .i64 q]) w6 := hen
            have hqo := (unhide HX).2.2.1 x e q y1 hoe hge
            have hA6 := hA.grown hgr y5 y7 hwr
            have CS := hide (kSameS hA6.box (unhide HK w6 hA6.tur).2.1 y1 hqo)
            have hsum := sum_take cn ms d1
            have hs2 : ((ms.take d1).map cn).sum = ((ms.take d).map cn).sum + cx := by rw [y3, take_one y2, sum_one, unhide HCX]
            have hl2 : l2.length ≤ 800000 := by have := (unhide HX).2.2.2.2.2.2.1; omega
            have old : ∀ {e' q'}, okN e' → (left e' && decide (e' ≠ e)) = false → g x e' = some q' → SP S x q' → (x, q') ∈ l2 ∨ q' = q := fun {e' q'} he hl hg hs => by
              by_cases z : e' = e
              · subst z; exact .inr (Option.some.inj (hg.symm.trans hge))
              · rw [decide_eq_true z, Bool.and_true] at hl
                exact .inl (i3 e' q' he hl hg hs)
            have HNo : Hid (¬ SP S x q → AIn w c p ma ml me lk g S cn ms d d1 x b r cx (.slice wa2 wn2 wc2) c6 w6) := fun hn => by
              refine ⟨l2, _, hA6, hRg6, hwr, by omega, i1, i2, fun e' q' he' hl' hg' hs' => ?_, by omega⟩
              rcases old he' hl' hg' hs' with h | h
              · exact h
              · rw [h] at hs'; exact absurd hs' hn
            obtain ⟨a', n', c', w10, r10, hA10, t1, t2, t3⟩ := hA6.app y7 x q (by omega)
            have HYes : Hid (SP S x q → AIn w c p ma ml me lk g S cn ms d d1 x b r cx (.slice a' n' c') c6 w10) := fun hs => by
              have hbw : (Value.slice wa2 wn2 wc2).ownBlock ≠ some b := fun z => by have := (hA6.row.lt b z).1; omega
              refine ⟨l2 ++ [(x, q)], _, hA10, hRg6.same (t2 b (by omega) hbw) (t2 r (by omega) hwr), fun z => ?_, by omega, fun p' q' hm => ?_, fun p' q' k1 k2 k3 => List.mem_append.2 (.inl (i2 p' q' k1 k2 k3)), fun e' q' he' hl' hg' hs' => ?_, by rw [List.length_append]; show l2.length + 1 + c6 ≤ _; omega⟩
              · rcases t3 r z with z | z
                · exact hwr z
                · omega
              · rcases List.mem_append.1 hm with hm | hm
                · exact i1 p' q' hm
                · have hm := List.mem_singleton.1 hm
                  injection hm with m1 m2
                  subst m1 m2
                  exact ⟨.inr rfl, ⟨e, hoe, hge⟩, hs⟩
              · rcases old he' hl' hg' hs' with h | h
                · exact List.mem_append.2 (.inl h)
                · rw [h]; exact List.mem_append.2 (.inr (List.mem_singleton.2 rfl))
            have HR10 := hide r10
            have HC6 := hide hlt
            clear hR hA hRg hwr hrl i1 i2 i3 i4 y1 y2 y3 y4 y5 y6 y7 hoe hle hge hRg6 hlt hgr hsz hqo hA6 hsum hs2 hl2 old r10 hA10 t1 t2 t3
            go_wp2_with fail
            refine (unhide CS).mono ?_
            rintro e7 w7 ⟨t, rfl, HQ⟩
            obtain ⟨hq, rfl⟩ := unhide HQ
            clear CS HQ hrun hen
            cases t with
            | false =>
              have HD := hide (unhide HNo (fun h => by cases hq.2 h))
              clear HNo HYes HR10 hq
              go_wp2_with fail
              go_roundg c6
              case measure => exact unhide HC6
              case rel => exact ⟨_, _, _, rfl, HD⟩
            | true =>
              have HD := hide (unhide HYes (hq.1 rfl))
              clear HNo HYes hq
              go_wp2_with (at_builtin; refine Lib.wpList_append_run _ rfl _ _ 50 50 rfl _ _ rfl rfl _ _ (unhide HR10 _) ?_)
              go_roundg c6
              case measure => exact unhide HC6
              case rel => exact ⟨_, _, _, rfl, HD⟩
    · have z1 : ¬ (d : Int) < (n : Int) := by omega
      obtain rfl : d = n := by omega
      have HE : Hid (AwAns w c p ma ml me lk g S cn ms (.returned (.slice wa wn wc)) wr) := by
        have e : ms.take d = ms := by rw [x9]; exact List.take_length
        rw [e] at hT hL
        rw [x9] at hA
        exact ⟨_, l, rfl, hA, hT, hL⟩
      clear hR hk hd hA hT hL x1 x2 x3 x4 x5 x6 x7 x8 x9 hlt
      go_wp2_with fail
      go_ret
      exact unhide HE
end

end Go.Proofs.YtkmhcgmmbkchaaaGreat
