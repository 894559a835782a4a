/- components walked. -/
import Derived.Test.YtdpdghhieokcfaaComp9
namespace Go.Proofs.Ytdpdghhieokcfaa
open Go.RowKit Go.Maps T9
/-- Amid a round: the list of the place's head stands at idx. -/
def CMid (w0 : World) (V : List Int) (wh hvv : Value) (h : Nat → Nat) (k idx : Nat) (lv : Value) (w : World) : Prop := ∃ f L lvs xss ks, CM w0 V.length wh hvv h f L lv lvs xss w ∧ f (h k) = (idx : Nat) ∧ xss[idx]? = some ks ∧ ks.length ≤ 1000000 ∧ xss.set idx (ks ++ [V.getD k 0]) = compsV V h (k + 1) ∧ ∀ m, m < k + 1 → h m = m → f m = ((headsTo h m).length : Nat)
theorem cmid_old {w0 w : World} {V : List Int} {wh hvv lv : Value} {h : Nat → Nat} {k : Nat} (hC : CMk w0 V wh hvv h k lv w) (hle : ∀ p, h p ≤ p) (hk : h k ≠ k) (hh : h (h k) = h k) (hb : k ≤ 1000000) : CMid w0 V wh hvv h k (headsTo h (h k)).length lv w := by
  obtain ⟨f, L, lvs, hM, hf⟩ := hC
  obtain ⟨e1, e2⟩ := compsV_old (V := V) hle hk hh
  refine ⟨f, L, lvs, _, _, hM, hf (h k) (by have := hle k; omega) hh, e1, ?_, e2, fun m hm hmm => ?_⟩
  · unfold cv; rw [List.length_map]; exact Nat.le_trans (partTo_le _ _ _) hb
  · by_cases e : m = k
    · rw [e] at hmm; exact absurd hmm hk
    · exact hf m (by omega) hmm
/-- .. a head: its place told, and a list opened. -/
theorem cmid_new {w0 w : World} {V : List Int} {hvv : Value} {h : Nat → Nat} {k lm lc gw wn wc : Nat} {lx : Option Addr} (hC : CMk w0 V (.slice (some ⟨gw, 0, none⟩) wn wc) hvv h k (.slice lx lm lc) w) (hle : ∀ p, h p ≤ p) (hk : h k = k) (hkn : k < wn) (hb : k ≤ 1000000) :
    lm = (headsTo h k).length ∧ ∃ x m c w', (∀ ty, (Builtin.append_ #[27, 27] ty #[.slice lx lm lc, .slice (some ⟨(w.setCell ⟨gw, h k, none⟩ (.int .i64 (lm : Nat))).heap.size, 0, none⟩) 1 1]).run Try.prog ((w.setCell ⟨gw, h k, none⟩ (.int .i64 (lm : Nat))).alloc (.cells #[.slice none 0 0] 22)) = .ok (.slice x m c) w') ∧ CMid w0 V (.slice (some ⟨gw, 0, none⟩) wn wc) hvv h k lm (.slice x m c) w' := by
  obtain ⟨f, L, lvs, hM, hf⟩ := hC
  have hlm : lm = (headsTo h k).length := by
    obtain ⟨_, _, e2, -⟩ := hM.ll.shape
    injection e2 with _ e3 _
    rw [e3, compsV_len]
  obtain ⟨x, m, c, w', r, h2⟩ := (hM.setW rfl hkn (lm : Nat)).push (by rw [compsV_len]; exact Nat.le_trans (headsTo_le _ _) hb)
  refine ⟨hlm, x, m, c, w', by rw [hk]; exact r, _, _, _, _, [], h2, ?_, ?_, by simp, ?_, fun j hj hjj => ?_⟩
  · show (if h k = k then ((lm : Nat) : Int) else f (h k)) = _; rw [if_pos hk]
  · rw [List.getElem?_append_right (by rw [compsV_len, ← hlm]; exact Nat.le_refl _), compsV_len, ← hlm, Nat.sub_self]; rfl
  · rw [hlm]; exact compsV_new hle hk
  · show (if j = k then ((lm : Nat) : Int) else f j) = _
    by_cases e : j = k
    · rw [if_pos e, e, hlm]
    · rw [if_neg e]; exact hf j (by omega) hjj
/-- What components leaves. -/
def CoAns (w : World) (V : List Int) (nx : Nat → List Nat) (v : Value) (w' : World) : Prop := ∃ h, Heads nx V.length h ∧ (∀ p, h p ≤ p) ∧ LLs w v (compsV V h V.length) w' ∧ Below w.heap.size w w'
set_option maxHeartbeats 8000000 in
set_option maxRecDepth 100000 in
theorem componentsS {w : World} {gb : Nat} {vv nv : Value} {V : List Int} {nx : Nat → List Nat} (hG : GAt w gb vv nv V nx) (hnx : ∀ p, p < V.length → ∀ q ∈ nx p, q < V.length) (hn : V.length ≤ 100000) (hl : ∀ p, p < V.length → (nx p).length ≤ 1000000) :
    Calls Try.prog 22 #[.pointer (some ⟨gb, 0, none⟩)] w fun e w' => Hid (∃ v, e = .returned v ∧ CoAns w V nx v w') := by
  obtain ⟨n, hne⟩ : ∃ n, n = V.length := ⟨_, rfl⟩
  have HNE := hide hne
  have hmk := @mkI n (by omega)
  have HB : Hid (n ≤ 100000) := by show n ≤ 100000; omega
  obtain ⟨xvv, xcv, hve, -⟩ := brow_shape hG.vr
  rw [← hne] at hve
  subst hve
  obtain ⟨c0, c1, -⟩ := cellsG9 hG.box
  have hb1 := below_new w (.cells (madeCells #[.int .i64 0] n) 3)
  have hG1 := hG.below hb1
  have CH : Hid (Calls Try.prog 32 #[nv] (w.alloc (.cells (madeCells #[.int .i64 0] n) 3)) fun e w' => Hid (∃ hv, e = .returned hv ∧ HeadsAns (w.alloc (.cells (madeCells #[.int .i64 0] n) 3)) nx n hv w')) := by
    have h2 := hG1.nx
    rw [← hne] at h2 hnx hl
    exact headsOfS h2 hnx (by omega) hl
  have HRW : Hid (BRow w.heap.size (w.alloc (.cells (madeCells #[.int .i64 0] n) 3)) (.slice (some ⟨w.heap.size, 0, none⟩) n n) (rowI n (fun _ => 0))) := by
    show BRow w.heap.size (w.alloc (.cells (madeCells #[.int .i64 0] n) 3)) (.slice (some ⟨w.heap.size, 0, none⟩) n n) (rowI n (fun _ => 0))
    rw [← rep_rowI]; exact brow_made n (by omega) w
  obtain ⟨e1, e2, -⟩ := cellsG9 hG1.box
  have HG := hide hG
  have HX := hide (And.intro hnx hl)
  have HB1 := hide hb1
  clear hG hnx hn hl hne hG1 hb1
  go_enter Try.func22, Try.ntmps22
  go_upto_region 3 with fail
  clear hmk c0 c1
  generalize w.alloc (.cells (madeCells #[.int .i64 0] n) 3) = w1 at *
  obtain ⟨gw, hgw⟩ : ∃ gw, gw = w.heap.size := ⟨_, rfl⟩
  rw [← hgw] at HRW ⊢
  have HGW := hide hgw
  clear hgw
  go_wp2_with fail
  refine (unhide CH).mono ?_
  intro r w2 hh
  obtain ⟨hvv, rfl, h, hH, hle, hB2, hr2⟩ := unhide hh
  clear CH hh e1 e2
  obtain ⟨hx, hc, rfl, -⟩ := brow_shape hr2
  rw [rowI_len] at hr2 ⊢
  have HST : Hid (CMk w V (.slice (some ⟨gw, 0, none⟩) n n) (.slice hx n hc) h 0 (.slice none 0 0) w2) := by
    have h1 := unhide HRW
    have hsz := (unhide HB1).size
    rw [unhide HGW] at h1 ⊢
    have hne := unhide HNE
    refine ⟨fun _ => 0, fun b => if b = w.heap.size then 2 else 3, [], ⟨⟨⟨rfl, .inl ⟨rfl, rfl⟩⟩, fun i x ks e => (by cases e), fun b e => (by cases e), fun i x b e => (by cases e)⟩, ?_, ?_, ?_, ?_, (unhide HB1).trans (hB2.mono hsz)⟩, fun m hm => absurd hm (Nat.not_lt_zero _)⟩
    · rw [← hne]; exact brow_kept h1 (fun b e => hB2.block b (h1.lt b e).2)
    · rw [← hne]; exact brow_low hr2 hsz
    · intro b e; exact if_pos (own_eq e).symm
    · intro b e
      have h5 := (hr2.lt b e).1
      have h6 := (h1.lt w.heap.size rfl).2
      exact if_neg (by omega)
  have HH := hide (And.intro hH hle)
  clear hH hle hB2 hr2 HRW HB1 HGW
  go_upto_region 4 with fail
  go_loopw [20, 3] (fun s20 s3 wr => ∃ (k : Nat) (lx : Option Addr) (lm lc : Nat), s20 = .int .i64 (k : Nat) ∧ s3 = .slice lx lm lc ∧ k ≤ n ∧ Hid (CMk w V (.slice (some ⟨gw, 0, none⟩) n n) (.slice hx n hc) h k (.slice lx lm lc) wr)) (fun s20 _ _ => n - (intOf s20).toNat)
  case atStart => exact ⟨0, none, 0, 0, rfl, rfl, Nat.zero_le _, HST⟩
  case round =>
    obtain ⟨k, lx, lm, lc, rfl, rfl, hkn, hC⟩ := hrel
    have hne := unhide HNE
    by_cases hlt : k < n
    · obtain ⟨f0, L0, lv0, hM, -⟩ := id (unhide hC)
      have hM2 := hM
      rw [← hne] at hM2
      obtain ⟨gh, hgh⟩ := brow_some hM2.hr (by rw [rowI_len]; omega)
      subst hgh
      have hG := unhide HG
      obtain ⟨gx, hgx⟩ := brow_some hG.vr (by omega)
      subst hgx
      have hd1 := brow_at hM2.hr (rowI_at (fun p => ((h p : Nat) : Int)) hlt)
      obtain ⟨hH, hle⟩ := unhide HH
      have hhk : h k < n := by have := hle k; omega
      have z0 : (k : Int) < (n : Int) := by omega
      have hM3 := hM2
      obtain ⟨f3, hf3⟩ : ∃ f3, f3 = f0 := ⟨_, rfl⟩
      rw [← hf3] at hM3
      clear hM hM2 hG hf3
      by_cases hkk : h k = k
      · have hz : (((h k : Nat) : Int) == (k : Int)) = true := by simp [hkk]
        obtain ⟨hlm, lx', lm', lc', w4, r4, hMid⟩ := cmid_new (unhide hC) hle hkk hlt (by have := unhide HB; omega)
        have HR4 := hide r4
        have wf : (∀ o, wr.frozen? ⟨gw, o, none⟩ = false) ∧ ∃ x0 : Int, wr.cell? ⟨gw, h k, none⟩ = some (.int .i64 x0) := ⟨(brow_set hM3.wr (k := 0) 0 (by omega)).1, _, brow_at hM3.wr (rowI_at f3 hhk)⟩
        obtain ⟨wf1, x0, wf2⟩ := wf
        have zh : ((h k : Nat) : Int) < (n : Int) := by omega
        have HMID := hide hMid
        have HKK := hide hkk
        have HLT := hide (And.intro hlt hhk)
        clear r4 hMid hlm hH hle hhk HST hC hkk hlt hkn hM3 hne
        go_upto_region 8 with fail
        clear wf1 wf2
        generalize wr.setCell ⟨gw, h k, none⟩ (.int .i64 (lm : Nat)) = w3 at *
        go_upto_region 9 with (at_builtin; refine Lib.wpList_append_run _ rfl _ _ 27 27 rfl _ _ rfl rfl _ _ (unhide HR4 _) ?_)
        clear HR4 hz hd1 zh z0
        obtain ⟨idx, hidx⟩ : ∃ idx, idx = lm := ⟨_, rfl⟩
        rw [← hidx] at HMID
        clear hidx
        obtain ⟨hlt, hhk⟩ := unhide HLT
        obtain ⟨fq, Lq, lvq, xsq, ks, hCq, hfq, hxq, hlq, hsq, hwq⟩ := unhide HMID
        obtain ⟨gl, hgl⟩ : ∃ gl, lx' = some ⟨gl, 0, none⟩ := hCq.ll.some_ (by have := (List.getElem?_eq_some_iff.1 hxq).1; omega)
        subst hgl
        have hml : idx < lm' := by
          obtain ⟨_, _, e2, -⟩ := hCq.ll.shape
          injection e2 with _ e3 _
          have := (List.getElem?_eq_some_iff.1 hxq).1; omega
        have whr := brow_at hCq.wr (rowI_at (p := h k) fq (by have := unhide HNE; omega))
        rw [hfq] at whr
        obtain ⟨x, xn, xc, x', xn', xc', w8, k6, r8, k7, k8, f8, B8, hG⟩ := (hCq.drew 1).put hxq hlq (V.getD k 0)
        have hGd := (unhide HG).below ((hCq.drew 1).below)
        have hGd8 := (unhide HG).below B8
        have B7 : Below w.heap.size w (w4.drew.alloc (.cells #[.int .i64 (V.getD k 0)] 3)) := (hCq.drew 1).below.alloc (hCq.drew 1).below.size _
        have hGd7 := (unhide HG).below B7
        have k6' : w4.drew.cell? ⟨gl, idx, none⟩ = some (.slice x xn xc) := k6
        have k7' : (w4.drew.alloc (.cells #[.int .i64 (V.getD k 0)] 3)).cell? ⟨gl, idx, none⟩ = some (.slice x xn xc) := k7
        have HR8 : Hid (∀ ty, (Builtin.append_ #[22, 22] ty #[.slice x xn xc, .slice (some ⟨w4.drew.heap.size, 0, none⟩) 1 1]).run Try.prog (w4.drew.alloc (.cells #[.int .i64 (V.getD k 0)] 3)) = .ok (.slice x' xn' xc') w8) := r8
        have hvk : V[k]? = some (V.getD k 0) := by rw [List.getD_eq_getElem?_getD, List.getElem?_eq_getElem (by have := unhide HNE; omega)]; rfl
        have v6 : w4.drew.cell? ⟨gx, k, none⟩ = some (.int .i64 (V.getD k 0)) := brow_at hGd.vr hvk
        have v7 : (w4.drew.alloc (.cells #[.int .i64 (V.getD k 0)] 3)).cell? ⟨gx, k, none⟩ = some (.int .i64 (V.getD k 0)) := brow_at hGd7.vr hvk
        have v8 : w8.cell? ⟨gx, k, none⟩ = some (.int .i64 (V.getD k 0)) := brow_at hGd8.vr hvk
        have b6 : w4.drew.cell? ⟨gb, 0, none⟩ = some (.slice (some ⟨gx, 0, none⟩) n xcv) := (cellsG9 hGd.box).1
        have b7 : (w4.drew.alloc (.cells #[.int .i64 (V.getD k 0)] 3)).cell? ⟨gb, 0, none⟩ = some (.slice (some ⟨gx, 0, none⟩) n xcv) := (cellsG9 hGd7.box).1
        have b8 : w8.cell? ⟨gb, 0, none⟩ = some (.slice (some ⟨gx, 0, none⟩) n xcv) := (cellsG9 hGd8.box).1
        have HJ : Hid (CMk w V (.slice (some ⟨gw, 0, none⟩) n n) (.slice (some ⟨gh, 0, none⟩) n hc) h (k + 1) (.slice (some ⟨gl, 0, none⟩) lm' lc') (w8.setCell ⟨gl, idx, none⟩ (.slice x' xn' xc')) ∧ k + 1 ≤ n ∧ n - (k + 1) < n - k) := by
          obtain ⟨L', lvs', hC'⟩ := hG
          rw [hsq] at hC'
          exact ⟨⟨fq, L', lvs', hC', hwq⟩, by omega, by omega⟩
        have zi : (idx : Int) < (lm' : Int) := by omega
        have zh : ((h k : Nat) : Int) < (n : Int) := by omega
        have zk : (k : Int) < (n : Int) := by omega
        obtain ⟨k1, hk1⟩ : ∃ k1, k1 = k + 1 := ⟨_, rfl⟩
        have zw : Hid (wrap64 ((k : Int) + 1) = (k1 : Int)) := by have := unhide HB; show wrap64 ((k : Int) + 1) = (k1 : Int); unfold wrap64; omega
        rw [← hk1] at HJ
        generalize V.getD k 0 = vk at *
        generalize h k = hk at *
        clear hCq hfq hxq hlq hsq hwq r8 hG hGd hGd7 hGd8 B7 B8 k6 k7 hvk HMID hlt hhk hml hk1
        go_upto_region 10 with fail
        clear whr zi
        refine wp_region_noPanic ?_
        refine regionL [14] (fun y => y.cell? ⟨gl, idx, none⟩ = some (.slice x xn xc) ∧ y.cell? ⟨gb, 0, none⟩ = some (.slice (some ⟨gx, 0, none⟩) n xcv) ∧ y.cell? ⟨gx, k, none⟩ = some (.int .i64 vk)) (by kernel_rfl) ⟨k6', b6, v6⟩ (fun hHeld => ?_)
        refine takeL (i := 0) (v := ?t2v0) (some 42) rfl rfl (by kernel_rfl) (by kernel_rfl) (by kernel_rfl) (by kernel_rfl) (by kernel_rfl) (fun _ _ _ h => h) (Or.inl ⟨by rfl, ?t2h0⟩) (by assumption) ?t2r0
        case t2h0 => (intro y hSu; (try dsimp only at hSu); go_simp; first | done | with_reducible rfl)
        (try simp only [Act.put, List.setIfInBounds_toArray, List.set_cons_zero, List.set_cons_succ])
        refine takeL (i := 1) (v := ?t2v1) (some 43) rfl rfl (by kernel_rfl) (by kernel_rfl) (by kernel_rfl) (by kernel_rfl) (by kernel_rfl) (fun _ _ _ h => h) (Or.inl ⟨by rfl, ?t2h1⟩) (by assumption) ?t2r1
        case t2h1 => (intro y hSu; (try dsimp only at hSu); go_simp; first | done | with_reducible rfl)
        (try simp only [Act.put, List.setIfInBounds_toArray, List.set_cons_zero, List.set_cons_succ])
        refine takeL (i := 2) (v := ?t2v2) (some 44) rfl rfl (by kernel_rfl) (by kernel_rfl) (by kernel_rfl) (by kernel_rfl) (by kernel_rfl) (fun _ _ _ h => h) (Or.inl ⟨by rfl, ?t2h2⟩) (by assumption) ?t2r2
        case t2h2 => (intro y hSu; (try dsimp only at hSu); go_simp; first | done | with_reducible rfl)
        (try simp only [Act.put, List.setIfInBounds_toArray, List.set_cons_zero, List.set_cons_succ])
        refine takeL (i := 3) (v := ?t2v3) (some 45) rfl rfl (by kernel_rfl) (by kernel_rfl) (by kernel_rfl) (by kernel_rfl) (by kernel_rfl) (fun _ _ _ h => h) (Or.inl ⟨by rfl, ?t2h3⟩) (by assumption) ?t2r3
        case t2h3 => (intro y hSu; (try dsimp only at hSu); go_simp; first | done | with_reducible rfl)
        (try simp only [Act.put, List.setIfInBounds_toArray, List.set_cons_zero, List.set_cons_succ])
        refine takeL (i := 4) (v := ?t2v4) (some 46) rfl rfl (by kernel_rfl) (by kernel_rfl) (by kernel_rfl) (by kernel_rfl) (by kernel_rfl) (fun _ _ _ h => h) (Or.inl ⟨by rfl, ?t2h4⟩) (by assumption) ?t2r4
        case t2h4 => (intro y hSu; (try dsimp only at hSu); go_simp; first | done | with_reducible rfl)
        (try simp only [Act.put, List.setIfInBounds_toArray, List.set_cons_zero, List.set_cons_succ])
        refine takeL (i := 5) (v := ?t2v5) (some 47) rfl rfl (by kernel_rfl) (by kernel_rfl) (by kernel_rfl) (by kernel_rfl) (by kernel_rfl) (fun _ _ _ h => h) (Or.inl ⟨by rfl, ?t2h5⟩) (by assumption) ?t2r5
        case t2h5 => (intro y hSu; (try dsimp only at hSu); go_simp; first | done | with_reducible rfl)
        (try simp only [Act.put, List.setIfInBounds_toArray, List.set_cons_zero, List.set_cons_succ])
        refine takeL (i := 6) (v := ?t2v6) (some 48) rfl rfl (by kernel_rfl) (by kernel_rfl) (by kernel_rfl) (by kernel_rfl) (by kernel_rfl) (fun _ _ _ h => h) (Or.inl ⟨by rfl, ?t2h6⟩) (by assumption) ?t2r6
        case t2h6 => (intro y hSu; (try dsimp only at hSu); go_simp; first | done | with_reducible rfl)
        (try simp only [Act.put, List.setIfInBounds_toArray, List.set_cons_zero, List.set_cons_succ])
        refine takeL (i := 7) (v := ?t2v7) (some 49) rfl rfl (by kernel_rfl) (by kernel_rfl) (by kernel_rfl) (by kernel_rfl) (by kernel_rfl) (fun _ _ _ h => h) (Or.inl ⟨by rfl, ?t2h7⟩) (by assumption) ?t2r7
        case t2h7 => (intro y hSu; (try dsimp only at hSu); go_simp; first | done | with_reducible rfl)
        (try simp only [Act.put, List.setIfInBounds_toArray, List.set_cons_zero, List.set_cons_succ])
        refine takeL (i := 8) (v := ?t2v8) (some 50) rfl rfl (by kernel_rfl) (by kernel_rfl) (by kernel_rfl) (by kernel_rfl) (by kernel_rfl) (fun _ _ _ h => h) (Or.inl ⟨by rfl, ?t2h8⟩) (by assumption) ?t2r8
        case t2h8 => (intro y hSu; (try dsimp only at hSu); go_simp; first | done | with_reducible rfl)
        (try simp only [Act.put, List.setIfInBounds_toArray, List.set_cons_zero, List.set_cons_succ])
        refine takeL (i := 9) (v := ?t2v9) (some 51) rfl rfl (by kernel_rfl) (by kernel_rfl) (by kernel_rfl) (by kernel_rfl) (by kernel_rfl) (fun _ _ _ h => h) (Or.inl ⟨by rfl, ?t2h9⟩) (by assumption) ?t2r9
        case t2h9 => (intro y hSu; (try dsimp only at hSu); go_simp; first | done | with_reducible rfl)
        (try simp only [Act.put, List.setIfInBounds_toArray, List.set_cons_zero, List.set_cons_succ])
        refine takeL (i := 10) (v := ?t2v10) (some 52) rfl rfl (by kernel_rfl) (by kernel_rfl) (by kernel_rfl) (by kernel_rfl) (by kernel_rfl) (fun _ _ _ h => h) (Or.inl ⟨by rfl, ?t2h10⟩) (by assumption) ?t2r10
        case t2h10 => (intro y hSu; (try dsimp only at hSu); go_simp; first | done | with_reducible rfl)
        (try simp only [Act.put, List.setIfInBounds_toArray, List.set_cons_zero, List.set_cons_succ])
        refine readyL (i := 11) (by kernel_rfl) rfl (fun K hK => ?_)
        go_simp
        refine hK.out _ _ (fun _ => (And.intro k7' (And.intro b7 v7))) ?_
        clear hK K
        (try simp only [Act.put, List.setIfInBounds_toArray, List.set_cons_zero, List.set_cons_succ])
        have hH4 := (And.intro k7' (And.intro b7 v7))
        refine readyL (i := 12) (by kernel_rfl) rfl (fun K hK => ?_)
        refine step_append_run rfl (.tmp 45) (.tmp 53) 22 rfl _ _ (by simp [Act.eval]) (by simp [Act.eval]) _ _ (unhide HR8 _) ?_
        refine hK.out _ _ (fun _ => (And.intro k8 (And.intro b8 v8))) ?_
        clear hK K
        (try simp only [Act.put, List.setIfInBounds_toArray])
        have hH5 := (And.intro k8 (And.intro b8 v8))
        refine takeL (i := 13) (v := ?t6v13) (some 55) rfl rfl (by kernel_rfl) (by kernel_rfl) (by kernel_rfl) (by kernel_rfl) (by kernel_rfl) (fun _ _ _ h => h) (Or.inl ⟨by rfl, ?t6h13⟩) (by assumption) ?t6r13
        case t6h13 => (intro y hSu; (try dsimp only at hSu); go_simp; first | done | with_reducible rfl)
        (try simp only [Act.put])
        refine readyL (i := 14) (by kernel_rfl) rfl (fun K hK => ?_)
        go_simp
        refine hK.out _ _ (fun h => by cases h) ?_
        clear hK K
        (try simp only [Act.put, List.setIfInBounds_toArray, List.set_cons_zero, List.set_cons_succ])
        refine doneL (by kernel_rfl) ?_ _
        refine NoPanic.normal ?_
        go_wp2_with fail
        rw [unhide zw]
        exact ⟨⟨k1, _, _, _, rfl, rfl, (unhide HJ).2.1, (unhide HJ).1⟩, by have := (unhide HJ).2.2; simp [intOf]; omega⟩
      · have hz : (((h k : Nat) : Int) == (k : Int)) = false := by simp; omega
        have hMid := cmid_old (unhide hC) hle hkk (hH.idem (by omega)) (by have := unhide HB; omega)
        have HMID := hide hMid
        have HLT := hide (And.intro hlt hhk)
        obtain ⟨idx, hidx⟩ : ∃ idx, idx = (headsTo h (h k)).length := ⟨_, rfl⟩
        rw [← hidx] at HMID
        clear hMid hH hle hhk HST hC hkk hlt hkn hM3 hne hidx
        go_upto_region 9 with fail
        clear hz hd1 z0
        generalize wr = w4 at *
        obtain ⟨hlt, hhk⟩ := unhide HLT
        obtain ⟨fq, Lq, lvq, xsq, ks, hCq, hfq, hxq, hlq, hsq, hwq⟩ := unhide HMID
        obtain ⟨gl, hgl⟩ : ∃ gl, lx = some ⟨gl, 0, none⟩ := hCq.ll.some_ (by have := (List.getElem?_eq_some_iff.1 hxq).1; omega)
        subst hgl
        have hml : idx < lm := by
          obtain ⟨_, _, e2, -⟩ := hCq.ll.shape
          injection e2 with _ e3 _
          have := (List.getElem?_eq_some_iff.1 hxq).1; omega
        have whr := brow_at hCq.wr (rowI_at (p := h k) fq (by have := unhide HNE; omega))
        rw [hfq] at whr
        obtain ⟨x, xn, xc, x', xn', xc', w8, k6, r8, k7, k8, f8, B8, hG⟩ := (hCq.drew 1).put hxq hlq (V.getD k 0)
        have hGd := (unhide HG).below ((hCq.drew 1).below)
        have hGd8 := (unhide HG).below B8
        have B7 : Below w.heap.size w (w4.drew.alloc (.cells #[.int .i64 (V.getD k 0)] 3)) := (hCq.drew 1).below.alloc (hCq.drew 1).below.size _
        have hGd7 := (unhide HG).below B7
        have k6' : w4.drew.cell? ⟨gl, idx, none⟩ = some (.slice x xn xc) := k6
        have k7' : (w4.drew.alloc (.cells #[.int .i64 (V.getD k 0)] 3)).cell? ⟨gl, idx, none⟩ = some (.slice x xn xc) := k7
        have HR8 : Hid (∀ ty, (Builtin.append_ #[22, 22] ty #[.slice x xn xc, .slice (some ⟨w4.drew.heap.size, 0, none⟩) 1 1]).run Try.prog (w4.drew.alloc (.cells #[.int .i64 (V.getD k 0)] 3)) = .ok (.slice x' xn' xc') w8) := r8
        have hvk : V[k]? = some (V.getD k 0) := by rw [List.getD_eq_getElem?_getD, List.getElem?_eq_getElem (by have := unhide HNE; omega)]; rfl
        have v6 : w4.drew.cell? ⟨gx, k, none⟩ = some (.int .i64 (V.getD k 0)) := brow_at hGd.vr hvk
        have v7 : (w4.drew.alloc (.cells #[.int .i64 (V.getD k 0)] 3)).cell? ⟨gx, k, none⟩ = some (.int .i64 (V.getD k 0)) := brow_at hGd7.vr hvk
        have v8 : w8.cell? ⟨gx, k, none⟩ = some (.int .i64 (V.getD k 0)) := brow_at hGd8.vr hvk
        have b6 : w4.drew.cell? ⟨gb, 0, none⟩ = some (.slice (some ⟨gx, 0, none⟩) n xcv) := (cellsG9 hGd.box).1
        have b7 : (w4.drew.alloc (.cells #[.int .i64 (V.getD k 0)] 3)).cell? ⟨gb, 0, none⟩ = some (.slice (some ⟨gx, 0, none⟩) n xcv) := (cellsG9 hGd7.box).1
        have b8 : w8.cell? ⟨gb, 0, none⟩ = some (.slice (some ⟨gx, 0, none⟩) n xcv) := (cellsG9 hGd8.box).1
        have HJ : Hid (CMk w V (.slice (some ⟨gw, 0, none⟩) n n) (.slice (some ⟨gh, 0, none⟩) n hc) h (k + 1) (.slice (some ⟨gl, 0, none⟩) lm lc) (w8.setCell ⟨gl, idx, none⟩ (.slice x' xn' xc')) ∧ k + 1 ≤ n ∧ n - (k + 1) < n - k) := by
          obtain ⟨L', lvs', hC'⟩ := hG
          rw [hsq] at hC'
          exact ⟨⟨fq, L', lvs', hC', hwq⟩, by omega, by omega⟩
        have zi : (idx : Int) < (lm : Int) := by omega
        have zh : ((h k : Nat) : Int) < (n : Int) := by omega
        have zk : (k : Int) < (n : Int) := by omega
        obtain ⟨k1, hk1⟩ : ∃ k1, k1 = k + 1 := ⟨_, rfl⟩
        have zw : Hid (wrap64 ((k : Int) + 1) = (k1 : Int)) := by have := unhide HB; show wrap64 ((k : Int) + 1) = (k1 : Int); unfold wrap64; omega
        rw [← hk1] at HJ
        generalize V.getD k 0 = vk at *
        generalize h k = hk at *
        clear hCq hfq hxq hlq hsq hwq r8 hG hGd hGd7 hGd8 B7 B8 k6 k7 hvk HMID hlt hhk hml hk1
        go_upto_region 10 with fail
        clear whr zi
        refine wp_region_noPanic ?_
        refine regionL [14] (fun y => y.cell? ⟨gl, idx, none⟩ = some (.slice x xn xc) ∧ y.cell? ⟨gb, 0, none⟩ = some (.slice (some ⟨gx, 0, none⟩) n xcv) ∧ y.cell? ⟨gx, k, none⟩ = some (.int .i64 vk)) (by kernel_rfl) ⟨k6', b6, v6⟩ (fun hHeld => ?_)
        refine takeL (i := 0) (v := ?t11v0) (some 42) rfl rfl (by kernel_rfl) (by kernel_rfl) (by kernel_rfl) (by kernel_rfl) (by kernel_rfl) (fun _ _ _ h => h) (Or.inl ⟨by rfl, ?t11h0⟩) (by assumption) ?t11r0
        case t11h0 => (intro y hSu; (try dsimp only at hSu); go_simp; first | done | with_reducible rfl)
        (try simp only [Act.put, List.setIfInBounds_toArray, List.set_cons_zero, List.set_cons_succ])
        refine takeL (i := 1) (v := ?t11v1) (some 43) rfl rfl (by kernel_rfl) (by kernel_rfl) (by kernel_rfl) (by kernel_rfl) (by kernel_rfl) (fun _ _ _ h => h) (Or.inl ⟨by rfl, ?t11h1⟩) (by assumption) ?t11r1
        case t11h1 => (intro y hSu; (try dsimp only at hSu); go_simp; first | done | with_reducible rfl)
        (try simp only [Act.put, List.setIfInBounds_toArray, List.set_cons_zero, List.set_cons_succ])
        refine takeL (i := 2) (v := ?t11v2) (some 44) rfl rfl (by kernel_rfl) (by kernel_rfl) (by kernel_rfl) (by kernel_rfl) (by kernel_rfl) (fun _ _ _ h => h) (Or.inl ⟨by rfl, ?t11h2⟩) (by assumption) ?t11r2
        case t11h2 => (intro y hSu; (try dsimp only at hSu); go_simp; first | done | with_reducible rfl)
        (try simp only [Act.put, List.setIfInBounds_toArray, List.set_cons_zero, List.set_cons_succ])
        refine takeL (i := 3) (v := ?t11v3) (some 45) rfl rfl (by kernel_rfl) (by kernel_rfl) (by kernel_rfl) (by kernel_rfl) (by kernel_rfl) (fun _ _ _ h => h) (Or.inl ⟨by rfl, ?t11h3⟩) (by assumption) ?t11r3
        case t11h3 => (intro y hSu; (try dsimp only at hSu); go_simp; first | done | with_reducible rfl)
        (try simp only [Act.put, List.setIfInBounds_toArray, List.set_cons_zero, List.set_cons_succ])
        refine takeL (i := 4) (v := ?t11v4) (some 46) rfl rfl (by kernel_rfl) (by kernel_rfl) (by kernel_rfl) (by kernel_rfl) (by kernel_rfl) (fun _ _ _ h => h) (Or.inl ⟨by rfl, ?t11h4⟩) (by assumption) ?t11r4
        case t11h4 => (intro y hSu; (try dsimp only at hSu); go_simp; first | done | with_reducible rfl)
        (try simp only [Act.put, List.setIfInBounds_toArray, List.set_cons_zero, List.set_cons_succ])
        refine takeL (i := 5) (v := ?t11v5) (some 47) rfl rfl (by kernel_rfl) (by kernel_rfl) (by kernel_rfl) (by kernel_rfl) (by kernel_rfl) (fun _ _ _ h => h) (Or.inl ⟨by rfl, ?t11h5⟩) (by assumption) ?t11r5
        case t11h5 => (intro y hSu; (try dsimp only at hSu); go_simp; first | done | with_reducible rfl)
        (try simp only [Act.put, List.setIfInBounds_toArray, List.set_cons_zero, List.set_cons_succ])
        refine takeL (i := 6) (v := ?t11v6) (some 48) rfl rfl (by kernel_rfl) (by kernel_rfl) (by kernel_rfl) (by kernel_rfl) (by kernel_rfl) (fun _ _ _ h => h) (Or.inl ⟨by rfl, ?t11h6⟩) (by assumption) ?t11r6
        case t11h6 => (intro y hSu; (try dsimp only at hSu); go_simp; first | done | with_reducible rfl)
        (try simp only [Act.put, List.setIfInBounds_toArray, List.set_cons_zero, List.set_cons_succ])
        refine takeL (i := 7) (v := ?t11v7) (some 49) rfl rfl (by kernel_rfl) (by kernel_rfl) (by kernel_rfl) (by kernel_rfl) (by kernel_rfl) (fun _ _ _ h => h) (Or.inl ⟨by rfl, ?t11h7⟩) (by assumption) ?t11r7
        case t11h7 => (intro y hSu; (try dsimp only at hSu); go_simp; first | done | with_reducible rfl)
        (try simp only [Act.put, List.setIfInBounds_toArray, List.set_cons_zero, List.set_cons_succ])
        refine takeL (i := 8) (v := ?t11v8) (some 50) rfl rfl (by kernel_rfl) (by kernel_rfl) (by kernel_rfl) (by kernel_rfl) (by kernel_rfl) (fun _ _ _ h => h) (Or.inl ⟨by rfl, ?t11h8⟩) (by assumption) ?t11r8
        case t11h8 => (intro y hSu; (try dsimp only at hSu); go_simp; first | done | with_reducible rfl)
        (try simp only [Act.put, List.setIfInBounds_toArray, List.set_cons_zero, List.set_cons_succ])
        refine takeL (i := 9) (v := ?t11v9) (some 51) rfl rfl (by kernel_rfl) (by kernel_rfl) (by kernel_rfl) (by kernel_rfl) (by kernel_rfl) (fun _ _ _ h => h) (Or.inl ⟨by rfl, ?t11h9⟩) (by assumption) ?t11r9
        case t11h9 => (intro y hSu; (try dsimp only at hSu); go_simp; first | done | with_reducible rfl)
        (try simp only [Act.put, List.setIfInBounds_toArray, List.set_cons_zero, List.set_cons_succ])
        refine takeL (i := 10) (v := ?t11v10) (some 52) rfl rfl (by kernel_rfl) (by kernel_rfl) (by kernel_rfl) (by kernel_rfl) (by kernel_rfl) (fun _ _ _ h => h) (Or.inl ⟨by rfl, ?t11h10⟩) (by assumption) ?t11r10
        case t11h10 => (intro y hSu; (try dsimp only at hSu); go_simp; first | done | with_reducible rfl)
        (try simp only [Act.put, List.setIfInBounds_toArray, List.set_cons_zero, List.set_cons_succ])
        refine readyL (i := 11) (by kernel_rfl) rfl (fun K hK => ?_)
        go_simp
        refine hK.out _ _ (fun _ => (And.intro k7' (And.intro b7 v7))) ?_
        clear hK K
        (try simp only [Act.put, List.setIfInBounds_toArray, List.set_cons_zero, List.set_cons_succ])
        have hH13 := (And.intro k7' (And.intro b7 v7))
        refine readyL (i := 12) (by kernel_rfl) rfl (fun K hK => ?_)
        refine step_append_run rfl (.tmp 45) (.tmp 53) 22 rfl _ _ (by simp [Act.eval]) (by simp [Act.eval]) _ _ (unhide HR8 _) ?_
        refine hK.out _ _ (fun _ => (And.intro k8 (And.intro b8 v8))) ?_
        clear hK K
        (try simp only [Act.put, List.setIfInBounds_toArray])
        have hH14 := (And.intro k8 (And.intro b8 v8))
        refine takeL (i := 13) (v := ?t15v13) (some 55) rfl rfl (by kernel_rfl) (by kernel_rfl) (by kernel_rfl) (by kernel_rfl) (by kernel_rfl) (fun _ _ _ h => h) (Or.inl ⟨by rfl, ?t15h13⟩) (by assumption) ?t15r13
        case t15h13 => (intro y hSu; (try dsimp only at hSu); go_simp; first | done | with_reducible rfl)
        (try simp only [Act.put])
        refine readyL (i := 14) (by kernel_rfl) rfl (fun K hK => ?_)
        go_simp
        refine hK.out _ _ (fun h => by cases h) ?_
        clear hK K
        (try simp only [Act.put, List.setIfInBounds_toArray, List.set_cons_zero, List.set_cons_succ])
        refine doneL (by kernel_rfl) ?_ _
        refine NoPanic.normal ?_
        go_wp2_with fail
        rw [unhide zw]
        exact ⟨⟨k1, _, _, _, rfl, rfl, (unhide HJ).2.1, (unhide HJ).1⟩, by have := (unhide HJ).2.2; simp [intOf]; omega⟩
    · have z0 : ¬ (k : Int) < (n : Int) := by omega
      obtain rfl : k = n := by omega
      obtain ⟨f, L, lvs, hM, -⟩ := unhide hC
      have HGO : Hid (CoAns w V nx (.slice lx lm lc) wr) := by
        obtain ⟨hH, hle⟩ := unhide HH
        rw [hne] at hH hM
        exact ⟨h, hH, hle, ⟨L, lvs, hM.ll⟩, hM.below⟩
      clear hM hC hlt hkn HST hne
      go_wp2_with fail
      go_ret
      exact ⟨_, rfl, unhide HGO⟩
end Go.Proofs.Ytdpdghhieokcfaa
